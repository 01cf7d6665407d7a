import PyProof.Rows.All
import Wide.All
import OpenK.AllK
import Wide.FinOn
import Lean
import PyProof.EqAt
import PyProof.EqKinds
import PyProof.TupleCall
import KE.KIsNot
import PyProof.ExcArgs
import OpenK.KOwn
import KE.LcSums
import PyProof.EnumMake
import PyProof.Draws
import PyProof.Rows.EnumRows
import PyProof.ExcBaseAll.ValueError
import PyProof.NsDelKeeps
import PyProof.Rows.SetFrom
import PyProof.WalksMore
import KE.KDictSum
import PyProof.Rows.MinMaxN
import PyProof.Rows.CallKwBuiltin
import KE.KMinKey
import KE.KSortKey
import PyProof.DictWalks
import PySem.SetOps
import KE.KSortTup
import PyProof.TupleKey
import PyProof.SetKind
import PyProof.IsRules
import PyProof.Rules
import PyProof.DictKinds
import PyProof.PureInt
import PyProof.FactsAll.tuple_2
import KE.KSortAsk
import PyProof.DictIter
import KE.KItemsList
import PyProof.DictUpdate
import PyProof.DictRoadsH
import PySem.Challenge.RW_ladderhall_k70_whole_without
set_option genSizeOf false
set_option genInjectivity false
set_option Elab.async false
set_option linter.all false
set_option maxRecDepth 100000
set_option maxHeartbeats 0
noncomputable section
open List (range replicate)
open Int (ofNat_eq_natCast)
abbrev Tl:=PySem.Value->PySem.Shared->Prop
def Qa:=@PySem.wpAny_bind
def Qb:=@List.length_map
def Qc:=@List.getElem?_eq_getElem
def Qd:=@PySem.wpAny_pure
def Qe:=@PySem.Heap.get?_push_of_some
def Qf:=@List.mem_cons_of_mem
def Qg:=@List.mem_cons_self
def Qh:=@if_pos
def Qi:=@List.getD_eq_getElem?_getD
def Qj:=@Nat.le_refl
def Qk:=@List.length_append
def Ql:=@if_neg
def Qm:=@List.mem_cons
def Qn:=@List.size_toArray
def Qo:=@List.mem_map
def Qp:=@List.getElem?_map
def Qq:=@PySem.Heap.lt_size
def Qr:=@decide_eq_true
def Qs:=@Bool.false_eq_true
def Qt:=@List.mem_append_right
def Qu:=@PyProof.Rows.boot_tuple
def Qv:=@PySem.Heap.get?_push_size
def Qw:=@Nat.le_trans
def Qx:=@Nat.lt_of_lt_of_le
def Qy:=@List.getElem?_eq_some_iff
def Qz:=@List.getElem?_eq_none
def QA:=@List.mem_range
def QB:=@List.length_cons
def QC:=@List.not_mem_nil
def QF:=@decide_eq_false
def QG:=@Array.length_toList
def QH:=@PySem.PassesOwn.never
def QI:=@Option.some.inj
def QJ:=@Array.getD_eq_getD_getElem?
def QK:=@List.length_range
def QL:=@List.length_set
def QM:=@List.map_cons
def QN:=@List.getElem?_set_self
def QO:=@List.map_map
def QP:=@List.getElem?_set_ne
def QR:=@List.mem_of_getElem?
def QS:=@Nat.ne_of_lt
def QT:=@PySem.SeqAt.canLay_of_shaped
def QU:=@List.getElem?_append_left
def QV:=@List.filter_cons_of_pos
def QW:=@Nat.lt_irrefl
def QX:=@List.append_nil
def QY:=@PySem.mem_of_lookup
def QZ:=@List.filter_cons_of_neg
def Q0:=@List.length_filter_le
def Q1:=@Nat.zero_le
def Q2:=@List.mem_append_left
def Q3:=@List.nodup_cons
def Q4:=@List.map_append
def Q5:=@of_decide_eq_true
def Q6:=@List.mem_singleton
def Q7:=@List.getElem_mem
def Q8:=@PySem.W.mg_none_of
def Q9:=@List.mem_append
def Za:=@List.getElem?_range
def Zb:=@List.map_congr_left
def Zc:=@PySem.W.mg_of
def Zd:=@Bool.false_ne_true
def Ze:=@Nat.not_lt_zero
def Zf:=@Option.map_eq_some_iff
def Zg:=@List.length_take
def Zh:=@PySem.wpAny_call_entry
def Zi:=@List.mem_filter
def Zj:=@PySem.wpAny_newObj_type
def Zk:=@List.getElem?_append_right
def Zl:=@List.getElem?_cons_succ
def Zm:=@if_false
def Zn:=@Ne.symm
def Zo:=@Bool.and_eq_true
def Zp:=@List.ext_getElem?
def Zq:=@PySem.wpAny_holding
def Zr:=@PyProof.Rows.slot_tuple_getitem
def Zs:=@Array.getElem?_toList
def Zt:=@PySem.W.kia_one
def Zu:=@PySem.wpAny_callSpecial?_slot
def Zv:=@PySem.Heap.size_push
def Zw:=@List.lookup_cons
def Zx:=@Bool.not_true
def Zy:=@congrArg
def Zz:=@beq_self_eq_true
def ZB:=@List.append_assoc
def ZC:=@decide_eq_true_eq
def ZD:=@List.flatten_replicate_singleton
def ZE:=@if_true
def ZF:=@Bool.and_eq_true_iff
def ZG:=@List.all_eq_true
def ZH:=@Array.getElem?_eq_getElem
def ZI:=@List.flatMap_append
def ZJ:=@PySem.wpAny_truthy_bool
def ZK:=@PySem.wpAny_field
def ZL:=@List.length_replicate
def ZM:=@PySem.wpAny_seqItems
def ZN:=@PySem.wpAny_mono
def ZO:=@PySem.F.called_set
def ZP:=@Nat.lt_succ_self
def ZQ:=@List.length_eq_zero_iff
def ZR:=@decide_eq_decide
def ZS:=@decide_eq_false_iff_not
def ZU:=@Nat.lt_succ_of_lt
def ZV:=@beq_iff_eq
def ZW:=@beq_eq_false_iff_ne
def ZX:=@List.replicate_succ
def ZY:=@Option.map_some
def ZZ:=@List.length_drop
def Z0:=@Nat.le_add_right
def Z1:=@PySem.wpAny_forIn_list
def Z2:=@List.getElem?_take_of_lt
def Z3:=@List.getElem?_replicate
def Z4:=@PySem.F.plainAttrs_list
def Z5:=@PySem.F.slot_tuple_hash
def Z6:=@PySem.wpAny_setState_of
def Z7:=@PySem.codeAny_builtin
def Z8:=@List.getElem_of_mem
def Z9:=@PyProof.Rows.F.plain_set_update_loop
def Ja:=@PyProof.Rows.callWith_type1
def Jb:=@PySem.wpAny_isInstance
def Jc:=@List.take_length
def Jd:=@Bool.and_false
def Je:=@PySem.F.slot_tuple_iterator_next
def Jf:=@Array.getElem?_eq_some_iff
def Jg:=@PySem.Heap.get?_update_self
def Jh:=@List.take_append_drop
def Ji:=@List.getElem?_toArray
def Jj:=@PySem.wpAny_passesOwn
def Jk:=@List.length_nil
def Jl:=@PySem.sizeLine_eq
def Jm:=@List.flatten_cons
def Jn:=@PySem.codeAny_call_builtin
def Jo:=@PySem.Around.under_plainId
def Jp:=@Option.isSome_iff_exists
def Jq:=@PySem.call_meets
def Jr:=@List.filterMap_cons_some
def Js:=@List.filterMap_cons
def Jt:=@PySem.Heap.SameBut.update
def Ju:=@List.mem_map_of_mem
def Jv:=@PySem.isSubtype_type
def Jw:=@PyProof.Rows.room_in_shaped
def Jx:=@Nat.le_of_lt
def Jy:=@PySem.W.cellsFrom_some
def Jz:=@PySem.Heap.get?_update_other
def JA:=@PySem.wpAny_pyIter_tuple
def JB:=@Nat.succ_pos
def JC:=@PySem.wpAny_tupleItemsOf
def JD:=@of_decide_eq_false
def JE:=@List.range_succ_eq_map
def JF:=@PyProof.Rows.boot_list
def JG:=@List.find?_cons
def JH:=@PyProof.Rows.boot_isinstance
def JI:=@Bool.true_and
def JJ:=@PySem.builtinLookup_eq_fast
def JK:=@PySem.F.typeOf_object_class
def JL:=@Bool.not_eq_true'
def JM:=@Function.comp_def
def JN:=@List.take_add_one
def JO:=@PySem.wpAny_rule
def JP:=@Nat.le_succ
def JQ:=@PySem.codeAny_mono
def JR:=@Nat.lt_trans
def JS:=@Nat.succ_ne_zero
def JT:=@Nat.succ.inj
def JU:=@List.pairwise_iff_getElem
def JV:=@PyProof.Rows.F.entry_set_update_loop
def JW:=@List.filter_eq_self
def JX:=@PySem.F.args_tuple_add_2
def JY:=@PySem.wpAny_attempt
def JZ:=@List.length_erase_of_mem
def J0:=@List.filterMap_cons_none
def J1:=@Int.ofNat.inj
def J2:=@PySem.wpAny_execs_nil
def J4:=@PySem.pushCells_keeps
def J6:=@PySem.wpAny_specialOf
def J9:=@List.mem_filterMap
def Ya:=@PySem.Calls.spliced_cons
def Yb:=@PySem.wpAny_Call_Name_kw
def Yc:=@Nat.lt_of_le_of_lt
def Yd:=@Array.forIn_toList
def Ye:=@List.zip_cons_cons
def Yf:=@PySem.F.entry_tuple_add
def Yg:=@List.findIdx?_eq_some_iff_getElem
def Yh:=@PySem.Value.isInt_shape
def Yi:=@PySem.F.slot_tuple_add
def Yj:=@PySem.wpAny_typeOf
def Yk:=@List.map_nil
def Yl:=@PySem.wpAny_pyIter_list
def Ym:=@or_false
def Yn:=@List.take_zero
def Yo:=@Nat.zero_add
def Yp:=@List.length_pos_of_mem
def Yq:=@List.take_of_length_le
def Yr:=@Bool.not_false
def Ys:=@bne_self_eq_false
def Yt:=@Array.getElem?_eq_none
def Yu:=@List.flatMap_cons
def Yv:=@List.length_singleton
def Yw:=@PySem.F.slot_dict_get
def Yx:=@PySem.F.slot_tuple_eq
def Yy:=@PySem.isSubtype_tuple_tuple
def Yz:=@List.getElem?_zipWith
def YA:=@PySem.wpAny_execs_cons
def YB:=@PySem.F.slot_tuple_mul
def YC:=@List.nodup_range
def YD:=@List.flatMap_nil
def YE:=@PySem.W.Looks.of_pure
def YF:=@Sum.inl.inj
def YG:=@Array.mem_toList_iff
def YH:=@PySem.Calls.evalArgs_plain
def YI:=@Nat.exists_eq_succ_of_ne_zero
def YJ:=@List.mem_erase_of_ne
def YK:=@List.mem_of_mem_take
def YL:=@Prod.mk.inj
def YM:=@List.of_mem_zip
def YN:=@PySem.F.slot_int_rmul
def YO:=@PySem.typeLookup_type
def YQ:=@PySem.F.args_tuple_iterator_next_1
def YR:=@PySem.F.slot_zip_next
def YS:=@List.length_zip
def YT:=@Nat.lt_succ_iff
def YU:=@List.map_const'
def YV:=@List.set_append
def YW:=@PySem.F.slot_gs_get
def YX:=@List.length_pos_iff
def YY:=@Nat.succ_mul
def YZ:=@PySem.F.entry_tuple_iterator_next
def Y0:=@PySem.wpAny_richCompare_same_room
def Y1:=@List.idxOf_lt_length_of_mem
def Y2:=@PySem.Calls.Name_function_global
def Y3:=@PyProof.Rows.assignInOrder_cons
def Y4:=@PySem.Code.quiet_builtin
def Y5:=@PySem.F.excAttr_ValueError
def Y6:=@List.getElem?_take_eq_none
def Y7:=@PySem.SeqAt.readsAll_map
def Y8:=@List.nodup_nil
def Y9:=@PySem.F.excBase_ValueError
def Va:=@Array.perm_iff_toList_perm
def Vb:=@List.filter_append
def Vc:=@Int.emod_lt_of_pos
def Vd:=@PySem.wpAny_binaryOp_repeat_ref
def Ve:=@List.getElem?_zip_eq_some
def Vf:=@List.drop_eq_getElem_cons
def Vg:=@List.ne_nil_of_length_pos
def Vh:=@Sum.inr.inj
def Vi:=@PySem.W.kitx_list
def Vj:=@PySem.Calls.spliced_nil
def Vk:=@Array.getElem_mem
def Vl:=@Int.le_refl
def Vm:=@PySem.wpAny_standAt
def Vo:=@PySem.F.slot_tuple_index
def Vq:=@PySem.wpAny_onRaise
def Vr:=@Array.size_setIfInBounds
def Vs:=@PySem.wpAny_eqBool_int
def Vt:=@PySem.noFill_tuple_add
def Vu:=@Nat.succ_le_succ
def Vv:=@PySem.F.args_dict_get_3
def Vw:=@PySem.isinstance_outer
def Vx:=@PySem.SeqAt.items_eqAt
def Vy:=@PySem.F.slot_list_count
def Vz:=@PySem.F.slot_list_index
def VA:=@PySem.wpAny_askSetting
def VB:=@Nat.ne_of_gt
def VC:=@PySem.wpAny_call
def VD:=@PySem.concat_meets
def VE:=@PySem.typeIs_int
def VF:=@Nat.mul_comm
def VG:=@PySem.F.entry_dict_get
def VH:=@Nat.mod_lt
def VI:=@dif_pos
def VJ:=@Nat.sub_self
def VL:=@List.all_map
def VM:=@List.filter_eq_nil_iff
def VN:=@List.forIn_cons
def VO:=@PySem.call_isinstance
def VP:=@Array.Perm.refl
def VQ:=@List.range_succ
def VR:=@Int.emod_nonneg
def VS:=@Bool.eq_iff_iff
def VT:=@List.filter_nil
def VU:=@PySem.F.plain_set_new
def VW:=@List.Perm.append_left
def VX:=@PySem.F.slot_set_iter
def VY:=@PySem.F.slot_tuple_lt
def VZ:=@PyProof.Rows.boot_max
def V0:=@Bool.and_eq_false_iff
def V2:=@List.forIn_nil
def V3:=@PySem.W.looks_subIn
def V4:=@PySem.boot_len
def V5:=@List.range_eq_range'
def V6:=@PySem.isSubtype_stop
def V7:=@List.length_eraseIdx
def V8:=@Array.getElem_of_mem
def V9:=@Nat.mul_le_mul_right
def Ua:=@List.mem_of_mem_tail
def Ub:=@List.Perm.refl
def Uc:=@Nat.mul_le_mul
def Ud:=@Int.toNat_of_nonneg
def Ue:=@List.any_cons
def Uf:=@Bool.and_true
def Ug:=@List.all_cons
def Uh:=@Nat.succ_add
namespace L2
open PySem PySem.Spec PyProof.Rows
variable {A:Around}{C a b dx it:Addr}{E:Tl}{K:PySem.W.Frag}{M:Model}{N ps:List Str}{P:Program}{Q:Unit->Shared->Prop}{base h:Heap}{body:List Stmt}{c tg:Expr}{es:List Expr}{f:Value->Value->Sem Value}{fp:List Addr}{g:Int->Int->Int}{i j n:Nat}{kindOf:Str->Option NameKind}{mA mg:Str->Option Value}{o:Obj}{op mQ:CmpOp}{Tk:List (Addr×Obj)}{qual x:Str}{s s':Shared}{sc scope:Scope}{u v:Value}{us:List Value}{w:World}
abbrev Key:=Sum Int Str
def vS:Key->Value->Bool
 | .inl k,v=>Value.isInt k v
 | .inr x,v=>Value.isStrOf x v
def PX (w:World):Key->Int
 | .inl k=>hashInt k
 | .inr x=>hashStr w x
theorem qC:∀ {k:Key} {v:Value},vS k v=true->(∃ i t,k=Sum.inl i/\v=Value.int i t)\/(∃ x t,k=Sum.inr x/\v=Value.str x t)
 | .inl i,v,h=>by obtain⟨t,e⟩:=Yh (k:=i) (v:=v) h;exact .inl ⟨i,t,rfl,e⟩
 | .inr x,v,h=>by obtain⟨t,e⟩:=Value.isStrOf_shape (x:=x) (v:=v) h;exact .inr ⟨x,t,rfl,e⟩
theorem PY(i:Int)(t:Tok):vS (.inl i) (.int i t)=true:=by simp[vS,Value.isInt]
theorem PZ(x:Str)(t:Tok):vS (.inr x) (.str x t)=true:=by simp[vS,Value.isStrOf]
theorem P0(a b:Int):decide ((Sum.inl a:Key)=Sum.inl b)=(a==b):=by
 by_cases e:a=b
 .subst e;simp
 .have h:¬ (Sum.inl a:Key)=Sum.inl b:=λq=>e (YF q);rw[QF h];exact(ZW.mpr e).symm
theorem P1(a b:Str):decide ((Sum.inr a:Key)=Sum.inr b)=decide (a=b):=by
 by_cases e:a=b
 .subst e;simp
 .have h:¬ (Sum.inr a:Key)=Sum.inr b:=λq=>e (Vh q);rw[QF h,QF e]
theorem P2(a:Int)(b:Str):decide ((Sum.inl a:Key)=Sum.inr b)=false:=QF (λq=>nomatch q)
theorem P4(a:Str)(b:Int):decide ((Sum.inr a:Key)=Sum.inl b)=false:=QF (λq=>nomatch q)
def jZ (prog:Program)(w:World):PySem.KeyKind prog w Key where
 is:=vS
 hash:=PX w
 inj:=λv a b ha hb=>by
  rcases qC ha with⟨i,t,rfl,rfl⟩|⟨x,t,rfl,rfl⟩
  .rcases qC hb with⟨j,u,rfl,e⟩|⟨y,u,rfl,e⟩
   .injection e with e1 _;rw[e1]
   .exact nomatch e
  .rcases qC hb with⟨j,u,rfl,e⟩|⟨y,u,rfl,e⟩
   .exact nomatch e
   .injection e with e1 _;rw[e1]
 byValue:=λk v h=>by rcases qC h with⟨i,t,rfl,rfl⟩|⟨x,t,rfl,rfl⟩<;>rfl
 pyHash:=λhv h=>by
  rcases qC hv with⟨i,t,rfl,rfl⟩|⟨x,t,rfl,rfl⟩
  .exact wpAny_pyHash_int h
  .exact wpAny_pyHash_str h
 eqBool:=λhu hv h=>by
  rcases qC hu with⟨i,t,rfl,rfl⟩|⟨x,t,rfl,rfl⟩
  .rcases qC hv with⟨j,u,rfl,rfl⟩|⟨y,u,rfl,rfl⟩
   .rw[P0]at h;exact Vs h
   .rw[P2]at h;exact SeqAt.EqAt.int_str i t y u _ _ _ _ h
  .rcases qC hv with⟨j,u,rfl,rfl⟩|⟨y,u,rfl,rfl⟩
   .rw[P4]at h;exact SeqAt.EqAt.str_int x t j u _ _ _ _ h
   .rw[P1]at h;exact wpAny_eqBool_str h
 «strs»:=λk x t v h=>by
  rcases qC h with⟨i,u,rfl,e⟩|⟨y,u,rfl,e⟩
  .exact nomatch e
  .injection e with e1 _;subst e1;cases v<;>rfl
theorem P5(prog:Program)(w:World)(i:Int)(t:Tok):(jZ prog w).is (.inl i) (.int i t)=true:=PY i t
theorem P6(prog:Program)(w:World)(x:Str)(t:Tok):(jZ prog w).is (.inr x) (.str x t)=true:=PZ x t
inductive V where
 | bc|bl (b:Bool)|int (i:Int)|str (x:Str)|xE (b:Array UInt8)|vT (b:UInt64)|ref (a:Addr)|ty (n:String)
def cn:V->Value->Prop
 | .bc,u=>u=Value.none
 | .bl b,u=>u=Value.bool b
 | .int i,u=>∃ t,u=Value.int i t
 | .str x,u=>∃ t,u=Value.str x t
 | .xE b,u=>∃ t,u=Value.bytes b t
 | .vT b,u=>∃ t,u=Value.float b t
 | .ref a,u=>u=Value.ref a
 | .ty n,u=>u=Value.type n
abbrev bK:List V->List Value->Prop:=Paired cn
theorem bK.length{xs:List V}(r:bK xs us):xs.length=us.length:=Paired.length r
theorem bK.get:∀ {xs:List V} {us:List Value} {i:Nat} {x:V},bK xs us->xs[i]? = some x->∃ u,us[i]? = some u/\cn x u
 | _,_,_,_,.nil,e=>by simp at e
 | _,_,0,_,.cons r _,e=>by simp at e;subst e;exact⟨_,rfl,r⟩
 | _,_,i+1,x,.cons _ t,e=>by obtain⟨u,h1,h2⟩:=bK.get (i:=i) (x:=x) t (by simpa using e);exact⟨u,by simpa using h1,h2⟩
theorem bK.set{x:V}(r:cn x u):∀ {xs:List V} {us:List Value} (i:Nat),bK xs us->bK (xs.set i x) (us.set i u)
 | _,_,_,.nil=>.nil
 | _,_,0,.cons _ t=>.cons r t
 | _,_,i+1,.cons q t=>.cons q (bK.set r i t)
theorem bK.append:∀ {xs ys:List V} {us ws:List Value},bK xs us->bK ys ws->bK (xs++ys) (us++ws)
 | _,_,_,_,.nil,s=>s
 | _,_,_,_,.cons r t,s=>.cons r (bK.append t s)
theorem bK.take:∀ {xs:List V} {us:List Value} (n:Nat),bK xs us->bK (xs.take n) (us.take n)
 | _,_,0,_=>.nil
 | _,_,_+1,.nil=>.nil
 | _,_,n+1,.cons r t=>.cons r (bK.take n t)
theorem bK.drop:∀ {xs:List V} {us:List Value} (n:Nat),bK xs us->bK (xs.drop n) (us.drop n)
 | _,_,0,r=>r
 | _,_,_+1,.nil=>.nil
 | _,_,n+1,.cons _ t=>bK.drop n t
def t8:Option V->Option Value->Prop
 | some v,some u=>cn v u
 | none,none=>True
 | _,_=>False
def KV {κ:Type}:List (κ×V)->List (κ×Value)->Prop:=Paired λ(p:κ×V) (q:κ×Value)=>p.1=q.1/\cn p.2 q.2
def kV:Key->V
 | .inl i=>.int i
 | .inr x=>.str x
inductive HO where
 | lst (xs:List V)
 | tup (xs:List V)
 | dK (aL:List (Key×V))|dT (aL:List (List Key×V))
 | set (S:Int->Bool) (n:Nat)
 | ins (C dx:Addr) (fs:List (Str×V))
 | own (x:Addr)
 | xd (fs:List (Str×V))
 | met (f x:Addr)
 | nO (lo hi:Int)
 | gQ (o:Obj) (u:HO)
 | kF (ps:Array Value)
 | ext (φ:Heap->Prop)
abbrev Hp:=Addr->Option HO
def upd (H:Hp)(a:Addr)(o:HO):Hp:=λb=>if b=a then some o else H b
theorem jh{H:Hp}{o:HO}:upd H a o a=some o:=by unfold upd;rw[Qh rfl]
theorem bV{H:Hp}{o:HO}(h:b≠a):upd H a o b=H b:=by unfold upd;rw[Ql h]
theorem P7{H:Hp}{o u:HO}:upd (upd H a o) a u=upd H a u:=by funext b;unfold upd;split<;>rfl
theorem ju{H:Hp}{o:HO}(h:H a=some o)(h':H b=none):a≠b:=by intro e;subst e;rw[h]at h';cases h'
def mR (h:Heap)(a:Addr)(items:Array Value):Prop:=∃ o,h.get? a=some o/\o.cls=.type "tuple" /\ (∃ n,o.data=.seq items n)/\o.dict=none
theorem mR.tup{h:Heap}{a:Addr}{items:Array Value}(x:mR h a items):IsTup h a items:=let ⟨o,e,c,n,_⟩:=x;⟨o,e,c,n⟩
theorem mR.new(h:Heap)(items:Array Value):mR (h.push { cls:=.type "tuple",data:=.seq items }) h.objs.size items:=⟨_,Qv _ rfl,rfl,⟨_,rfl⟩,rfl⟩
theorem mR.lt{items:Array Value}(x:mR h a items):a<h.objs.size:=let ⟨_,e,_⟩:=x;Qq e
section
variable (P:Program)(w:World)
def d7 (H:Hp)(h:Heap)(a:Addr):HO->Prop
 | .lst xs=>xs.length<=sizeLine/\∃ (ak:List Value) (n:Nat),bK xs ak/\h.get? a=some { cls:=.type "list",data:=.seq ak.toArray n }
 | .tup xs=>xs.length<=sizeLine/\∃ ak:List Value,bK xs ak/\mR h a ak.toArray
 | .dK aL=>aL.length<=sizeLine/\(a==sysModules)=false/\∃ vs,KV aL vs/\h.DictOf (jZ P w) a vs
 | .dT aL=>aL.length<=sizeLine/\(a==sysModules)=false/\∃ xs:List (List Key×Addr×Value),
   Paired (λ(p:List Key×V) (q:List Key×Addr×Value)=>p.1=q.1/\H q.2.1=some (.tup (p.1.map kV))/\cn p.2 q.2.2) aL xs /\
   ∃ o es ep,h.get? a=some o/\o.ExactDict/\o.data=.dict es ep/\es.toList=xs.map (entryOfKey (tupleKind (jZ P w)))/\(xs.map (·.1)).Nodup
 | .set S n=>h.SetOf (intKind P w) a S n
 | .ins C dx fs=>H dx=some (.own a)/\fs.length<=1000/\dx≠a/\h.get? a=some (W.instObj C dx) /\
   ∃ mA,h.Ns1 dx mA/\(∀ f,t8 (fs.lookup f) (mA f))/\PySem.Within mA (fs.map (·.1))
 | .own _=>∃ o,h.get? a=some o
 | .xd fs=>∃ mA,h.Ns1 a mA/\∀ f,t8 (fs.lookup f) (mA f)
 | .nO lo hi=>∃ t u v,h.get? a=some { cls:=.type "range",data:=.fields #[.int lo t,.int hi u,.int 1 v] }
 | .gQ o u=>h.get? a=some o/\d7 H h a u
 | .kF ps=>h.get? a=some { cls:=.none,data:=.fields ps }
 | .met f x=>h.get? a=some (W.methodObj (.ref f) (.ref x))
 | .ext φ=>φ h/\(∃ o,h.get? a=some o)/\∀ h1 h2:Heap,φ h1->(∀ o,h1.get? a=some o->h2.get? a=some o)->φ h2
def d8 (H:Hp)(h:Heap):Prop:=∀ a o,H a=some o->d7 P w H h a o
end
section
variable {P:Program}{w:World}{H H':Hp}{h h':Heap}{a:Addr}{o:HO}
theorem d7.lt(x:d7 P w H h a o):a<h.objs.size:=by
 cases o with
 | lst xs=>obtain⟨_,_,_,_,e⟩:=x;exact Qq e
 | tup xs=>obtain⟨_,_,_,p⟩:=x;exact p.lt
 | dK aL=>obtain⟨_,_,_,_,o,_,_,e,_⟩:=x;exact Qq e
 | dT aL=>obtain⟨_,_,_,_,o,_,_,e,_⟩:=x;exact Qq e
 | set S n=>obtain⟨o,_,_,_,e,_⟩:=x;exact Qq e
 | ins C dx fs=>obtain⟨_,_,_,e,_⟩:=x;exact Qq e
 | own y=>obtain⟨_,e⟩:=x;exact Qq e
 | xd fs=>obtain⟨_,⟨_,_,_,e,_⟩,_⟩:=x;exact Qq e
 | nO lo hi=>obtain⟨_,_,_,e⟩:=x;exact Qq e
 | gQ ob u=>obtain⟨e,_⟩:=x;exact Qq e
 | kF ps=>exact Qq (show h.get? a=some _ from x)
 | met f y=>exact Qq (show h.get? a=some _ from x)
 | ext φ=>obtain⟨_,⟨_,e⟩,_⟩:=x;exact Qq e
theorem Paired.xF{α β:Type}{F G:α->β->Prop}:∀ {l₁:List α} {l₂:List β},Paired F l₁ l₂->(∀ a b,F a b->G a b)->Paired G l₁ l₂
 | _,_,.nil,_=>.nil
 | _,_,.cons r t,f=>.cons (f _ _ r) (Paired.xF t f)
theorem d7.h_(x:d7 P w H h a o)(k:∀ b u,(b=a\/H b=some (.own a))->h.get? b=some u->h'.get? b=some u)
  (ho:∀ b,H b=some (.own a)->H' b=some (.own a)) (ht:∀ b xs,H b=some (.tup xs)->H' b=some (.tup xs)):d7 P w H' h' a o:=by
 induction o with
 | lst xs=>obtain⟨z,ak,n,r,e⟩:=x;exact⟨z,ak,n,r,k _ _ (.inl rfl) e⟩
 | tup xs=>obtain⟨z,ak,r,ob,e,c⟩:=x;exact⟨z,ak,r,ob,k _ _ (.inl rfl) e,c⟩
 | dK aL=>obtain⟨z,y,vs,r,ob,es,ep,e,c⟩:=x;exact⟨z,y,vs,r,ob,es,ep,k _ _ (.inl rfl) e,c⟩
 | dT aL=>
  obtain⟨z,y,xs,r,ob,es,ep,e,c⟩:=x;exact⟨z,y,xs,Paired.xF r λp q z=>⟨z.1,ht _ _ z.2.1,z.2.2⟩,ob,es,ep,k _ _ (.inl rfl) e,c⟩
 | set S n=>obtain⟨ob,es,ep,t,e,c⟩:=x;exact⟨ob,es,ep,t,k _ _ (.inl rfl) e,c⟩
 | ins C dx fs=>
  obtain⟨d,z,ne,e,mA,⟨od,es,ep,e2,c⟩,r⟩:=x;exact⟨ho _ d,z,ne,k _ _ (.inl rfl) e,mA,⟨od,es,ep,k _ _ (.inr d) e2,c⟩,r⟩
 | own y=>obtain⟨ob,e⟩:=x;exact⟨ob,k _ _ (.inl rfl) e⟩
 | xd fs=>obtain⟨mA,⟨od,es,ep,e,c⟩,r⟩:=x;exact⟨mA,⟨od,es,ep,k _ _ (.inl rfl) e,c⟩,r⟩
 | nO lo hi=>obtain⟨t,u,v,e⟩:=x;exact⟨t,u,v,k _ _ (.inl rfl) e⟩
 | gQ ob u ih=>obtain⟨e,q⟩:=x;exact⟨k _ _ (.inl rfl) e,ih q⟩
 | kF ps=>
  have e:h.get? a=some { cls:=.none,data:=.fields ps }:=x;show h'.get? a=some { cls:=.none,data:=.fields ps };exact k a _ (.inl rfl) e
 | met f y=>
  have e:h.get? a=some (W.methodObj (.ref f) (.ref y)):=x;show h'.get? a=some (W.methodObj (.ref f) (.ref y));exact k a _ (.inl rfl) e
 | ext φ=>obtain⟨p,⟨o,e⟩,st⟩:=x;exact⟨st _ _ p λo q=>k _ _ (.inl rfl) q,⟨o,k _ _ (.inl rfl) e⟩,st⟩
theorem d8.lt(x:d8 P w H h)(e:H a=some o):a<h.objs.size:=(x a o e).lt
theorem d8.fresh(x:d8 P w H h)(e:h.objs.size<=a):H a=none:=by
 cases q:H a with
 | none=>rfl
 | some u=>exact absurd (Qx (x.lt q) e) (QW _)
theorem d8.kept(x:d8 P w H h)(k:∀ b u,h.get? b=some u->h'.get? b=some u):d8 P w H h':=λa o e=>
 (x a o e).h_ (λb u _ q=>k b u q) (λ_ q=>q) λ_ _ q=>q
theorem d8.laid(x:d8 P w H h)(k:∀ b u,h.get? b=some u->h'.get? b=some u)(hp:h.objs.size<=a)(new:d7 P w (upd H a o) h' a o):d8 P w (upd H a o) h':=λb u e=>by
 have hn:=x.fresh hp;by_cases hb:b=a
 .subst hb;rw[jh]at e;cases e;exact new
 .rw[bV hb]at e;exact(x b u e).h_ (λc v _ q=>k c v q) (λc q=>by rw[bV (ju q hn)];exact q) λc xs q=>by rw[bV (ju q hn)];exact q
end
def Rd (H:Hp)(a:Addr)(u:HO):Prop:=H a=some u\/∃ o,H a=some (.gQ o u)
theorem Rd.of{H:Hp}{u:HO}(h:H a=some u):Rd H a u:=.inl h
theorem Rd.ok{H:Hp}{u:HO}(r:Rd H a u)(x:d8 P w H h):d7 P w H h a u:=by
 rcases r with r|⟨o,r⟩
 .exact x a u r
 .obtain⟨_,q⟩:=x a _ r;exact q
def xG:Option HO->Prop
 | some (.lst _)=>True
 | some (.dK _)=>True
 | some (.dT _)=>True
 | some (.set _ _)=>True
 | some (.ins _ _ _)=>True
 | some (.ext _)=>True
 | _=>False
section
variable {P:Program}{w:World}{H:Hp}{h h':Heap}{x e:Addr}{o':HO}
theorem d8.write(ok:d8 P w H h)(mu:xG (H x))(he:e=x\/H e=some (.own x))(k:∀ b u,b≠e->h.get? b=some u->h'.get? b=some u)(vU:∃ u,h'.get? e=some u)
  (new:d7 P w (upd H x o') h' x o'):d8 P w (upd H x o') h':=λb u q=>by
 have xH:∀ c y,H c=some (.own y)->c≠x:=λc y r z=>by subst z;rw[r]at mu;exact mu
 have CS:∀ c xs,H c=some (.tup xs)->c≠x:=λc xs r z=>by subst z;rw[r]at mu;exact mu
 by_cases hb:b=x
 .subst hb;rw[jh]at q;cases q;exact new
 .rw[bV hb]at q;by_cases t_:b=e
  .have q':H b=some (.own x):=by
    rcases he with z|z
    .exact absurd (t_.trans z) hb
    .rw[t_];exact z
   rw[q]at q';cases q';obtain⟨v,hv⟩:=vU;exact⟨v,by rw[t_];exact hv⟩
  .refine(ok b u q).h_ (λc v hc r=>k c v ?_ r) (λc r=>by rw[bV (xH c b r)];exact r) λc xs r=>by rw[bV (CS c xs r)];exact r
   rcases hc with rfl|hc
   .exact t_
   .rintro rfl;rcases he with z|z
    .exact xH c b hc z
    .rw[hc]at z;cases z;exact hb rfl
end
structure Un (fs ex:List Addr) (H H':Hp) (h h':Heap):Prop where
 keep:∀ b o,h.get? b=some o->H b=none->b ∉ fs->b ∉ ex->h'.get? b=some o
 slot:∀ b o,h.get? b=some o->H b=none->b∈fs->b ∉ ex->∃ sl,h'.get? b=some { o with slots:=sl }
 free:∀ b o,h.get? b=some o->H b=none->b ∉ ex->H' b=none
 there:∀ b o,h.get? b=some o->b ∉ ex->∃ o',h'.get? b=some o'
 fx:∀ b xs,H b=some (.tup xs)->H' b=some (.tup xs)
 eT:∀ b o u,H b=some (.gQ o u)->H' b=some (.gQ o u)
 fy:∀ b ps,H b=some (.kF ps)->∃ more,H' b=some (.kF (ps++more))
section
variable {fs P8 ex ex':List Addr}{H H1 H2:Hp}{h h1 h2 h':Heap}{a x e:Addr}{o:HO}
theorem Un.any(u:Un fs ex H H1 h h1){ob:Obj}(q:h.get? b=some ob)(n:H b=none)(hx:b ∉ ex):∃ sl,h1.get? b=some { ob with slots:=sl }:=by
 by_cases hb:b∈fs
 .exact u.slot b ob q n hb hx
 .exact⟨ob.slots,u.keep b ob q n hb hx⟩
theorem Un.kept(k:∀ b u,h.get? b=some u->h'.get? b=some u):Un fs ex H H h h':=
 ⟨λb ob q _ _ _=>k b ob q,λb ob q _ _ _=>⟨ob.slots,k b ob q⟩,λ_ _ _ n _=>n,λb ob q _=>⟨ob,k b ob q⟩,λ_ _ q=>q,λ_ _ _ q=>q,λ_ ps q=>⟨#[],by rw[q];simp⟩⟩
theorem Un.refl:Un fs ex H H h h:=Un.kept λ_ _ q=>q
theorem Un.laid(k:∀ b u,h.get? b=some u->h'.get? b=some u)(hp:h.objs.size<=a)(hn:H a=none):Un fs ex H (upd H a o) h h' where
 keep:=λb u q _ _ _=>k b u q
 slot:=λb u q _ _ _=>⟨u.slots,k b u q⟩
 free:=λb u q n _=>by rw[bV (QS (Qx (Qq q) hp))];exact n
 there:=λb u q _=>⟨u,k b u q⟩
 fx:=λb xs q=>by rw[bV (ju q hn)];exact q
 eT:=λb u xs q=>by rw[bV (ju q hn)];exact q
 fy:=λb ps q=>⟨#[],by rw[bV (ju q hn),q];simp⟩
theorem Un.write(mu:xG (H x))(he:e=x\/H e=some (.own x))(k:∀ b u,b≠e->h.get? b=some u->h'.get? b=some u)(vU:∃ u,h'.get? e=some u):Un fs ex H (upd H x o) h h':=by
 have hx:∀ b,H b=none->b≠x:=λb n z=>by subst z;rw[n]at mu;exact mu
 have hb:∀ b,H b=none->b≠e:=λb n z=>by
  subst z;rcases he with r|r
  .exact hx b n r
  .rw[n]at r;cases r
 have hm:∀ b u,H b=some u->¬ xG (some u)->b≠x:=λb u q nm z=>by subst z;rw[q]at mu;exact nm mu
 refine⟨λb u q n _ _=>k b u (hb b n) q,λb u q n _ _=>⟨u.slots,k b u (hb b n) q⟩,λb u q n _=>by rw[bV (hx b n)];exact n,λb u q _=>?_,
  λb xs q=>by rw[bV (hm b _ q λz=>z)];exact q,λb u xs q=>by rw[bV (hm b _ q λz=>z)];exact q,λb ps q=>⟨#[],by rw[bV (hm b _ q λz=>z),q];simp⟩⟩
 by_cases t_:b=e
 .subst t_;exact vU
 .exact⟨u,k b u t_ q⟩
end
def ot (h:Heap)(H:Hp):List Addr:=(range h.objs.size).filter λa=>(H a).isSome
def qD (h:Heap)(H:Hp):Heap:=W.hideAll h (ot h H)
theorem P9(h:Heap)(H:Hp):(qD h H).objs.size=h.objs.size:=W.hideAll_size _ _
theorem P_{H:Hp}(e:h.get? b=some o)(n:H b=none):(qD h H).get? b=some o:=
 W.hideAll_get _ e λhm=>by have q:(H b).isSome=true:=(Zi.mp hm).2;rw[n]at q;simp at q
theorem Q_{H:Hp}(e:(qD h H).get? b=some o):h.get? b=some o/\H b=none:=by
 have e':h.get? b=some o:=W.of_hideAll (ot h H) e;refine⟨e',?_⟩;cases q:H b with
 | none=>rfl
 | some x=>
  have hm:b∈ot h H:=Zi.mpr ⟨QA.mpr (Qq e'),by simp[q]⟩;have z:(qD h H).get? b=none:=W.hideAll_none (ot h H) hm;rw[z]at e;cases e
def Ra (g h:Heap)(L:Addr):List (Addr×Obj):=(range h.objs.size).filterMap λa=>if a=L\/(g.get? a).isSome=true then none else(h.get? a).map λo=>(a,o)
def rest (g h:Heap)(L d:Addr):List (Addr×Obj):=(Ra g h L).filter λp=>decide (p.1≠d)
structure Mod (K:PySem.W.Frag) (mg:Str->Option Value) (base:Heap):Prop where
 xI:K.In base
 glob:base.Ns mainGlobals mg
 blt:∃ mb,base.Ns builtinsNs mb/\∀ x:Str,x ≠ "__name__"->mb x=bootBuiltins x
 nolimit:base.NoLimit
structure Cx where
 prog:Program
 w:World
 K:PySem.W.Frag
 mg:Str->Option Value
 base:Heap
 A:Around
 N:List Str
 aD:Shared
 cb:Hp
 env:Env
 outer:List Env
 stack:List Env
 ex:List Addr
 fn:Str->Bool
 calm:Bool
 pn:List (Addr×Obj)
 xe:Tl
def dW (l:List Env):List Addr:=l.filterMap (·.frame)
abbrev Cx.fs (X:Cx):List Addr:=dW X.outer
def vV (sc:Scope)(x:Str):Prop:=sc.names.lookup x=some .local\/sc.names.lookup x=some .cell\/sc.names.lookup x=some .free
def Loc (sc:Scope)(x:Str):Prop:=sc.names.lookup x=some .local\/sc.names.lookup x=some .cell
def Rb (env:Env)(h:Heap)(m:Str->Option Value)(x:Str)(u:Value):Prop:=
 (env.kindOf x=some .local/\m x=some u)\/((env.kindOf x=some .cell\/env.kindOf x=some .free)/\∃ c,env.cells.lookup x=some c/\h.IsCell c (some u))
structure Cx.Ok (X:Cx):Prop where
 mod:Mod X.K X.mg X.base
 kind:X.env.scope.kind=.function
 glob:X.env.globals=mainGlobals
 blt:X.env.builtins=builtinsNs
 above:X.aD.heap.objs.size<=X.env.locals
 inj:∀ x y c,X.env.cells.lookup x=some c->X.env.cells.lookup y=some c->x=y
 has:∀ x,(X.env.kindOf x=some .cell\/X.env.kindOf x=some .free)->∃ c,X.env.cells.lookup x=some c
 vW:∀ x c,X.fn x=true->X.env.cells.lookup x=some c->X.aD.heap.objs.size<=c
 hd:X.calm=true->X.A.handled=none
 frames:X.A.frames=some X.stack
 xJ:X.stack=X.outer\/(X.stack=X.env::X.outer/\X.env.frame=some X.env.locals)
 AO:∀ b∈X.ex,b≠X.env.locals/\∀ x c,X.env.cells.lookup x=some c->c≠b
 bs:∀ b o,X.base.get? b=some o->X.aD.heap.get? b=some o/\X.cb b=none
 ou:X.base.objs.size<=X.aD.heap.objs.size
 mU:∀ b o,X.base.get? b=some o->b ∉ X.ex
 mV:∀ b∈X.ex,b ∉ X.fs
 gD:X.aD.heap.FunFrames X.base X.outer
 ua:∀ b∈X.fs,X.cb b=none
structure Inv (X:Cx) (Tk:List (Addr×Obj)) (σ:List (Option V)) (H:Hp) (s:Shared):Prop where
 ok:X.Ok
 os:s.os=X.aD.os
 bare:AllBare s.gens
 base:Un X.fs X.ex X.cb H X.aD.heap s.heap
 loc:∃ m,s.heap.Ns X.env.locals m/\∀ (i:Nat) (x:Str) (v:V),X.N[i]? = some x->σ[i]? = some (some v)->vV X.env.scope x->∃ u,cn v u/\Rb X.env s.heap m x u
 cell:∀ x c,X.env.cells.lookup x=some c->∃ v,s.heap.IsCell c v
 free:H X.env.locals=none
 dC:∀ x c,X.env.cells.lookup x=some c->H c=none
 pin:∀ p∈X.pn++Tk,s.heap.get? p.1=some p.2/\H p.1=none/\p.1≠X.env.locals/\p.1 ∉ X.fs/\∀ v,p.2.data ≠ .cell v
 aP:d8 X.prog X.w H s.heap
 len:σ.length=X.N.length
section
variable {X:Cx}{Tk:List (Addr×Obj)}{σ:List (Option V)}{H H':Hp}{s:Shared}{h':Heap}
theorem Cx.Ok.CT(ok:X.Ok)(e:X.base.get? b=some o):b ∉ X.fs:=λhb=>by have:=(ok.gD.mem hb).1;rw[e]at this;cases this
theorem Inv.bs(I:Inv X Tk σ H s):∀ b o,X.base.get? b=some o->s.heap.get? b=some o/\H b=none:=λb o e=>
 ⟨I.base.keep b o (I.ok.bs b o e).1 (I.ok.bs b o e).2 (I.ok.CT e) (I.ok.mU b o e),I.base.free b o (I.ok.bs b o e).1 (I.ok.bs b o e).2 (I.ok.mU b o e)⟩
theorem Inv.bk(I:Inv X Tk σ H s):∀ b o,X.base.get? b=some o->s.heap.get? b=some o:=λb o e=>(I.bs b o e).1
theorem Inv.mod(I:Inv X Tk σ H s):Mod X.K X.mg X.base:=I.ok.mod
theorem Inv.gE(I:Inv X Tk σ H s):X.K.In s.heap:=I.ok.mod.xI.keeps I.bk
theorem Inv.lt(I:Inv X Tk σ H s):X.env.locals<s.heap.objs.size:=let ⟨_,hn,_⟩:=I.loc;hn.lt
theorem Inv.sz(I:Inv X Tk σ H s):X.aD.heap.objs.size<=s.heap.objs.size:=Qw I.ok.above (Jx I.lt)
theorem Inv.xK(I:Inv X Tk σ H s)(h:s.heap.objs.size<=a):a ∉ X.fs:=λhb=>by obtain⟨_,o,ho,_⟩:=I.ok.gD.mem hb;exact absurd (Qx (Qq ho) (Qw I.sz h)) (QW _)
theorem Inv.oy(I:Inv X Tk σ H s):∀ x c,X.env.cells.lookup x=some c->c≠X.env.locals:=λx c e z=>by obtain⟨v,o,ho,hd⟩:=I.cell x c e;obtain⟨m,⟨o',es,ep,fm,gF,_⟩,_⟩:=I.loc;rw[z,fm]at ho;cases ho;rw[gF]at hd;cases hd
theorem Inv.gD(I:Inv X Tk σ H s):s.heap.FunFrames X.base X.outer:=by
 have all:∀ (l:List Env),(∀ b∈dW l,b∈X.fs)->X.aD.heap.FunFrames X.base l->s.heap.FunFrames X.base l:=by
  intro l;induction l with
  | nil=>intro _ _;trivial
  | cons env r ih=>
   intro hs hl;obtain⟨hk,⟨L,o,hf,hn,ho,hd⟩,hr⟩:=hl;have hL:L∈X.fs:=hs L (by unfold dW;rw[Js,hf];exact Qg);obtain⟨sl,e⟩:=I.base.slot L o ho (I.ok.ua L hL) hL λz=>I.ok.mV L z hL;exact⟨hk,⟨L,_,hf,hn,e,hd⟩,ih (λb hb=>hs b (by unfold dW;rw[Js,hf];exact Qf _ hb)) hr⟩
 exact all X.outer (λ_ hb=>hb) I.ok.gD
theorem Inv.stack(I:Inv X Tk σ H s):s.heap.FunFrames X.base X.stack:=by
 rcases I.ok.xJ with e|⟨e,hf⟩
 .rw[e];exact I.gD
 .rw[e];obtain⟨m,hn,_⟩:=I.loc;refine .cons (by rw[I.ok.kind];decide) hf hn ?_ I.gD;exact Heap.get?_none_of_le (Qw I.ok.ou I.ok.above)
theorem Inv.jv(I:Inv X Tk σ H s):∀ b∈dW X.stack,b∈X.env.locals::X.fs:=λb hb=>by
 rcases I.ok.xJ with e|⟨e,hf⟩
 .rw[e]at hb;exact Qf _ hb
 .rw[e]at hb;unfold dW at hb;rw[Js,hf]at hb;exact hb
theorem Inv.fS(I:Inv X Tk σ H s):∀ b∈dW X.stack,H b=none:=λb hb=>by
 rcases Qm.mp (I.jv b hb)with e|hb
 .rw[e];exact I.free
 .obtain⟨_,o,ho,_⟩:=I.ok.gD.mem hb;exact I.base.free b o ho (I.ok.ua b hb) λz=>I.ok.mV b z hb
theorem Inv.step{g':Array GenState}{t':Nat}{d':Drawn}{ch:List Addr}(I:Inv X Tk σ H s)
  (pR:∀ b∈ch,(b∈X.ex\/X.aD.heap.objs.size<=b)/\b≠X.env.locals/\(∀ x c,X.env.cells.lookup x=some c->c≠b)/\∀ p∈X.pn++Tk,p.1≠b)
  (keep:∀ b o,b≠X.env.locals->b ∉ X.fs->b ∉ ch->s.heap.get? b=some o->H b=none->h'.get? b=some o)
  (slot:∀ b o,b≠X.env.locals->b∈X.fs->b ∉ ch->s.heap.get? b=some o->H b=none->∃ sl,h'.get? b=some { o with slots:=sl }) (free:∀ b o,b ∉ ch->s.heap.get? b=some o->H b=none->H' b=none)
  (there:∀ b o,b ∉ ch->s.heap.get? b=some o->∃ o',h'.get? b=some o')
  (fx:∀ b xs,H b=some (.tup xs)->H' b=some (.tup xs)) (eT:∀ b o u,H b=some (.gQ o u)->H' b=some (.gQ o u)) (fy:∀ b ps,H b=some (.kF ps)->∃ more,H' b=some (.kF (ps++more)))
  (ns:∀ m,s.heap.Ns X.env.locals m->h'.Ns X.env.locals m) (aP:d8 X.prog X.w H' h') (hg:AllBare g') :
  Inv X Tk σ H' { s with heap:=h',gens:=g',drawn:=d',toks:=t' }:=by
 have Hh:∀ b o,X.aD.heap.get? b=some o->b≠X.env.locals:=λb o e=>QS (Qx (Qq e) I.ok.above);have AQ:∀ b o,X.aD.heap.get? b=some o->b ∉ X.ex->b ∉ ch:=λb o e hx hb=>by
  rcases(pR b hb).1 with z|z
  .exact hx z
  .exact absurd (Qx (Qq e) z) (QW _)
 have cellK:∀ x c,X.env.cells.lookup x=some c->∀ v,s.heap.IsCell c v->h'.IsCell c v:=λx c e v aj=>by
  obtain⟨o,ho,hd⟩:=aj;have xM:c ∉ ch:=λz=>(pR c z).2.2.1 x c e rfl;by_cases hc:c∈X.fs
  .obtain⟨sl,q⟩:=slot c o (I.oy x c e) hc xM ho (I.dC x c e);exact⟨_,q,hd⟩
  .exact⟨o,keep c o (I.oy x c e) hc xM ho (I.dC x c e),hd⟩
 refine⟨I.ok,I.os,hg,⟨λb o e n hb hx=>?_,λb o e n hb hx=>?_,λb o e n hx=>?_,λb o e hx=>?_,λb xs e=>fx b xs (I.base.fx b xs e),λb o xs e=>eT b o xs (I.base.eT b o xs e),λb ps e=>?_⟩,?_,λx c e=>?_,?_,λx c e=>?_,λp hp=>?_,aP,I.len⟩
 .exact keep b o (Hh b o e) hb (AQ b o e hx) (I.base.keep b o e n hb hx) (I.base.free b o e n hx)
 .obtain⟨sl,e1⟩:=I.base.slot b o e n hb hx;obtain⟨pS,e2⟩:=slot b _ (Hh b o e) hb (AQ b o e hx) e1 (I.base.free b o e n hx);exact⟨pS,e2⟩
 .obtain⟨o',e1⟩:=I.base.there b o e hx;exact free b o' (AQ b o e hx) e1 (I.base.free b o e n hx)
 .obtain⟨o',e1⟩:=I.base.there b o e hx;exact there b o' (AQ b o e hx) e1
 .obtain⟨m1,e1⟩:=I.base.fy b ps e;obtain⟨m2,e2⟩:=fy b _ e1;exact⟨m1++m2,by rw[e2,Array.append_assoc]⟩
 .obtain⟨m,hn,hl⟩:=I.loc;refine⟨m,ns m hn,λi x v e1 e2 e3=>?_⟩;obtain⟨u,r,l⟩:=hl i x v e1 e2 e3;refine⟨u,r,?_⟩;rcases l with l|⟨k,c,e,z⟩
  .exact .inl l
  .exact .inr ⟨k,c,e,cellK x c e _ z⟩
 .obtain⟨v,z⟩:=I.cell x c e;exact⟨v,cellK x c e v z⟩
 .obtain⟨m,⟨o,_,_,ho,_⟩,_⟩:=I.loc;exact free _ o (λz=>(pR _ z).2.1 rfl) ho I.free
 .obtain⟨v,o,ho,hd⟩:=I.cell x c e;exact free c o (λz=>(pR c z).2.2.1 x c e rfl) ho (I.dC x c e)
 .obtain⟨e,n,ne,nf,d⟩:=I.pin p hp;have xM:p.1 ∉ ch:=λz=>(pR p.1 z).2.2.2 p hp rfl;exact⟨keep p.1 p.2 ne nf xM e n,free p.1 p.2 xM e n,ne,nf,d⟩
theorem Inv.un{t':Nat}(I:Inv X Tk σ H s)(u:Un X.fs [] H H' s.heap h')(aP:d8 X.prog X.w H' h'):Inv X Tk σ H' { s with heap:=h',toks:=t' }:=by
 obtain⟨m,⟨o,es,ep,ho,r⟩,_⟩:=id I.loc;obtain⟨sl,hL⟩:=u.any ho I.free (by simp);exact I.step (g':=s.gens) (d':=s.drawn) (ch:=[]) (λ_ z=>nomatch z) (λb o _ hb _ e n=>u.keep b o e n hb (by simp)) (λb o _ hb _ e n=>u.slot b o e n hb (by simp)) (λb o _ e n=>u.free b o e n (by simp)) (λb o _ e=>u.there b o e (by simp)) u.fx u.eT u.fy (λm' hm=>by obtain⟨o',kG,qE,fm,r'⟩:=hm;rw[ho]at fm;cases fm;exact⟨_,kG,qE,hL,r'⟩) aP I.bare
theorem Inv.call{g':Array GenState}{t':Nat}{d':Drawn}{ch:List Addr}(I:Inv X Tk σ H s)(u:Un (dW X.stack) ch H H' s.heap h')(aP:d8 X.prog X.w H' h')(hg:AllBare g')
  (pR:∀ b∈ch,(b∈X.ex\/X.aD.heap.objs.size<=b)/\b≠X.env.locals/\(∀ x c,X.env.cells.lookup x=some c->c≠b)/\∀ p∈X.pn++Tk,p.1≠b) :
  Inv X Tk σ H' { s with heap:=h',gens:=g',drawn:=d',toks:=t' }:=by
 obtain⟨m,⟨o,es,ep,ho,r⟩,_⟩:=id I.loc;obtain⟨sl,hL⟩:=u.any ho I.free λz=>(pR _ z).2.1 rfl;exact I.step (ch:=ch) pR (λb o hL hb hc e n=>u.keep b o e n (λz=>(Qm.mp (I.jv b z)).elim hL hb) hc) (λb o _ _ hc e n=>u.any e n hc) (λb o hc e n=>u.free b o e n hc) (λb o hc e=>u.there b o e hc) u.fx u.eT u.fy (λm' hm=>by obtain⟨o',kG,qE,fm,r'⟩:=hm;rw[ho]at fm;cases fm;exact⟨_,kG,qE,hL,r'⟩) aP hg
theorem Inv.turned{t':Nat}(I:Inv X Tk σ H s)(k:∀ b o,b≠it->s.heap.get? b=some o->h'.get? b=some o)(hn:H it=none)(hL:it≠X.env.locals)
  (h1:it∈X.ex\/X.aD.heap.objs.size<=it) (h2:∀ x c,X.env.cells.lookup x=some c->c≠it) (h3:∀ p∈X.pn++Tk,p.1≠it):Inv X Tk σ H { s with heap:=h',toks:=t' }:=by
 have xN:∀ b u,H b=some u->b≠it:=λb u e z=>by rw[z,hn]at e;cases e
 refine I.step (g':=s.gens) (d':=s.drawn) (ch:=[it]) (λb hb=>?_) (λb o _ _ hc e _=>k b o (λz=>hc (by simp[z])) e) (λb o _ _ hc e _=>⟨o.slots,k b o (λz=>hc (by simp[z])) e⟩) (λ_ _ _ _ n=>n)
  (λb o hc e=>⟨o,k b o (λz=>hc (by simp[z])) e⟩) (λ_ _ e=>e) (λ_ _ _ e=>e) (λb ps e=>⟨#[],by rw[e];simp⟩) (λm hm=>?_) (λb u e=>?_) I.bare
 .have e:b=it:=by simpa using hb
  subst e;exact⟨h1,hL,h2,h3⟩
 .obtain⟨o,es,ep,ho,r⟩:=hm;exact⟨o,es,ep,k _ o (Zn hL) ho,r⟩
 .refine(I.aP b u e).h_ (λc v hc q=>k c v ?_ q) (λ_ q=>q) λ_ _ q=>q;rcases hc with z|z
  .rw[z];exact xN b u e
  .exact xN c _ z
theorem Inv.tok(I:Inv X Tk σ H s)(t:Nat):Inv X Tk σ H { s with toks:=t }:=I.un (h':=s.heap) (t':=t) Un.refl I.aP
theorem Inv.kept{t':Nat}(I:Inv X Tk σ H s)(k:∀ b u,s.heap.get? b=some u->h'.get? b=some u):Inv X Tk σ H { s with heap:=h',toks:=t' }:=I.un (Un.kept k) (I.aP.kept k)
theorem Inv.laid{o:HO}{t':Nat}(I:Inv X Tk σ H s)(k:∀ b u,s.heap.get? b=some u->h'.get? b=some u)(hp:s.heap.objs.size<=a)(new:d7 X.prog X.w (upd H a o) h' a o) :
  Inv X Tk σ (upd H a o) { s with heap:=h',toks:=t' }:=I.un (Un.laid k hp (I.aP.fresh hp)) (I.aP.laid k hp new)
theorem Inv.write{x e:Addr}{o:HO}{t':Nat}(I:Inv X Tk σ H s)(mu:xG (H x))(he:e=x\/H e=some (.own x))(k:∀ b u,b≠e->s.heap.get? b=some u->h'.get? b=some u)(vU:∃ u,h'.get? e=some u)
  (new:d7 X.prog X.w (upd H x o) h' x o):Inv X Tk σ (upd H x o) { s with heap:=h',toks:=t' }:=I.un (Un.write mu he k vU) (I.aP.write mu he k vU new)
theorem Inv.weak{aX:List (Option V)}(I:Inv X Tk σ H s)(hl:aX.length=σ.length)(w:∀ (i:Nat) v,aX[i]? = some (some v)->σ[i]? = some (some v)):Inv X Tk aX H s:=
 ⟨I.ok,I.os,I.bare,I.base,let ⟨m,hn,oz⟩:=I.loc;⟨m,hn,λi x v e1 e2 e3=>oz i x v e1 (w i v e2) e3⟩,I.cell,I.free,I.dC,I.pin,I.aP,hl.trans I.len⟩
theorem Inv.iz{pins':List (Addr×Obj)}(I:Inv X Tk σ H s)(h:∀ p∈pins',s.heap.get? p.1=some p.2/\H p.1=none/\p.1≠X.env.locals/\p.1 ∉ X.fs/\∀ v,p.2.data ≠ .cell v):Inv X pins' σ H s:=
 ⟨I.ok,I.os,I.bare,I.base,I.loc,I.cell,I.free,I.dC,λp hp=>(Q9.mp hp).elim (λz=>I.pin p (Q2 _ z)) (h p),I.aP,I.len⟩
theorem CU(hN:N.Nodup)(a:N[i]? = some x)(b:N[j]? = some x):i=j:=by obtain⟨h1,e1⟩:=Qy.mp a;obtain⟨h2,e2⟩:=Qy.mp b;exact(List.getElem_inj hN).mp (e1.trans e2.symm)
theorem Hi{M:Model}{A:Around}{E:Tl}{v:V}(I:Inv X Tk σ H s)(hN:X.N.Nodup)(hi:X.N[i]? = some x)(hx:Loc X.env.scope x)(r:cn v u)
  (h:∀ s',Inv X Tk (σ.set i (some v)) H s'->(∃ a,Heap.SameBut a s.heap s'.heap/\(a=X.env.locals\/X.env.cells.lookup x=some a))->Q () s') (hf:X.fn x=true\/X.env.scope.names.lookup x=some .local:=by first|exact .inl rfl|exact .inr rfl|assumption):wpAny M A (storeName X.env x u) Q E s:=by
 obtain⟨m,hn,hl⟩:=id I.loc;have uc:(X.env.scope.kind == .class||(X.env.scope.kind == .module&&X.env.locals != X.env.globals))=false:=by rw[I.ok.kind];rfl
 have mW:i<σ.length:=by rw[I.len];exact(Qy.mp hi).1
 have oy:=I.oy;have tracked:∀ {a:Addr} {h':Heap},(∃ o,s.heap.get? a=some o/\H a=none)->Heap.SameBut a s.heap h'->d8 X.prog X.w H h':=λ{a h'} ha hs b ob e=>by
  obtain⟨_,_,r_⟩:=ha;refine(I.aP b ob e).h_ (λc w' hc q=>(hs.2 c ?_).trans q) (λ_ q=>q) λ_ _ q=>q;rintro rfl;rcases hc with rfl|hc
  .rw[r_]at e;cases e
  .rw[r_]at hc;cases hc
 rcases hx with hk|hk
 .refine wpAny_storeName_local hk hn (λh' qF hs=>?_) uc;obtain⟨oL,_,_,Hj,_⟩:=id hn;refine h _ ⟨I.ok,I.os,I.bare,⟨λb o e n hb hx=>?_,λb o e n hb hx=>?_,I.base.free,λb o e hx=>?_,I.base.fx,I.base.eT,I.base.fy⟩,⟨_,qF,λj y v' e1 e2 e3=>?_⟩,λy c e=>?_,I.free,I.dC,λp hp=>?_,tracked ⟨oL,Hj,I.free⟩ hs,by simpa using I.len⟩ ⟨_,hs,.inl rfl⟩
  .exact(hs.2 b (QS (Qx (Qq e) I.ok.above))).trans (I.base.keep b o e n hb hx)
  .obtain⟨sl,e1⟩:=I.base.slot b o e n hb hx;exact⟨sl,(hs.2 b (QS (Qx (Qq e) I.ok.above))).trans e1⟩
  .obtain⟨o',e1⟩:=I.base.there b o e hx;exact⟨o',(hs.2 b (QS (Qx (Qq e) I.ok.above))).trans e1⟩
  .by_cases hj:j=i
   .subst hj;rw[hi]at e1;cases e1;rw[QN mW]at e2;cases e2;exact⟨u,r,.inl ⟨hk,by simp⟩⟩
   .rw[QP (Zn hj)]at e2;obtain⟨u',r',q⟩:=hl j y v' e1 e2 e3;refine⟨u',r',?_⟩;rcases q with⟨k,e⟩|⟨k,c,e,z⟩
    .refine .inl ⟨k,?_⟩;have:y≠x:=λe=>hj (CU hN e1 (e ▸ hi));simp[this,e]
    .exact .inr ⟨k,c,e,z.sameBut hs (oy y c e)⟩
  .obtain⟨w',z⟩:=I.cell y c e;exact⟨w',z.sameBut hs (oy y c e)⟩
  .obtain⟨e,n,ne,nf,d⟩:=I.pin p hp;exact⟨(hs.2 p.1 ne).trans e,n,ne,nf,d⟩
 .have CV:X.fn x=true:=by
   rcases hf with z|z
   .exact z
   .rw[z]at hk;cases hk
  obtain⟨c,hc⟩:=I.ok.has x (.inl hk);obtain⟨w',z⟩:=I.cell x c hc;refine wpAny_storeName_cell I.ok.kind hk hc z (λh' kH hs=>?_);obtain⟨oc,AR,CW⟩:=id z;refine h { s with heap:=h' } ⟨I.ok,I.os,I.bare,⟨λb o e n hb hx=>?_,λb o e n hb hx=>?_,I.base.free,λb o e hx=>?_,I.base.fx,I.base.eT,I.base.fy⟩,⟨m,hn.sameBut hs (Zn (oy x c hc)),λj y v' e1 e2 e3=>?_⟩,λy c' e=>?_,I.free,I.dC,λp hp=>?_,tracked ⟨oc,AR,I.dC x c hc⟩ hs,by simpa using I.len⟩ ⟨c,hs,.inr hc⟩
  .exact(hs.2 b (QS (Qx (Qq e) (I.ok.vW x c CV hc)))).trans (I.base.keep b o e n hb hx)
  .obtain⟨sl,e1⟩:=I.base.slot b o e n hb hx;exact⟨sl,(hs.2 b (QS (Qx (Qq e) (I.ok.vW x c CV hc)))).trans e1⟩
  .obtain⟨o',e1⟩:=I.base.there b o e hx;exact⟨o',(hs.2 b (QS (Qx (Qq e) (I.ok.vW x c CV hc)))).trans e1⟩
  .by_cases hj:j=i
   .subst hj;rw[hi]at e1;cases e1;rw[QN mW]at e2;cases e2;exact⟨u,r,.inr ⟨.inl hk,c,hc,kH⟩⟩
   .rw[QP (Zn hj)]at e2;obtain⟨u',r',q⟩:=hl j y v' e1 e2 e3;refine⟨u',r',?_⟩;rcases q with q|⟨k,c',e,z'⟩
    .exact .inl q
    .refine .inr ⟨k,c',e,z'.sameBut hs ?_⟩;rintro rfl;exact hj (CU hN e1 (I.ok.inj _ _ _ e hc ▸ hi))
  .by_cases vX:c'=c
   .subst vX;exact⟨_,kH⟩
   .obtain⟨w2,z2⟩:=I.cell y c' e;exact⟨w2,z2.sameBut hs vX⟩
  .obtain⟨e,n,ne,nf,d⟩:=I.pin p hp;refine⟨(hs.2 p.1 ?_).trans e,n,ne,nf,d⟩;intro q;rw[q,AR]at e;have q':oc=p.2:=QI e;exact d w' (by rw[<- q'];exact CW)
theorem xO{M:Model}{A:Around}{E:Tl}{v:V}(I:Inv X Tk σ H s)(hN:X.N.Nodup)(hi:X.N[i]? = some x)(hx:Loc X.env.scope x)(r:cn v u)
  (h:∀ s',Inv X Tk (σ.set i (some v)) H s'->Q () s') (hf:X.fn x=true\/X.env.scope.names.lookup x=some .local:=by first|exact .inl rfl|exact .inr rfl|assumption):wpAny M A (storeName X.env x u) Q E s:=
 Hi I hN hi hx r (λs' I' _=>h s' I') hf
theorem Inv.oA{ch:List Addr}(I:Inv X Tk σ H s)(ho:s'.os=s.os)(u:Un (dW X.stack) ch H H' s.heap s'.heap)(aP:d8 X.prog X.w H' s'.heap)(hg:AllBare s'.gens)
  (pR:∀ b∈ch,(b∈X.ex\/X.aD.heap.objs.size<=b)/\b≠X.env.locals/\(∀ x c,X.env.cells.lookup x=some c->c≠b)/\∀ p∈X.pn++Tk,p.1≠b):Inv X Tk σ H' s':=by obtain⟨h',g',d',t',o'⟩:=s';have e:o'=s.os:=ho;subst e;exact I.call (g':=g') (t':=t') (d':=d') u aP hg pR
end
abbrev XK:=Value->Option Addr->Hp->Prop
abbrev St:=List (Option V)
abbrev VK:=V->Hp->Prop
abbrev TE:=St->Hp->VK->Prop
abbrev TT:=St->Hp->(Bool->Hp->Prop)->Prop
abbrev TA:=St->Hp->(List V->Hp->Prop)->Prop
structure Ends where
 nx:St->Hp->Prop
 rt:VK
 bk:St->Hp->Prop:=λ_ _=>False
 ct:St->Hp->Prop:=λ_ _=>False
abbrev TS:=Ends->St->Hp->Prop
def EP (X:Cx)(Tk:List (Addr×Obj))(σ:St)(Q:VK)(u:Value)(s':Shared):Prop:=∃ v H',Inv X Tk σ H' s'/\cn v u/\Q v H'
def TP (X:Cx)(Tk:List (Addr×Obj))(σ:St)(Q:Bool->Hp->Prop)(b:Bool)(s':Shared):Prop:=∃ H',Inv X Tk σ H' s'/\Q b H'
def AP (X:Cx)(Tk:List (Addr×Obj))(σ:St)(Q:List V->Hp->Prop)(us:List Value)(s':Shared):Prop:=∃ vs H',Inv X Tk σ H' s'/\bK vs us/\Q vs H'
def SP (X:Cx)(Tk:List (Addr×Obj))(D:Ends)(f:Flow)(s':Shared):Prop:=
 match f with
 | .next=>∃ aX H',Inv X Tk aX H' s'/\D.nx aX H'
 | .brk=>∃ aX H',Inv X Tk aX H' s'/\D.bk aX H'
 | .cont=>∃ aX H',Inv X Tk aX H' s'/\D.ct aX H'
 | .ret u=>∃ v aX H',Inv X Tk aX H' s'/\cn v u/\D.rt v H'
def PE (X:Cx)(e:Expr)(t:TE):Prop:=
 ∀ (Tk:List (Addr×Obj)) (s:Shared) (σ:St) (H:Hp) (Q:VK),Inv X Tk σ H s->t σ H Q->wpAny (model X.prog X.w) X.A (eval e X.env) (EP X Tk σ Q) X.xe s
structure QE (X:Cx) (e:Expr) (t:TE):Prop where mk::o:PE X e t
def PT (X:Cx)(e:Expr)(t:TT):Prop:=
 ∀ (Tk:List (Addr×Obj)) (s:Shared) (σ:St) (H:Hp) (Q:Bool->Hp->Prop),Inv X Tk σ H s->t σ H Q->wpAny (model X.prog X.w) X.A (isTrue e X.env (eval e X.env)) (TP X Tk σ Q) X.xe s
def PW (X:Cx)(e:Expr)(t:TT):Prop:=
 ∀ (whole:Sem Value) (Tk:List (Addr×Obj)) (s:Shared) (σ:St) (H:Hp) (Q:Bool->Hp->Prop),Inv X Tk σ H s->t σ H Q->wpAny (model X.prog X.w) X.A (isTrue e X.env whole) (TP X Tk σ Q) X.xe s
theorem PW.pt{X:Cx}{e:Expr}{t:TT}(h:PW X e t):PT X e t:=h _
def PA (X:Cx)(es:List Expr)(t:TA):Prop:=
 ∀ (pos:Pos) (Tk:List (Addr×Obj)) (s:Shared) (σ:St) (H:Hp) (Q:List V->Hp->Prop),Inv X Tk σ H s->t σ H Q->wpAny (model X.prog X.w) X.A (spliced (backTo pos (starEach es X.env))) (AP X Tk σ Q) X.xe s
def PS (X:Cx)(st:Stmt)(t:TS):Prop:=
 ∀ (Tk:List (Addr×Obj)) (s:Shared) (σ:St) (H:Hp) (D:Ends),Inv X Tk σ H s->t D σ H->wpAny (model X.prog X.w) X.A (exec st X.env) (SP X Tk D) X.xe s
def i3 (X:Cx)(st:List Stmt)(t:TS):Prop:=
 ∀ (Tk:List (Addr×Obj)) (s:Shared) (σ:St) (H:Hp) (D:Ends),Inv X Tk σ H s->t D σ H->wpAny (model X.prog X.w) X.A (execs st X.env) (SP X Tk D) X.xe s
theorem bE{α:Type}{t:Sem α}{Q Q':α->Shared->Prop}(h:wpAny M A t Q E s)(hQ:∀ a s,Q a s->Q' a s):wpAny M A t Q' E s:=ZN h hQ λ_ _ x=>x
section
variable {X:Cx}
def lX (i:Nat):TE:=λσ H Q=>∃ v,σ[i]? = some (some v)/\Q v H
def tC (v:V):TE:=λ_ H Q=>Q v H
theorem Rc{pos:Pos}(hN:X.N[i]? = some x)(hv:vV X.env.scope x)(hd:(x==("__debug__":Str))=false:=by decide)(i4:(x==("__classdict__":Str))=false:=by decide):PE X (.Name x pos) (lX i):=by
 intro Tk s σ H Q I h;obtain⟨v,e,h⟩:=h;obtain⟨m,hn,hl⟩:=I.loc;obtain⟨u,r,l⟩:=hl i x v hN e hv;have fin:EP X Tk σ Q u s:=⟨v,H,I,r,h⟩;rcases l with⟨hk,hm⟩|⟨hk,c,hc,lY⟩
 .exact wpAny_Name (wpAny_loadName_local I.ok.kind hk hn hm fin) hd
 .rcases hk with hk|hk
  .exact wpAny_Name (wpAny_loadName_cell I.ok.kind hk hc lY fin) hd
  .exact wpAny_Name (wpAny_loadName_free I.ok.kind hk hc lY fin i4) hd
theorem Hk{i j pos}:PE X (.Constant (.int i) j pos) (tC (.int i)):=λ_ _ _ H _ I h=>wpAny_Constant_int ⟨.int i,H,I.tok _,⟨_,rfl⟩,h⟩
theorem Rf{b j pos}:PE X (.Constant (.bool b) j pos) (tC (.bl b)):=λ_ _ _ H _ I h=>Constant_bool ⟨.bl b,H,I,rfl,h⟩
theorem Rg{j pos}:PE X (.Constant .none j pos) (tC .bc):=λ_ _ _ H _ I h=>Constant_none ⟨.bc,H,I,rfl,h⟩
theorem AS{x j pos}:PE X (.Constant (.str x) j pos) (tC (.str x)):=λ_ _ _ H _ I h=>Calls.Constant_str ⟨.str x,H,I.tok _,⟨_,rfl⟩,h⟩
def Gl (X:Cx)(x:Str):Prop:=X.env.kindOf x=some .globalImplicit
theorem xP{E:Tl}{σ:St}{H:Hp}{pos:Pos}{Q:Tl}(I:Inv X Tk σ H s)(hg:Gl X x)(hm:X.mg x=some u)(h:Q u s)
  (hd:(x==("__debug__":Str))=false:=by decide):wpAny (model X.prog X.w) X.A (eval (.Name x pos) X.env) Q E s:=
 Y2 I.ok.kind hg (Calls.loadGlobal_global (by rw[I.ok.glob];exact I.mod.glob.keeps I.bk) hm h) hd
theorem vY{E:Tl}{σ:St}{H:Hp}{pos:Pos}{Q:Tl}(I:Inv X Tk σ H s)(hg:Gl X x)(hm:X.mg x=none)(hv:bootBuiltins x=some u)(h:Q u s)
  (hn:x ≠ "__name__":=by decide) (hd:(x==("__debug__":Str))=false:=by decide):wpAny (model X.prog X.w) X.A (eval (.Name x pos) X.env) Q E s:=by obtain⟨mb,h1,h2⟩:=I.mod.blt;exact Y2 I.ok.kind hg (Calls.loadGlobal_builtin (by rw[I.ok.glob];exact I.mod.glob.keeps I.bk) hm (by rw[I.ok.blt];exact h1.keeps I.bk) ((h2 x hn).trans hv) h) hd
theorem Hl{v:V}{pos:Pos}(hg:Gl X x)(hm:X.mg x=some u)(r:cn v u)(hd:(x==("__debug__":Str))=false:=by decide):PE X (.Name x pos) (tC v):=
 λ_ _ _ H _ I h=>xP I hg hm ⟨v,H,I,r,h⟩ hd
theorem Hm{v:V}{pos:Pos}(hg:Gl X x)(hm:X.mg x=none)(hv:bootBuiltins x=some u)(r:cn v u)(hn:x ≠ "__name__":=by decide)(hd:(x==("__debug__":Str))=false:=by decide):PE X (.Name x pos) (tC v):=
 λ_ _ _ H _ I h=>vY I hg hm hv ⟨v,H,I,r,h⟩ hn hd
variable {a b:Expr}{ta tb:TE}{pos:Pos}
variable {tA AU:TT}{rest:List Expr}
def Rh (t u:TT):TT:=λσ H Q=>t σ H λc H1=>if c=true then u σ H1 Q else Q false H1
def Ri (t u:TT):TT:=λσ H Q=>t σ H λc H1=>if c=true then Q true H1 else u σ H1 Q
def Rj (t:TT):TT:=λσ H Q=>t σ H λc H1=>Q (!c) H1
theorem Rk(ha:PT X a tA):PW X (.BoolOp .And [a] pos) tA:=by
 intro wh Tk s σ H Q I h;refine isTrue_and (bE (ha Tk s σ H Q I h) λc s1 e=>?_);cases c with
 | true=>exact isTrue_and_nil e
 | false=>exact e
theorem Rl(ha:PT X a tA):PW X (.BoolOp .Or [a] pos) tA:=by
 intro wh Tk s σ H Q I h;refine isTrue_or (bE (ha Tk s σ H Q I h) λc s1 e=>?_);cases c with
 | false=>exact isTrue_or_nil e
 | true=>exact e
theorem Rm(ha:PT X a tA)(hb:PW X (.BoolOp .And (b::rest) pos) AU):PW X (.BoolOp .And (a::b::rest) pos) (Rh tA AU):=by
 intro wh Tk s σ H Q I h;refine isTrue_and (bE (ha Tk s σ H _ I h) λc s1 aj=>?_);obtain⟨H1,I1,q1⟩:=aj;cases c with
 | true=>exact hb wh Tk s1 σ H1 Q I1 q1
 | false=>exact⟨H1,I1,q1⟩
theorem Rn(ha:PT X a tA)(hb:PW X (.BoolOp .Or (b::rest) pos) AU):PW X (.BoolOp .Or (a::b::rest) pos) (Ri tA AU):=by
 intro wh Tk s σ H Q I h;refine isTrue_or (bE (ha Tk s σ H _ I h) λc s1 aj=>?_);obtain⟨H1,I1,q1⟩:=aj;cases c with
 | true=>exact⟨H1,I1,q1⟩
 | false=>exact hb wh Tk s1 σ H1 Q I1 q1
theorem Ro(ha:PT X a tA):PT X (.UnaryOp .Not a pos) (Rj tA):=by intro Tk s σ H Q I h;exact isTrue_not (ha Tk s σ H (λc H1=>Q (!c) H1) I h)
def Rp (ta tb:TE):TE:=λσ H Q=>ta σ H λx H1=>∃ c,x=.bl c/\if c=true then tb σ H1 Q else Q (.bl false) H1
def Rq (ta:TE):TE:=λσ H Q=>ta σ H λx H1=>∃ c,x=.bl c/\Q (.bl (!c)) H1
theorem Rr{op}{t:TE}(h:PE X a t):PE X (.BoolOp op [a] pos) t:=λTk s σ H Q I hw=>BoolOp_one (h Tk s σ H Q I hw)
theorem Rt(ha:PE X a ta)(hb:PE X (.BoolOp .And (b::rest) pos) tb):PE X (.BoolOp .And (a::b::rest) pos) (Rp ta tb):=by
 intro Tk s σ H Q I h;refine BoolOp_and (bE (ha Tk s σ H _ I h) λv s1 aj=>?_);obtain⟨x,H1,I1,r1,q1⟩:=aj;obtain⟨c,rfl,q1⟩:=q1;cases r1;refine ZJ ?_;cases c with
 | true=>exact hb Tk s1 σ H1 Q I1 q1
 | false=>exact⟨.bl false,H1,I1,rfl,q1⟩
theorem Ru(ha:PE X a ta):PE X (.UnaryOp .Not a pos) (Rq ta):=by intro Tk s σ H Q I h;refine UnaryOp_ (bE (ha Tk s σ H _ I h) λv s1 aj=>?_);obtain⟨x,H1,I1,r1,q1⟩:=aj;obtain⟨c,rfl,q1⟩:=q1;cases r1;exact not_of (ZJ ⟨.bl (!c),H1,I1,rfl,q1⟩)
def Rv (t:TT)(ta tb:TE):TE:=λσ H Q=>t σ H λc H1=>if c=true then ta σ H1 Q else tb σ H1 Q
theorem Rw(hc:PT X c tA)(ha:PE X a ta)(hb:PE X b tb):PE X (.IfExp c a b pos) (Rv tA ta tb):=by
 intro Tk s σ H Q I h;refine wpAny_IfExp (bE (hc Tk s σ H _ I h) λd s1 aj=>?_);obtain⟨H1,I1,q1⟩:=aj;cases d with
 | true=>exact ha Tk s1 σ H1 Q I1 q1
 | false=>exact hb Tk s1 σ H1 Q I1 q1
end
def dE (K:PySem.W.Frag)(H:Hp)(a:Addr)(xs:List V):Prop:=
 Rd H a (.lst xs) \/
  ∃ (o:Obj) (ak:Array Value) (n:Nat),K.lookup a=some o/\o.cls=.type "list" /\ o.dict=none/\o.data=.seq ak n/\ak.size<=sizeLine/\bK xs ak.toList
def du (K:PySem.W.Frag)(H:Hp)(a:Addr)(xs:List V):Prop:=
 Rd H a (.tup xs) \/
  ∃ (o:Obj) (ak:Array Value) (n:Nat),K.lookup a=some o/\o.cls=.type "tuple" /\ o.data=.seq ak n/\ak.size<=sizeLine/\bK xs ak.toList
def Rx:Value->Option V
 | .none=>some .bc
 | .bool b=>some (.bl b)
 | .int i _=>some (.int i)
 | .str x _=>some (.str x)
 | .bytes b _=>some (.xE b)
 | .float b _=>some (.vT b)
 | .ref a=>some (.ref a)
 | .type n=>some (.ty n)
 | _=>none
theorem cn.abs{x:V}(r:cn x u):Rx u=some x:=by
 cases x with
 | bc=>cases r;rfl
 | bl _=>cases r;rfl
 | int _=>obtain⟨t,rfl⟩:=r;rfl
 | str _=>obtain⟨t,rfl⟩:=r;rfl
 | xE _=>obtain⟨t,rfl⟩:=r;rfl
 | vT _=>obtain⟨t,rfl⟩:=r;rfl
 | ref _=>cases r;rfl
 | ty _=>cases r;rfl
theorem cn.inj{x y:V}(r:cn x u)(q:cn y u):x=y:=QI (r.abs.symm.trans q.abs)
theorem bK.inj:∀ {xs ys:List V} {us:List Value},bK xs us->bK ys us->xs=ys
 | _,_,_,.nil,.nil=>rfl
 | _,_,_,.cons r t,.cons r' t'=>by rw[r.inj r',bK.inj t t']
section
variable {X:Cx}{Tk:List (Addr×Obj)}{σ:St}{H:Hp}{s:Shared}{a:Addr}{xs ys:List V}
theorem dE.of(h:H a=some (.lst xs)):dE K H a xs:=.inl (.inl h)
theorem du.of(h:H a=some (.tup xs)):du K H a xs:=.inl (.inl h)
theorem Inv.list(I:Inv X Tk σ H s)(h:dE X.K H a xs):∃ ak:List Value,bK xs ak/\PlainL s.heap a ak.toArray/\xs.length<=sizeLine:=by
 rcases h with h|⟨o,ak,n,hk,hc,hd,hs,hz,r⟩
 .obtain⟨z,ak,n,r,e⟩:=h.ok I.aP;exact⟨ak,r,⟨_,n,e,rfl,rfl,rfl⟩,z⟩
 .refine⟨ak.toList,r,⟨o,n,I.gE a o hk,hc,hd,by simpa using hs⟩,?_⟩;have e:=r.length;simp only[QG]at e;omega
theorem Inv.tuple(I:Inv X Tk σ H s)(h:du X.K H a xs):∃ ak:List Value,bK xs ak/\IsTup s.heap a ak.toArray/\xs.length<=sizeLine:=by
 rcases h with h|⟨o,ak,n,hk,hc,hs,hz,r⟩
 .obtain⟨z,ak,r,p⟩:=h.ok I.aP;exact⟨ak,r,p.tup,z⟩
 .refine⟨ak.toList,r,⟨o,I.gE a o hk,hc,n,by simpa using hs⟩,?_⟩;have e:=r.length;simp only[QG]at e;omega
theorem Inv.j0(I:Inv X Tk σ H s)(h:dE X.K H a xs)(h':dE X.K H a ys):xs=ys:=by
 obtain⟨ak,r,⟨o,n,e,_,_,d⟩,_⟩:=I.list h;obtain⟨its',r',⟨o',n',e',_,_,d'⟩,_⟩:=I.list h';rw[e]at e';cases e';rw[d]at d';injection d' with d1 _;have:ak=its':=by simpa using Zy Array.toList d1
 subst this;exact r.inj r'
theorem Inv.gG(I:Inv X Tk σ H s)(h:du X.K H a xs)(h':du X.K H a ys):xs=ys:=by
 obtain⟨ak,r,⟨o,e,_,n,d⟩,_⟩:=I.tuple h;obtain⟨its',r',⟨o',e',_,n',d'⟩,_⟩:=I.tuple h';rw[e]at e';cases e';rw[d]at d';injection d' with d1 _;have:ak=its':=by simpa using Zy Array.toList d1
 subst this;exact r.inj r'
end
abbrev Cx.i5 (X:Cx)(E:Tl):Cx:={ X with xe:=E }
abbrev Cx.j4 (X:Cx):Cx:=X.i5 λ_ _=>False
theorem Cx.Ok.i5{X:Cx}(ok:X.Ok)(E:Tl):(X.i5 E).Ok:=
 ⟨ok.mod,ok.kind,ok.glob,ok.blt,ok.above,ok.inj,ok.has,ok.vW,ok.hd,ok.frames,ok.xJ,ok.AO,ok.bs,ok.ou,ok.mU,ok.mV,ok.gD,ok.ua⟩
theorem Cx.Ok.eO{X:Cx}(ok:(X.i5 E).Ok):X.Ok:=
 ⟨ok.mod,ok.kind,ok.glob,ok.blt,ok.above,ok.inj,ok.has,ok.vW,ok.hd,ok.frames,ok.xJ,ok.AO,ok.bs,ok.ou,ok.mU,ok.mV,ok.gD,ok.ua⟩
section
variable {X:Cx}{Tk:List (Addr×Obj)}{σ:St}{H:Hp}{s:Shared}{E:Tl}
theorem Inv.i5(I:Inv X Tk σ H s)(E:Tl):Inv (X.i5 E) Tk σ H s:=⟨I.ok.i5 E,I.os,I.bare,I.base,I.loc,I.cell,I.free,I.dC,I.pin,I.aP,I.len⟩
theorem Inv.eO(I:Inv (X.i5 E) Tk σ H s):Inv X Tk σ H s:=⟨I.ok.eO,I.os,I.bare,I.base,I.loc,I.cell,I.free,I.dC,I.pin,I.aP,I.len⟩
theorem SP.eO{D:Ends}{f:Flow}(h:SP (X.i5 E) Tk D f s'):SP X Tk D f s':=by
 cases f with
 | next=>obtain⟨aX,H',I,q⟩:=h;exact⟨aX,H',I.eO,q⟩
 | brk=>obtain⟨aX,H',I,q⟩:=h;exact⟨aX,H',I.eO,q⟩
 | cont=>obtain⟨aX,H',I,q⟩:=h;exact⟨aX,H',I.eO,q⟩
 | ret u=>obtain⟨v,aX,H',I,r,q⟩:=h;exact⟨v,aX,H',I.eO,r,q⟩
theorem i3.j4{st:List Stmt}{t:TS}(h:i3 X.j4 st t):i3 X st t:=λTk s σ H D I hw=>
 ZN (h Tk s σ H D (I.i5 _) hw) (λ_ _ q=>q.eO) λ_ _ z=>False.elim z
end
section
variable {X:Cx}{st:Stmt}{rest:List Stmt}{t u:TS}{e:Expr}{te:TE}{pos:Pos}
def Ry:TS:=λD σ H=>D.nx σ H
def Rz (t u:TS):TS:=λD σ H=>t { D with nx:=u D } σ H
theorem RC:i3 X [] Ry:=λ_ _ σ H _ I h=>J2 ⟨σ,H,I,h⟩
theorem RD(h1:PS X st t)(h2:i3 X rest u):i3 X (st::rest) (Rz t u):=by
 intro Tk s σ H D I h;refine YA (bE (h1 Tk s σ H { D with nx:=u D } I h) λf s1 q=>?_);cases f with
 | next=>
  obtain⟨aX,H',I',q⟩:=q;exact h2 Tk s1 aX H' D I' q
 | ret v=>exact q
 | brk=>exact q
 | cont=>exact q
theorem Hn(h1:PS X st t):i3 X [st] t:=by
 intro Tk s σ H D I h;refine YA (bE (h1 Tk s σ H D I h) λf s1 q=>?_);cases f with
 | next=>exact J2 q
 | ret v=>exact q
 | brk=>exact q
 | cont=>exact q
def RE:TS:=λD σ H=>D.bk σ H
theorem RF:PS X (.Break pos) RE:=λ_ _ σ H _ I h=>wpAny_Break ⟨σ,H,I,h⟩
theorem Inv.quiet{σ:St}{H:Hp}(I:Inv X Tk σ H s):interactive X.env=false:=by simp[interactive,I.ok.kind]
def RG (te:TE):TS:=λD σ H=>te σ H λ_ H1=>D.nx σ H1
theorem Ho(he:PE X e te)(hs:swapsWith e none pos.line X.env=pure false:=by rfl):PS X (.Expr e pos) (RG te):=by intro Tk s σ H D I h;exact wpAny_Expr_any (bE (he Tk s σ H _ I h) λv s1 ⟨x,H1,I1,r1,q1⟩=>⟨σ,H1,I1,q1⟩) I.quiet hs
def RH (te:TE):TS:=λD σ H=>te σ H D.rt
theorem RJ(he:PE X e te):PS X (.Return (some e) pos) (RH te):=by intro Tk s σ H D I h;exact wpAny_Return_some (bE (he Tk s σ H _ I h) λv s1 ⟨x,H1,I1,r1,q1⟩=>⟨x,σ,H1,I1,r1,q1⟩)
def RK (c:TT)(t u:TS):TS:=λD σ H=>c σ H λb H1=>if b=true then t D σ H1 else u D σ H1
theorem Hq{a b:List Stmt}{tc:TT}(hc:PT X c tc)(ha:i3 X a t)(hb:i3 X b u):PS X (.If c a b pos) (RK tc t u):=by
 intro Tk s σ H D I h;refine wpAny_If (bE (hc Tk s σ H _ I h) λd s1 aj=>?_);obtain⟨H1,I1,q1⟩:=aj;cases d with
 | true=>exact ha Tk s1 σ H1 D I1 q1
 | false=>exact hb Tk s1 σ H1 D I1 q1
def RM:TS:=λ_ _ _=>False
theorem RN:PS X st RM:=λ_ _ _ _ _ _ h=>h.elim
end
abbrev TG:=V->St->Hp->(St->Hp->Prop)->Prop
abbrev qG:=List V->St->Hp->(St->Hp->Prop)->Prop
def PG (X:Cx)(target:Expr)(t:TG):Prop:=
 ∀ (Tk:List (Addr×Obj)) (s:Shared) (σ:St) (H:Hp) (v:V) (u:Value) (Q:St->Hp->Prop),Inv X Tk σ H s->cn v u->t v σ H Q->
  wpAny (model X.prog X.w) X.A (assign target X.env u) (λ_ s'=>∃ aX H',Inv X Tk aX H' s'/\Q aX H') X.xe s
def pU (X:Cx)(ts:List Expr)(t:qG):Prop:=
 ∀ (Tk:List (Addr×Obj)) (s:Shared) (σ:St) (H:Hp) (vs:List V) (us:List Value) (Q:St->Hp->Prop),Inv X Tk σ H s->bK vs us->t vs σ H Q->
  wpAny (model X.prog X.w) X.A (assignInOrder ((assignEach ts X.env).map (·.2)) us) (λ_ s'=>∃ aX H',Inv X Tk aX H' s'/\Q aX H') X.xe s
abbrev CY:=V->V->V->Hp->(Hp->Prop)->Prop
def Hr (X:Cx)(t:CY):Prop:=
 ∀ (Tk:List (Addr×Obj)) (s:Shared) (σ:St) (H:Hp) (o i v:V) (ov iv u:Value) (Q:Hp->Prop),Inv X Tk σ H s->cn o ov->cn i iv->cn v u->t o i v H Q->
  wpAny (model X.prog X.w) X.A (setItem ov iv u) (λ_ s'=>∃ H',Inv X Tk σ H' s'/\Q H') X.xe s
section
variable {X:Cx}{pos:Pos}
def CZ (i:Nat):TG:=λv σ H Q=>Q (σ.set i (some v)) H
theorem RO(hN:X.N.Nodup)(hi:X.N[i]? = some x)(hx:Loc X.env.scope x)(hf:X.fn x=true\/X.env.scope.names.lookup x=some .local:=by first|exact .inl rfl|exact .inr rfl|assumption):PG X (.Name x pos) (CZ i):=by intro Tk s σ H v u Q I r h;exact wpAny_assign_Name (xO I hN hi hx r (λs' I'=>⟨_,H,I',h⟩) hf)
def RP:qG:=λvs σ H Q=>vs=[]/\Q σ H
def RQ (t:TG)(u:qG):qG:=λvs σ H Q=>∃ v r,vs=v::r/\t v σ H λaX H'=>u r aX H' Q
theorem RS:pU X [] RP:=by intro Tk s σ H vs us Q I r h;obtain⟨e,h⟩:=h;subst e;cases r;exact assignInOrder_nil ⟨σ,H,I,h⟩
theorem RT{e:Expr}{t:TG}{u:qG}(h1:PG X e t)(h2:pU X es u)
  (hs:(assignEach (e::es) X.env).map (·.2)=assign e X.env::(assignEach es X.env).map (·.2):=by rfl):pU X (e::es) (RQ t u):=by
 intro Tk s σ H vs us Q I r h;obtain⟨v,vr,e1,h⟩:=h;subst e1;cases r with
 | cons r rr=>
  rw[hs];refine Y3 (bE (h1 Tk s σ H _ _ _ I r h) λ_ s1 aj=>?_);obtain⟨ud,H1,I1,q1⟩:=aj;exact h2 Tk s1 ud H1 _ _ Q I1 rr q1
def RU (K:PySem.W.Frag)(n:Nat)(t:qG):TG:=λv σ H Q=>∃ a xs,v=.ref a/\du K H a xs/\xs.length=n/\t xs σ H Q
theorem RV{k:Nat}{t:qG}(hc:X.calm=true)(h:pU X es t)
  (hn:(assignEach es X.env).length=n:=by rfl) (gu:(assignEach es X.env).findIdx? (·.1)=none:=by rfl):PG X (.Tuple es k pos) (RU X.K n t):=by intro Tk s σ H v u Q I r hw;obtain⟨a,xs,e1,hq,hl,hw⟩:=hw;subst e1;cases r;obtain⟨ak,rv,ht,hz⟩:=I.tuple hq;refine assign_Tuple_tuple (I.ok.hd hc) ht (by simp[hn,<- hl,rv.length]) gu λh' hx=>?_;have I1:Inv X Tk σ H { s with heap:=h' }:=I.kept (t':=s.toks) λb o e=>hx b o (QS (Qq e)) e;exact h Tk _ σ H xs _ Q I1 (by simpa using rv) hw
def RW (to ti:TE)(t:CY):TG:=λv σ H Q=>to σ H λo H1=>ti σ H1 λi H2=>t o i v H2 λH3=>Q σ H3
theorem RX{o i:Expr}{to ti:TE}{t:CY}(ho:PE X o to)(hi:PE X i ti)(hs:Hr X t)
  (ha:∀ v,assign (.Subscript o i pos) X.env v=(do
    let ov <- holding [v] (eval o X.env)
    let iv <- holding [v,ov] (eval i X.env)
    standAt pos
    holding [v,ov,iv] (setItem ov iv v)
    release [v,ov,iv] []):=by intro _;rfl):PG X (.Subscript o i pos) (RW to ti t):=by intro Tk s σ H v u Q I r h;rw[ha];refine Qa (Zq (bE (ho Tk s σ H _ I h) λov s1 aj=>?_));obtain⟨x,H1,I1,r1,q1⟩:=aj;refine Qa (Zq (bE (hi Tk s1 σ H1 _ I1 q1) λiv s2 aj=>?_));obtain⟨y,H2,I2,r2,q2⟩:=aj;refine Qa (Vm (Qa (Zq (bE (hs Tk s2 σ H2 x y v ov iv u _ I2 r1 r2 r q2) λ_ s3 aj=>?_))));obtain⟨H3,I3,q3⟩:=aj;exact wpAny_release ⟨σ,H3,I3,q3⟩
def C1 (te:TE)(g:TG):TS:=λD σ H=>te σ H λx H1=>g x σ H1 D.nx
theorem RY{e:Expr}{te:TE}{g:TG}(he:PE X e te)(hg:PG X tg g)(hs:swapsWithSole [tg] e pos.line X.env=pure false:=by rfl)(hw:swappedStores [tg] e X.env=pure none:=by rfl)
  (h1:(assignEach [tg] X.env).map (·.2)=[assign tg X.env]:=by rfl):PS X (.Assign [tg] e pos) (C1 te g):=by intro Tk s σ H D I h;refine wpAny_Assign_stores (bE (he Tk s σ H _ I h) λv s1 ⟨x,H1,I1,r1,q1⟩=>?_) hs hw;rw[h1];exact bE (hg Tk s1 σ H1 x v _ I1 r1 q1) λ_ s2 q=>q
theorem Hs{e:Expr}{te:TE}{pos':Pos}(hN:X.N.Nodup)(hi:X.N[i]? = some x)(hx:Loc X.env.scope x)(he:PE X e te)(hs:swapsWith e (some (.Name x pos')) pos.line X.env=pure false:=by rfl)(hf:X.fn x=true\/X.env.scope.names.lookup x=some .local:=by first|exact .inl rfl|exact .inr rfl|assumption) :
  PS X (.Assign [.Name x pos'] e pos) (C1 te (CZ i)):=by intro Tk s σ H D I h;refine wpAny_Assign_Name (bE (he Tk s σ H _ I h) λv s1 ⟨y,H1,I1,r1,q1⟩=>?_) hs;exact xO I1 hN hi hx r1 (λs2 I2=>⟨_,H1,I2,q1⟩) hf
def RZ (i j:Nat)(ta:TA):TS:=λD σ H=>ta σ H λvs H1=>∃ v w,vs=[v,w]/\D.nx ((σ.set i (some v)).set j (some w)) H1
theorem R0{y:Str}{a b:Expr}{ta:TA}{px py pt:Pos}{kt k2 ue}(hc:X.calm=true)(hN:X.N.Nodup)(hi:X.N[i]? = some x)(hj:X.N[j]? = some y)(uf:i≠j)
  (hx:X.env.scope.names.lookup x=some .local) (hy:X.env.scope.names.lookup y=some .local) (ha:PA X [a,b] ta)
  (hw:swappedStores [.Tuple [.Name x px,.Name y py] kt pt] (.Tuple [a,b] k2 ue) X.env=pure (some [x,y]))
  (hs:swapsWithSole [.Tuple [.Name x px,.Name y py] kt pt] (.Tuple [a,b] k2 ue) pos.line X.env=pure false:=by rfl) :
  PS X (.Assign [.Tuple [.Name x px,.Name y py] kt pt] (.Tuple [a,b] k2 ue) pos) (RZ i j ta):=by
 intro Tk s σ H D I h;rw[exec_Assign_arm];refine Qa (Vm ?_);rw[hs];refine Qa (Qd ?_);rw[Ql (by decide)];refine Qa (Tuple_ (bE (ha _ Tk s σ H _ I h) λus s1 aj=>?_));obtain⟨vs,H1,I1,r1,q1⟩:=aj;obtain⟨v,w,e1,q1⟩:=q1;subst e1;obtain⟨u1,u2,rfl,rv,qH⟩:∃ u1 u2,us=[u1,u2]/\cn v u1/\cn w u2:=by
  cases r1 with
  | cons p q=>
   cases q with
   | cons p' q'=>
    cases q';exact⟨_,_,rfl,p,p'⟩
 refine Zj ?_ (by show 2<=sizeLine;decide);have I2:Inv X Tk σ H1 { s1 with heap:=s1.heap.push { cls:=.type "tuple",data:=.seq [u1,u2].toArray } }:=I1.kept (t':=s1.toks) λb o e=>Qe _ e;rw[hw];refine Qa (Qd ?_);show wpAny (model X.prog X.w) X.A (do rule "assign.swapped-stores";let items <- unpackItems (.ref s1.heap.objs.size) 2 none;assignInOrder [λv=>bindName X.env y v,λv=>bindName X.env x v] items.reverse;pure Flow.next) _ _ _;refine Qa (JO (Qa (unpackItems_tuple (items:=#[u1,u2]) (I.ok.hd hc) (IsTup.new s1.heap _) λh' fT=>?_)));have I3:=I2.kept (h':=h') (t':=s1.toks) λb o e=>fT b o (QS (Qq e)) e;show wpAny _ _ (assignInOrder [λv=>bindName X.env y v,λv=>bindName X.env x v] [u2,u1] >>= λ_=>pure Flow.next) _ _ _;refine Qa (Y3 (wpAny_bindName (xO I3 hN hj (.inl hy) qH (λs2 I4=>?_) (.inr hy))));refine Y3 (wpAny_bindName (xO I4 hN hi (.inl hx) rv (λs3 I5=>assignInOrder_nil (Qd ?_)) (.inr hx)));rw[List.set_comm _ _ (Zn uf)]at I5;exact⟨_,H1,I5,q1⟩
def R3 (c:TT)(tb:TS):TS:=λD σ H=>∃ W:Nat->St->Hp->Prop,(∃ m,W m σ H)/\∀ m σ H,W m σ H->
 c σ H λb H1=>if b=true then ∃ N:St->Hp->Prop,(∀ aX H',N aX H'->∃ m',m'<m/\W m' aX H')/\tb { D with nx:=N,ct:=N,bk:=D.nx } σ H1 else D.nx σ H1
theorem R4{tc:TT}{tb:TS}(hp:PassesOwn (model X.prog X.w) X.A X.env X.xe)(hc:PT X c tc)(hb:i3 X body tb):PS X (.While c body [] pos) (R3 tc tb):=by
 intro Tk s σ H D I h;obtain⟨W,⟨m0,w0⟩,turn⟩:=h;refine wpAny_While (codeAny_whileLoop (λn s'=>∃ aX H',Inv X Tk aX H' s'/\W n aX H') ?_ m0 ⟨σ,H,I,w0⟩);rintro n s1 ⟨ud,H1,I1,w1⟩;refine Jj hp (bE (hc Tk s1 ud H1 _ I1 (turn n ud H1 w1)) λb s2 aj=>?_);obtain⟨H2,I2,q2⟩:=aj;cases b with
 | true=>
  obtain⟨N,hN,q2⟩:=q2;rw[Qh rfl];refine Jj hp (bE (hb Tk s2 ud H2 _ I2 q2) λf s3 q3=>?_);cases f with
  | next=>
   obtain⟨oC,H3,I3,n3⟩:=q3;obtain⟨m',hm,w3⟩:=hN oC H3 n3;exact⟨m',hm,oC,H3,I3,w3⟩
  | cont=>
   obtain⟨oC,H3,I3,n3⟩:=q3;obtain⟨m',hm,w3⟩:=hN oC H3 n3;exact⟨m',hm,oC,H3,I3,w3⟩
  | brk=>exact q3
  | ret v=>exact q3
 | false=>
  rw[Ql Zd];exact J2 ⟨ud,H2,I2,q2⟩
end
structure It where
 go:Nat->Hp->Prop
 ug:Nat->Hp->V->Hp->Prop
 stop:Nat->Hp->Prop
def oD (X:Cx)(Tk:List (Addr×Obj))(H:Hp)(b:Addr):Prop:=
 H b=none/\b≠X.env.locals/\b ∉ X.fs/\(b∈X.ex\/X.aD.heap.objs.size<=b)/\(∀ x c,X.env.cells.lookup x=some c->c≠b)/\∀ p∈X.pn++Tk,p.1≠b
theorem Inv.qI{X:Cx}{σ:St}{H H':Hp}(I:Inv X Tk σ H s)(hb:s.heap.objs.size<=b)(hn:H' b=none):oD X Tk H' b:=by
 refine⟨hn,VB (Qx I.lt hb),I.xK hb,.inr (Qw I.sz hb),λx c e z=>?_,λp hp z=>?_⟩
 .obtain⟨v,q⟩:=I.cell x c e;exact absurd (Qx q.lt (by rw[z];exact hb)) (QW _)
 .exact absurd (Qx (Qq (I.pin p hp).1) (by rw[z];exact hb)) (QW _)
structure Turn (P:Program) (w:World) (K:PySem.W.Frag) (tg:Expr) (J:It) (fp:List Addr) (it:Addr) (tn:Nat->Heap->Prop):Prop where
 mem:it∈fp
 obj:∀ i h,tn i h->∀ b∈fp,∃ o,h.get? b=some o/\∀ v,o.data ≠ .cell v
 keep:∀ i h h',tn i h->(∀ b∈fp,∀ o,h.get? b=some o->h'.get? b=some o)->tn i h'
 item:∀ (X:Cx),X.prog=P->X.w=w->X.K=K->X.calm=true->∀ (i:Nat) (Tk:List (Addr×Obj)) (s:Shared) (σ:St) (H:Hp) (E:Tl),Inv X Tk σ H s->(∀ b∈fp,oD X Tk H b)->tn i s.heap->J.go i H->
  wpAny (model P w) X.A (pyNext (.ref it)) (λr s1=>∃ u,r=some u /\
   wpAny (model P w) X.A (letOwnedTupleGo tg (.ref it) u) (λ_ s2=>∃ x H',Inv X Tk σ H' s2/\cn x u/\J.ug i H x H'/\tn (i+1) s2.heap/\∀ b∈fp,H' b=none) E s1) E s
 done:∀ (X:Cx),X.prog=P->X.w=w->X.K=K->X.calm=true->∀ (i:Nat) (Tk:List (Addr×Obj)) (s:Shared) (σ:St) (H:Hp) (E:Tl),Inv X Tk σ H s->(∀ b∈fp,oD X Tk H b)->tn i s.heap->J.stop i H->
  wpAny (model P w) X.A (pyNext (.ref it)) (λr s1=>r=none/\Inv X Tk σ H s1) E s
 self:∀ (A:Around) (i:Nat) (s:Shared) (Q:Tl) (E:Tl),tn i s.heap->Q (.ref it) s->wpAny (model P w) A (pyIter (.ref it)) Q E s
abbrev TI:=St->Hp->(It->Hp->Prop)->Prop
def Ht (X:Cx)(Tk:List (Addr×Obj))(σ:St)(tg:Expr)(R:It->Hp->Prop)(AV:Value)(s2:Shared):Prop:=
 ∃ (it:Addr) (fp:List Addr) (tn:Nat->Heap->Prop) (J:It) (H':Hp),AV=.ref it/\Inv X Tk σ H' s2/\Turn X.prog X.w X.K tg J fp it tn/\tn 0 s2.heap/\(∀ b∈fp,oD X Tk H' b)/\R J H'
def PI (X:Cx)(tg iter:Expr)(wi:TI):Prop:=
 ∀ (Tk:List (Addr×Obj)) (s:Shared) (σ:St) (H:Hp) (R:It->Hp->Prop),Inv X Tk σ H s->wi σ H R->
  wpAny (model X.prog X.w) X.A (eval iter X.env) (λv s1=>wpAny (model X.prog X.w) X.A (pyIter v) (Ht X Tk σ tg R) X.xe s1) X.xe s
theorem C2{n:String}{vs:Array Value}(ho:s.heap.get? it=some o)(hc:o.cls=.type n)(hd:o.data=.fields vs)
  (hn:["enumerate","zip","dict_itemiterator","dict_reverseitemiterator","odict_iterator","itertools.zip_longest","itertools.pairwise"].contains n=false) (hQ:Q () s):wpAny M A (letOwnedTupleGo tg (.ref it) u) Q E s:=by
 unfold letOwnedTupleGo;cases tg<;>first
  | exact Qd hQ
  | (cases u<;>first
      | exact Qd hQ
      | (refine Qa (wpAny_load ho ?_)
         rw[hc,hd];show wpAny M A (if(["enumerate","zip","dict_itemiterator","dict_reverseitemiterator","odict_iterator","itertools.zip_longest","itertools.pairwise"].contains n&&vs[0]? == some (rawInt _))=true then _ else _) Q E s;rw[Ql (by intro h;rw[hn,Bool.false_and]at h;cases h)];exact Qd hQ))
def C3 (K:PySem.W.Frag)(a:Addr):It:=
 ⟨λi H=>∃ xs x,dE K H a xs/\xs[i]? = some x,λi H x H'=>H'=H/\∀ xs,dE K H a xs->xs[i]? = some x,λi H=>∃ xs,dE K H a xs/\xs.length<=i⟩
def C4 (K:PySem.W.Frag)(a:Addr):It:=
 ⟨λi H=>∃ xs x,du K H a xs/\xs[i]? = some x,λi H x H'=>H'=H/\∀ xs,du K H a xs->xs[i]? = some x,λi H=>∃ xs,du K H a xs/\xs.length<=i⟩
def AW (lo:Int)(n:Nat):It:=⟨λi _=>i<n,λi H x H'=>H'=H/\x=.int (lo+i),λi _=>n<=i⟩
theorem R5(a it:Addr):Turn P w K tg (C3 K a) [it] it (λi h=>h.IsListIter it a i) where
 mem:=by simp
 obj:=λi h st b hb=>by
  have e:b=it:=by simpa using hb
  subst e;obtain⟨o,e,c,d⟩:=st;exact⟨o,e,λv z=>by rw[d]at z;cases z⟩
 keep:=λi h h' st k=>st.at λo e=>k it (by simp) o e
 item:=by intro X hP hw hK hc i Tk s σ H E I hf st hg;subst hP hw hK;obtain⟨xs,x,hq,hx⟩:=hg;obtain⟨ak,rv,p,hz⟩:=I.list hq;obtain⟨u,hu,ru⟩:=rv.get hx;obtain⟨f0,f1,f2,f3,f4,f5⟩:=hf it (by simp);refine wpAny_pyNext_list_item st p.isList (x:=u) (by simpa using hu) λh' mX sb=>?_;have I1:Inv X Tk σ H { s with heap:=h' }:=I.turned (t':=s.toks) (λb o hb e=>(sb.2 b hb).trans e) f0 f1 f3 f4 f5;obtain⟨o,e,c,d⟩:=id mX;exact⟨u,rfl,C2 (s:={ s with heap:=h' }) e c d (by decide) ⟨x,H,I1,ru,⟨rfl,λys hy=>by rw[I.j0 hy hq];exact hx⟩,mX,λb hb=>(hf b hb).1⟩⟩
 done:=by intro X hP hw hK hc i Tk s σ H E I hf st hg;subst hP hw hK;obtain⟨xs,hq,hx⟩:=hg;obtain⟨ak,rv,p,hz⟩:=I.list hq;obtain⟨f0,f1,f2,f3,f4,f5⟩:=hf it (by simp);have hl:=rv.length;exact wpAny_pyNext_list_end (I.ok.hd hc) st p.isList (by simp;omega) λh' eb=>⟨rfl,I.turned (t':=s.toks) (λb o hb e=>eb b o hb e) f0 f1 f3 f4 f5⟩
 self:=λ_ _ _ _ _ st h=>wpAny_pyIter_listiter st h
theorem R6(a it:Addr):Turn P w K tg (C4 K a) [it] it (λi h=>h.IsTupleIter it a i) where
 mem:=by simp
 obj:=λi h st b hb=>by
  have e:b=it:=by simpa using hb
  subst e;obtain⟨o,e,c,d⟩:=st;exact⟨o,e,λv z=>by rw[d]at z;cases z⟩
 keep:=λi h h' st k=>st.at λo e=>k it (by simp) o e
 item:=by intro X hP hw hK hc i Tk s σ H E I hf st hg;subst hP hw hK;obtain⟨xs,x,hq,hx⟩:=hg;obtain⟨ak,rv,p,hz⟩:=I.tuple hq;obtain⟨u,hu,ru⟩:=rv.get hx;obtain⟨f0,f1,f2,f3,f4,f5⟩:=hf it (by simp);refine wpAny_pyNext_tuple_item st (show s.heap.IsTuple a ak.toArray from p) (x:=u) (by simpa using hu) λh' mX sb=>?_;have I1:Inv X Tk σ H { s with heap:=h' }:=I.turned (t':=s.toks) (λb o hb e=>(sb.2 b hb).trans e) f0 f1 f3 f4 f5;obtain⟨o,e,c,d⟩:=id mX;exact⟨u,rfl,C2 (s:={ s with heap:=h' }) e c d (by decide) ⟨x,H,I1,ru,⟨rfl,λys hy=>by rw[I.gG hy hq];exact hx⟩,mX,λb hb=>(hf b hb).1⟩⟩
 done:=by intro X hP hw hK hc i Tk s σ H E I hf st hg;subst hP hw hK;obtain⟨xs,hq,hx⟩:=hg;obtain⟨ak,rv,p,hz⟩:=I.tuple hq;obtain⟨f0,f1,f2,f3,f4,f5⟩:=hf it (by simp);have hl:=rv.length;exact wpAny_pyNext_tuple_end (I.ok.hd hc) st (show s.heap.IsTuple a ak.toArray from p) (by simp;omega) λh' eb=>⟨rfl,I.turned (t':=s.toks) (λb o hb e=>eb b o hb e) f0 f1 f3 f4 f5⟩
 self:=λ_ _ _ _ _ st h=>wpAny_pyIter_tupleiter st h
theorem R9(it:Addr)(lo:Int)(n:Nat):Turn P w K tg (AW lo n) [it] it (λi h=>IsRangeIter h it (lo+(i:Nat)*1) ((n:Int)-(i:Nat)) 1) where
 mem:=by simp
 obj:=λi h st b hb=>by
  have e:b=it:=by simpa using hb
  subst e;exact⟨_,st,λv z=>by have z':Data.fields _=Data.cell v:=z;cases z'⟩
 keep:=λi h h' st k=>k it (by simp) _ st
 item:=by intro X hP hw hK hc i Tk s σ H E I hf st hg;subst hP hw hK;obtain⟨f0,f1,f2,f3,f4,f5⟩:=hf it (by simp);have W:=Walks.range (prog:=X.prog) (w:=X.w) (I.ok.hd hc) it lo 1 n;refine W.item i s _ _ hg st λv h' tk hv mX kk=>?_;obtain⟨t,rfl⟩:=hv;have I1:Inv X Tk σ H { s with heap:=h',toks:=tk }:=I.turned (λb o hb e=>kk b o (by simpa using hb) e) f0 f1 f3 f4 f5;refine⟨_,rfl,C2 (s:={ s with heap:=h',toks:=tk }) (n:="range_iterator") mX rfl rfl (by decide) ⟨.int (lo+i),H,I1,⟨t,?_⟩,⟨rfl,rfl⟩,mX,λb hb=>(hf b hb).1⟩⟩;rw[Int.mul_one]
 done:=by intro X hP hw hK hc i Tk s σ H E I hf st hg;subst hP hw hK;obtain⟨f0,f1,f2,f3,f4,f5⟩:=hf it (by simp);exact wpAny_pyNext_range_end (I.ok.hd hc) st (by have:n<=i:=hg;omega) λh' eb=>⟨rfl,I.turned (t':=s.toks) (λb o hb e=>eb b o hb e) f0 f1 f3 f4 f5⟩
 self:=λ_ _ _ _ _ st h=>wpAny_pyIter_rangeiter st h
section
variable {X:Cx}{tg:Expr}
theorem R_{σ:St}{H:Hp}{R:It->Hp->Prop}{lo hi:Int}{t u v:Tok}{tk:Nat}(I:Inv X Tk σ H s)(h1:-(2 ^ 62)<=lo)(h2:lo<2 ^ 62)(h3:-(2 ^ 62)<=hi)(h4:hi<2 ^ 62)
  (q:R (AW lo (hi-lo).toNat) H):wpAny (model X.prog X.w) X.A (pyIter (.ref s.heap.objs.size)) (Ht X Tk σ tg R) E { s with heap:=s.heap.push { cls:=.type "range",data:=.fields #[.int lo t,.int hi u,.int 1 v] },toks:=tk }:=by
 refine wpAny_pyIter_range (IsRange.new ..) (small_one h1 h2 h3 h4) ?_;have I1:Inv X Tk σ H { s with heap:=s.heap.push { cls:=.type "range",data:=.fields #[.int lo t,.int hi u,.int 1 v] },toks:=tk }:=I.kept λb o e=>Qe _ e;refine⟨(s.heap.push { cls:=.type "range",data:=.fields #[.int lo t,.int hi u,.int 1 v] }).objs.size,[(s.heap.push { cls:=.type "range",data:=.fields #[.int lo t,.int hi u,.int 1 v] }).objs.size],_,_,H,rfl,
  I1.kept (t':=tk) λb o e=>Qe _ e,R9 _ lo (hi-lo).toNat,?_,λb hb=>?_,q⟩
 .have e1:lo+((0:Nat):Int)*1=lo:=by simp
  have e2:(((hi-lo).toNat:Nat):Int)-((0:Nat):Int)=Builtin.Range.rangeSize lo hi 1:=by rw[rangeSize_one];split<;>omega
  show IsRangeIter _ _ (lo+((0:Nat):Int)*1) ((((hi-lo).toNat:Nat):Int)-((0:Nat):Int)) 1;rw[e1,e2];exact Qv _ rfl
 .have e:b=(s.heap.push { cls:=.type "range",data:=.fields #[.int lo t,.int hi u,.int 1 v] }).objs.size:=by simpa using hb
  subst e;exact I1.qI (Qj _) (I1.aP.fresh (Qj _))
def Sa (ta:TA):TI:=λσ H R=>ta σ H λvs H1=>∃ j:Int,vs=[.int j] /\ -(2 ^ 62)<=j/\j<2 ^ 62/\R (AW 0 j.toNat) H1
theorem Sb{a:Expr}{ta:TA}{p pos:Pos}(hg:Gl X "range")(hm:X.mg "range" = none)(ha:PA X [a] ta)(hs:starEach [a] X.env=[(false,eval a X.env)]:=by rfl):PI X tg (.Call (.Name "range" p) [a] [] pos) (Sa ta):=by
 intro Tk s σ H R I h;refine Call_ (vY I hg hm boot_range (Ja (bE (ha pos Tk s σ H _ I h) λus s1 ⟨vs,H1,I1,r1,q1⟩=>?_) hs rfl));obtain⟨j,e,q1,q2,q⟩:=q1;subst e;cases r1 with
 | cons r rr=>
  cases rr;obtain⟨t,rfl⟩:=r;exact call_range_1 (R_ I1 (by omega) (by omega) q1 q2 (by simpa using q))
def Sd (wi:TI)(g:TG)(tb:TS):TS:=λD σ H=>wi σ H λJ H1=>∃ W:Nat->Nat->St->Hp->Prop,(∃ m,W 0 m σ H1)/\∀ i m σ H,W i m σ H->
 (J.stop i H/\D.nx σ H)\/(J.go i H/\∃ N:St->Hp->Prop,(∀ aX H',N aX H'->∃ m',m'<m/\W (i+1) m' aX H')/\∀ x H',J.ug i H x H'->g x σ H' λoE H2=>tb { D with nx:=N,ct:=N,bk:=D.nx } oE H2)
def se (fp:List Addr)(h:Heap):List (Addr×Obj):=fp.filterMap λb=>(h.get? b).map λo=>(b,o)
theorem AX(hb:b∈fp)(e:h.get? b=some o):(b,o)∈se fp h:=J9.mpr ⟨b,hb,by rw[e];rfl⟩
theorem Hu{p:Addr×Obj}(hp:p∈se fp h):p.1∈fp/\h.get? p.1=some p.2:=by
 obtain⟨b,hb,e⟩:=J9.mp hp;cases q:h.get? b with
 | none=>rw[q]at e;cases e
 | some o=>
  rw[q]at e;have e':(b,o)=p:=QI e;subst e';exact⟨hb,q⟩
theorem Inv.pinned{σ:St}{H:Hp}(I:Inv X Tk σ H s)(hf:∀ b∈fp,oD X Tk H b)(ho:∀ b∈fp,∃ o,s.heap.get? b=some o/\∀ v,o.data ≠ .cell v):Inv X (Tk++se fp s.heap) σ H s:=
 I.iz λp hp=>(Q9.mp hp).elim (λz=>I.pin p (Qt _ z)) λz=>by obtain⟨hb,e⟩:=Hu z;obtain⟨f0,f1,f2,_⟩:=hf p.1 hb;obtain⟨o,e',d⟩:=ho p.1 hb;rw[e]at e';cases e';exact⟨e,f0,f1,f2,d⟩
theorem Inv.fU{pl:List (Addr×Obj)}{σ:St}{H:Hp}(I:Inv X (Tk++pl) σ H s):Inv X Tk σ H s:=I.iz λp hp=>I.pin p (Qt _ (Q2 _ hp))
theorem Se{iter:Expr}{wi:TI}{g:TG}{tb:TS}{pos:Pos}(hp:PassesOwn (model X.prog X.w) X.A X.env X.xe)(hc:X.calm=true)(hi:PI X tg iter wi)(hg:PG X tg g)(hb:i3 X body tb)
  (hs:∀ x,foldedSetIterable iter X.env x=pure x:=by intro _;rfl):PS X (.For tg iter body [] pos) (Sd wi g tb):=by
 intro Tk s σ H D I h;refine wpAny_For (bE (hi Tk s σ H _ I h) λv s1 h1=>bE h1 λAV s2 h2=>?_) hs;obtain⟨it,fp,tn,J,H2,e,I2,T,sf,f2,W,⟨m0,w0⟩,turn⟩:=h2;subst e;have kY:∀ {H':Hp},(∀ b∈fp,H' b=none)->∀ b∈fp,oD X Tk H' b:=λhn b hb=>⟨hn b hb,(f2 b hb).2⟩;refine codeAny_forLoop_any (λn s'=>∃ i aX H',Inv X Tk aX H' s'/\tn i s'.heap/\(∀ b∈fp,H' b=none)/\W i n aX H') ?_ m0 ⟨0,σ,H2,I2,sf,λb hb=>(f2 b hb).1,w0⟩;rintro n s3 ⟨i,oC,H3,I3,xQ,Hv,w3⟩;rcases turn i n oC H3 w3 with⟨stop,qn⟩|⟨go,N,hN,step⟩
 .refine Jj hp (bE (T.done X rfl rfl rfl hc i Tk s3 oC H3 X.xe I3 (kY Hv) xQ stop) λr s4 ⟨hr,I4⟩=>?_);subst hr;exact J2 ⟨oC,H3,I4,qn⟩
 .refine Jj hp (bE (T.item X rfl rfl rfl hc i Tk s3 oC H3 X.xe I3 (kY Hv) xQ go) λr s4 ⟨u,hr,h4⟩=>?_);subst hr;refine Jj hp (bE h4 λ_ s5 aj=>?_);obtain⟨x,H5,I5,r5,y5,uh,C5⟩:=aj;have C6:=I5.pinned (kY C5) (T.obj _ _ uh);refine Jj hp (bE (hg _ s5 oC H5 x u _ C6 r5 (step x H5 y5)) λ_ s6 aj=>?_);obtain⟨Hw,H6,I6,q6⟩:=aj;refine Jj hp (bE (hb _ s6 Hw H6 _ I6 q6) λf s7 q7=>?_);have again:∀ {oF:St} {H7:Hp},Inv X (Tk++se fp s5.heap) oF H7 s7->N oF H7->∃ m,m<n/\∃ i aX H',Inv X Tk aX H' s7/\tn i s7.heap/\(∀ b∈fp,H' b=none)/\W i m aX H':=λ{oF H7} I7 n7=>by obtain⟨m',hm,w7⟩:=hN oF H7 n7;refine⟨m',hm,i+1,oF,H7,I7.fU,T.keep _ _ _ uh λb hb o e=>(I7.pin (b,o) (Qt _ (Qt _ (AX hb e)))).1,λb hb=>?_,w7⟩;obtain⟨o,e,d⟩:=T.obj _ _ uh b hb;exact(I7.pin (b,o) (Qt _ (Qt _ (AX hb e)))).2.1
  cases f with
  | next=>obtain⟨oF,H7,I7,n7⟩:=q7;exact again I7 n7
  | cont=>obtain⟨oF,H7,I7,n7⟩:=q7;exact again I7 n7
  | brk=>obtain⟨oF,H7,I7,q7⟩:=q7;exact⟨oF,H7,I7.fU,q7⟩
  | ret v=>obtain⟨x7,oF,H7,I7,r7,q7⟩:=q7;exact⟨x7,oF,H7,I7.fU,r7,q7⟩
end
abbrev R2:=V->V->Hp->VK->Prop
def dy (X:Cx)(f:Value->Value->Sem Value)(r:R2):Prop:=
 ∀ (Tk:List (Addr×Obj)) (s:Shared) (σ:St) (H:Hp) (x y:V) (v u:Value) (Q:VK),Inv X Tk σ H s->cn x v->cn y u->r x y H Q->
  wpAny (model X.prog X.w) X.A (f v u) (EP X Tk σ Q) X.xe s
def C7 (X:Cx)(f:Value->Sem Value)(r:V->Hp->VK->Prop):Prop:=
 ∀ (Tk:List (Addr×Obj)) (s:Shared) (σ:St) (H:Hp) (x:V) (v:Value) (Q:VK),Inv X Tk σ H s->cn x v->r x H Q->
  wpAny (model X.prog X.w) X.A (f v) (EP X Tk σ Q) X.xe s
def kZ (X:Cx)(f:Value)(r:List V->Hp->VK->Prop):Prop:=
 ∀ (Tk:List (Addr×Obj)) (s:Shared) (σ:St) (H:Hp) (xs:List V) (us:List Value) (Q:VK),Inv X Tk σ H s->bK xs us->r xs H Q->
  wpAny (model X.prog X.w) X.A (call f us) (EP X Tk σ Q) X.xe s
def Sf (X:Cx)(r:V->Hp->(Bool->Hp->Prop)->Prop):Prop:=
 ∀ (Tk:List (Addr×Obj)) (s:Shared) (σ:St) (H:Hp) (x:V) (v:Value) (Q:Bool->Hp->Prop),Inv X Tk σ H s->cn x v->r x H Q->
  wpAny (model X.prog X.w) X.A (truthy v) (TP X Tk σ Q) X.xe s
def j5 (r:R2)(ta tb:TE):TE:=λσ H Q=>ta σ H λx H1=>tb σ H1 λy H2=>r x y H2 Q
def Sg (r:V->Hp->VK->Prop)(ta:TE):TE:=λσ H Q=>ta σ H λx H1=>r x H1 Q
def rI (C:Int->Int->Prop)(g:Int->Int->V):R2:=λx y H Q=>∃ i j,x=.int i/\y=.int j/\C i j/\Q (g i j) H
def lZ (g:Int->Int->V):R2:=λx y H Q=>∃ i j,x=.int i/\y=.int j/\Q (g i j) H
def rU (g:Int->V):V->Hp->VK->Prop:=λx H Q=>∃ i,x=.int i/\Q (g i) H
section
variable {X:Cx}{a b c:Expr}{ta tb tc:TE}{pos:Pos}
theorem C8(ha:PE X a ta)(hb:PE X b tb){σ:St}{H:Hp}{R:V->V->Hp->Prop}(I:Inv X Tk σ H s)
  (h:ta σ H λx H1=>tb σ H1 λy H2=>R x y H2) {Q:Tl} 
  (hf:∀ v u s2 x y H2,Inv X Tk σ H2 s2->cn x v->cn y u->R x y H2->wpAny (model X.prog X.w) X.A (f v u) Q X.xe s2) :
  wpAny (model X.prog X.w) X.A (eval a X.env) (λv br=>wpAny (model X.prog X.w) X.A (eval b X.env) (λu mY=>wpAny (model X.prog X.w) X.A (f v u) Q X.xe mY) X.xe br) X.xe s:=by refine bE (ha Tk s σ H _ I h) λv s1 aj=>?_;obtain⟨x,H1,I1,r1,q1⟩:=aj;refine bE (hb Tk s1 σ H1 _ I1 q1) λu s2 aj=>?_;obtain⟨y,H2,I2,r2,q2⟩:=aj;exact hf v u s2 x y H2 I2 r1 r2 q2
theorem sg{op:Operator}{r:R2}(ho:dy X (binaryOp op) r)(ha:PE X a ta)(hb:PE X b tb):PE X (.BinOp a op b pos) (j5 r ta tb):=by intro Tk s σ H Q I h;exact wpAny_BinOp (C8 ha hb I h λv u s2 x y H2 I2 rx ry q=>ho Tk s2 σ H2 x y v u Q I2 rx ry q)
theorem Si{op:UnaryOp}{r:V->Hp->VK->Prop}(ho:C7 X (unaryOp op) r)(ha:PE X a ta):PE X (.UnaryOp op a pos) (Sg r ta):=by intro Tk s σ H Q I h;exact UnaryOp_ (bE (ha Tk s σ H _ I h) λv s1 ⟨x,H1,I1,r1,q1⟩=>ho Tk s1 σ H1 x v Q I1 r1 q1)
theorem C9{f:Value->Value->Sem Value}{C:Int->Int->Prop}
  (rule:∀ (i j:Int) (t u:Tok) (s:Shared) (Q:Tl) (E:Tl),C i j->Q (.int (g i j) s.toks) { s with toks:=s.toks+1 }->wpAny (model X.prog X.w) X.A (f (.int i t) (.int j u)) Q E s) :
  dy X f (rI C λi j=>.int (g i j)):=by intro Tk s σ H x y v u Q I rx ry h;obtain⟨i,j,rfl,rfl,hc,q⟩:=h;obtain⟨t,rfl⟩:=rx;obtain⟨t',rfl⟩:=ry;exact rule i j t t' s _ _ hc ⟨.int (g i j),H,I.tok _,⟨_,rfl⟩,q⟩
theorem Sj{f:Value->Value->Sem Value}
  (rule:∀ (i j:Int) (t u:Tok) (s:Shared) (Q:Tl) (E:Tl),Q (.int (g i j) s.toks) { s with toks:=s.toks+1 }->wpAny (model X.prog X.w) X.A (f (.int i t) (.int j u)) Q E s) :
  dy X f (lZ λi j=>.int (g i j)):=by intro Tk s σ H x y v u Q I rx ry h;obtain⟨i,j,rfl,rfl,q⟩:=h;obtain⟨t,rfl⟩:=rx;obtain⟨t',rfl⟩:=ry;exact rule i j t t' s _ _ ⟨.int (g i j),H,I.tok _,⟨_,rfl⟩,q⟩
theorem AY{g:Int->Int->Bool}
  (rule:∀ (i j:Int) (t u:Tok) (s:Shared) (Q:Tl) (E:Tl),Q (.bool (g i j)) s->wpAny (model X.prog X.w) X.A (f (.int i t) (.int j u)) Q E s) :
  dy X f (lZ λi j=>.bl (g i j)):=by intro Tk s σ H x y v u Q I rx ry h;obtain⟨i,j,rfl,rfl,q⟩:=h;obtain⟨t,rfl⟩:=rx;obtain⟨t',rfl⟩:=ry;exact rule i j t t' s _ _ ⟨.bl (g i j),H,I,rfl,q⟩
def Sk (i j:Int):Prop:=0<j/\j<1073741824
def C_ (i j:Int):Prop:=(-(2 ^ 64)<i/\i<2 ^ 64)\/(-(2 ^ 64)<j/\j<2 ^ 64)
theorem C_.ok{i j:Int}(h:C_ i j):IntMulOk i j:=by
 rcases h with⟨h1,h2⟩|⟨h1,h2⟩
 .exact .of_left (intBits_le_64 h1 h2)
 .exact .of_right (intBits_le_64 h1 h2)
theorem Sl:dy X (binaryOp .Add) (lZ λi j=>.int (i+j)):=Sj λ_ _ _ _ _ _ _ q=>add_int q
theorem Sq:dy X (binaryOp .Mult) (rI C_ λi j=>.int (i*j)):=C9 λ_ _ _ _ _ _ _ hc q=>mul_int q hc.ok
theorem Sr:dy X (binaryOp .FloorDiv) (rI Sk λi j=>.int (i / j)):=C9 λi j _ _ _ _ _ hc q=>by have h1:(0:Int)<j:=hc.1;have h2:j<1073741824:=hc.2;exact floordiv_int (by omega) (by rw[Int.fdiv_eq_ediv_of_nonneg i (by omega)];exact q) (.inl (PyProof.noPylong_small (by omega)))
theorem Ss:dy X (binaryOp .Mod) (rI (λ_ j=>0<j) λi j=>.int (i % j)):=C9 λi j _ _ _ _ _ hc q=>by have h1:(0:Int)<j:=hc;exact mod_int' (by omega) (by rw[Int.fmod_eq_emod_of_nonneg i (by omega)];exact q)
theorem Su{f:Value->Sem Value}{g:Int->Int}
  (rule:∀ (i:Int) (t:Tok) (s:Shared) (Q:Tl) (E:Tl),Q (.int (g i) s.toks) { s with toks:=s.toks+1 }->wpAny (model X.prog X.w) X.A (f (.int i t)) Q E s) :
  C7 X f (rU λi=>.int (g i)):=by intro Tk s σ H x v Q I rx h;obtain⟨i,rfl,q⟩:=h;obtain⟨t,rfl⟩:=rx;exact rule i t s _ _ ⟨.int (g i),H,I.tok _,⟨_,rfl⟩,q⟩
theorem Sv:C7 X (unaryOp .USub) (rU λi=>.int (-i)):=Su λ_ _ _ _ _ q=>neg_int q
theorem Hx:dy X (compareOp .Lt) (lZ λi j=>.bl (decide (i<j))):=AY λ_ _ _ _ _ _ _ q=>lt_int q
theorem Dc:dy X (compareOp .LtE) (lZ λi j=>.bl (decide (i<=j))):=AY λ_ _ _ _ _ _ _ q=>le_int q
theorem Sx:dy X (compareOp .Gt) (lZ λi j=>.bl (decide (j<i))):=AY λ_ _ _ _ _ _ _ q=>gt_int q
theorem ui(b:Expr)(h:op ≠ .In:=by decide)(h2:op ≠ .NotIn:=by decide):behindInMarks op b=false:=by
 have e1:(op==CmpOp.In)=false:=by cases op<;>first|rfl|exact absurd rfl h
 have e2:(op==CmpOp.NotIn)=false:=by cases op<;>first|rfl|exact absurd rfl h2
 cases b<;>simp[behindInMarks,e1,e2]
theorem Sy{r:R2}(ho:dy X (compareOp op) r)(ha:PE X a ta)(hb:PE X b tb)(hm:behindInMarks op b=false):PE X (.Compare a [op] [b] pos) (j5 r ta tb):=by intro Tk s σ H Q I h;exact wpAny_Compare1 (C8 ha hb I h λv u s2 x y H2 I2 rx ry q=>ho Tk s2 σ H2 x y v u Q I2 rx ry q) hm
def Dd (t:TE):TT:=λσ H Q=>t σ H λx H'=>∃ k,x=.bl k/\Q k H'
theorem Sz{r:R2}(ho:dy X (compareOp op) r)(ha:PE X a ta)(hb:PE X b tb)(hm:behindInMarks op b=false):PT X (.Compare a [op] [b] pos) (Dd (j5 r ta tb)):=by
 intro Tk s σ H Q I h;refine wpAny_isTrue_Compare1 (bE (ha Tk s σ H _ I h) λv s1 ⟨x,H1,I1,r1,q1⟩=>bE (hb Tk s1 σ H1 _ I1 q1) λu s2 ⟨y,H2,I2,r2,q2⟩=>
  bE (ho Tk s2 σ H2 x y v u _ I2 r1 r2 q2) λc s3 ⟨z,H3,I3,r3,k,e,q3⟩=>?_) hm
 subst e;cases r3;exact ZJ ⟨H3,I3,q3⟩
def Hz (r r':R2)(ta tb tc:TE):TE:=λσ H Q=>ta σ H λx H1=>tb σ H1 λy H2=>r x y H2 λz H3=>∃ k,z=.bl k /\
 (if k=true then tc σ H3 λw' H4=>r' y w' H4 Q else Q (.bl false) H3)
theorem SA{r r':R2}(ho:dy X (compareOp op) r)(fm:dy X (compareOp mQ) r')(ha:PE X a ta)(hb:PE X b tb)(hc:PE X c tc)
  (hm:lastMarks [op,mQ] [b,c]=false:=by with_unfolding_all rfl):PE X (.Compare a [op,mQ] [b,c] pos) (Hz r r' ta tb tc):=by
 intro Tk s σ H Q I h;refine Compare_chain (bE (ha Tk s σ H _ I h) λv s1 ⟨x,H1,I1,r1,q1⟩=>chain_link (bE (hb Tk s1 σ H1 _ I1 q1) λu s2 ⟨y,H2,I2,r2,q2⟩=>
  bE (ho Tk s2 σ H2 x y v u _ I2 r1 r2 q2) λd s3 ⟨z,H3,I3,r3,k,e,q3⟩=>?_)) hm
 subst e;cases r3;refine ZJ ?_;cases k with
 | false=>exact ite_ff ⟨.bl false,H3,I3,rfl,q3⟩
 | true=>exact ite_tt (chain_last (bE (hc Tk s3 σ H3 _ I3 q3) λw' s4 ⟨z',H4,I4,r4,q4⟩=>fm Tk s4 σ H4 y z' u w' Q I4 r2 r4 q4))
theorem SD{r r':R2}(ho:dy X (compareOp op) r)(fm:dy X (compareOp mQ) r')(ha:PE X a ta)(hb:PE X b tb)(hc:PE X c tc)
  (hm:lastMarks [op,mQ] [b,c]=false:=by with_unfolding_all rfl):PT X (.Compare a [op,mQ] [b,c] pos) (Dd (Hz r r' ta tb tc)):=by
 intro Tk s σ H Q I h;refine isTrue_chain (bE (ha Tk s σ H _ I h) λv s1 ⟨x,H1,I1,r1,q1⟩=>test_link (bE (hb Tk s1 σ H1 _ I1 q1) λu s2 ⟨y,H2,I2,r2,q2⟩=>
  bE (ho Tk s2 σ H2 x y v u _ I2 r1 r2 q2) λd s3 ⟨z,H3,I3,r3,k,e,q3⟩=>?_)) hm
 subst e;cases r3;refine ZJ ?_;cases k with
 | false=>
  obtain⟨k',e',q'⟩:=q3;cases e';exact ite_ff ⟨H3,I3,q'⟩
 | true=>
  refine ite_tt (test_last (bE (hc Tk s3 σ H3 _ I3 q3) λw' s4 ⟨z',H4,I4,r4,q4⟩=>bE (fm Tk s4 σ H4 y z' u w' _ I4 r2 r4 q4) λd' s5 aj=>?_));obtain⟨z2,H5,I5,r5,k2,e2,q5⟩:=aj;subst e2;cases r5;exact ZJ ⟨H5,I5,q5⟩
def HA (K:PySem.W.Frag)(x:V)(H:Hp)(k:Bool):Prop:=
 match x with
 | .bc=>k=false
 | .bl b=>k=b
 | .int i=>k=(i != 0)
 | .str y=>y.length<=sizeLine/\k=((y.length:Int) != 0)
 | .xE y=>y.size<=sizeLine/\k=((y.size:Int) != 0)
 | .ref p=>(∃ xs,dE K H p xs/\k = !xs.isEmpty)\/(∃ xs,du K H p xs/\k = !xs.isEmpty)\/∃ aL,H p=some (.dK aL)/\k = !aL.isEmpty
 | _=>False
theorem SE{κ:Type}{aL:List (κ×V)}{vs:List (κ×Value)}(r:KV aL vs):(!vs.isEmpty) = !aL.isEmpty:=by cases r<;>rfl
theorem HB{xs:List V}{ak:List Value}(r:bK xs ak):(!ak.toArray.isEmpty) = !xs.isEmpty:=by cases r<;>simp
theorem vZ:(sizeLine:Nat)<2 ^ 63:=by rw[Jl];decide
theorem SF:Sf X (λx H Q=>∃ k,HA X.K x H k/\Q k H):=by
 intro Tk s σ H x v Q I rx h;obtain⟨k,e,q⟩:=h;have hl:=vZ;have hs:sizeLine=16777216:=Jl;cases x with
 | bc=>
  cases rx;have e':k=false:=e;subst e';exact truthy_none ⟨H,I,q⟩
 | bl b=>
  cases rx;have e':k=b:=e;subst e';exact ZJ ⟨H,I,q⟩
 | int i=>
  obtain⟨t,rfl⟩:=rx;have e':k=(i != 0):=e;subst e';exact PySem.P.truthy_int ⟨H,I,q⟩
 | str y=>
  obtain⟨t,rfl⟩:=rx;obtain⟨hy,e'⟩:y.length<=sizeLine/\k=((y.length:Int) != 0):=e;subst e';exact PySem.P.truthy_str (by omega) ⟨H,I.tok _,q⟩
 | xE y=>
  obtain⟨t,rfl⟩:=rx;obtain⟨hy,e'⟩:y.size<=sizeLine/\k=((y.size:Int) != 0):=e;subst e';exact W.truthy_bytes (by omega) ⟨H,I.tok _,q⟩
 | ref p=>
  cases rx;have e':(∃ xs,dE X.K H p xs/\k = !xs.isEmpty)\/(∃ xs,du X.K H p xs/\k = !xs.isEmpty)\/∃ aL,H p=some (.dK aL)/\k = !aL.isEmpty:=e;rcases e' with⟨xs,hx,e'⟩|⟨xs,hx,e'⟩|⟨aL,hx,e'⟩
  .subst e';obtain⟨ak,r,pl,hz⟩:=I.list hx;have hlen:=r.length;exact wpAny_truthy_list pl.isList (by simp only[Qn];omega) ⟨H,I.tok _,by rw[HB r];exact q⟩
  .subst e';obtain⟨ak,r,pl,hz⟩:=I.tuple hx;have hlen:=r.length;exact truthy_tuple pl (by simp only[Qn];omega) ⟨H,I.tok _,by rw[HB r];exact q⟩
  .subst e';obtain⟨hz,hS,vs,r,m⟩:aL.length<=sizeLine/\(p==sysModules)=false/\∃ vs,KV aL vs/\s.heap.DictOf (jZ X.prog X.w) p vs:=I.aP p _ hx;have hlen:aL.length=vs.length:=Paired.length r;exact wpAny_truthy_dict hS m (by omega) ⟨H,I.tok _,by rw[SE r];exact q⟩
 | _=>exact(show False from e).elim
theorem SG(ha:PE X a ta)(he:∀ whole,isTrue a X.env whole=(do let v <- whole;standAt a.pos;holding [v] (truthy v))) :
  PT X a (λσ H Q=>ta σ H λx H'=>∃ k,HA X.K x H' k/\Q k H'):=by intro Tk s σ H Q I h;exact isTrue_plain (bE (ha Tk s σ H _ I h) λv s1 ⟨x,H1,I1,r1,q1⟩=>SF Tk s1 σ H1 x v Q I1 r1 q1) (he _)
theorem mZ{x:V}(r:bK [x] us):∃ u,us=[u]/\cn x u:=by
 cases r with
 | cons r1 r2=>cases r2;exact⟨_,rfl,r1⟩
theorem AZ{x y:V}(r:bK [x,y] us):∃ u w',us=[u,w']/\cn x u/\cn y w':=by
 cases r with
 | cons r1 r2=>
  cases r2 with
  | cons r3 r4=>cases r4;exact⟨_,_,rfl,r1,r3⟩
theorem SH(hc:X.calm=true):kZ X (.builtin "max") (λxs H Q=>∃ i j,xs=[.int i,.int j]/\Q (.int (if j > i then j else i)) H):=by
 intro Tk s σ H xs us Q I r h;obtain⟨i,j,rfl,q⟩:=h;obtain⟨u,w',rfl,⟨t,rfl⟩,⟨t',rfl⟩⟩:=AZ r;refine max_two_ints (I.ok.hd hc) λh' tk k=>⟨_,H,I.kept k,?_,q⟩;by_cases hj:j > i
 .rw[Qh hj,Qh hj];exact⟨_,rfl⟩
 .rw[Ql hj,Ql hj];exact⟨_,rfl⟩
theorem SI:kZ X (.type "int") (λxs H Q=>(∃ i,xs=[.int i]/\Q (.int i) H)\/∃ k,xs=[.bl k]/\Q (.int (if k then 1 else 0)) H):=by
 intro Tk s σ H xs us Q I r h;rcases h with⟨i,rfl,q⟩|⟨k,rfl,q⟩
 .obtain⟨u,rfl,t,rfl⟩:=mZ r;exact call_int_int ⟨.int i,H,I,⟨_,rfl⟩,q⟩
 .obtain⟨u,rfl,r1⟩:=mZ r;cases r1;exact call_int_bool ⟨.int (if k then 1 else 0),H,I.tok _,⟨_,rfl⟩,q⟩
end
structure uj (h:Heap) (x dx C:Addr) (mA:Str->Option Value):Prop where
 obj:h.get? x=some (W.instObj C dx)
 ns:h.Ns1 dx mA
 ne:dx≠x
theorem SJ(n:h.Ns1 dx mA):∃ od,h.get? dx=some od/\∀ name,W.lookIn name od=some (mA name):=by
 obtain⟨o,es,ep,ho,hd,hk,_,hm⟩:=n;refine⟨o,ho,λname=>?_⟩;have e:=hm name;unfold nsFind findBy at e;rw[<- Array.find?_toList]at e;unfold W.lookIn;rw[hd];dsimp only;split;next y q=>
  rw[q]at e;exact Zy some e
 next q=>
  rw[q]at e;have a:es.toList.any (·.refKey)=false:=by rw[List.any_eq_false];intro y hy;obtain⟨z,t,De⟩:=hk y (YG.mp hy);simp[DictEntry.refKey,De]
  have a':¬ es.toList.any (·.refKey)=true:=by rw[a];exact Zd
  rw[Ql a'];exact Zy some e
theorem uj.look{x:Addr}(I:uj h x dx C mA):∃ od,PySem.W.InstAt h x (W.instObj C dx) C (some od)/\∀ name,W.lookIn name od=some (mA name):=
 let ⟨od,ho,hl⟩:=SJ I.ns
 ⟨od,⟨I.obj,rfl,rfl,ho⟩,hl⟩
section
variable {P:Program}{w:World}{H H':Hp}{h h':Heap}{a C dx:Addr}{fs P8:List (Str×V)}
theorem v5(aP:d8 P w H h)(e:H a=some (.ins C dx fs)):∃ mA,uj h a dx C mA/\(∀ f,t8 (fs.lookup f) (mA f))/\PySem.Within mA (fs.map (·.1))/\fs.length<=1000/\H dx=some (.own a):=by obtain⟨d,z,ne,ob,mA,n,r,q⟩:=(show d7 P w H h a (.ins C dx fs)from aP a _ e);exact⟨mA,⟨ob,n,ne⟩,r,q,z,d⟩
end
structure A_ (K:PySem.W.Frag) (C:Addr):Prop where
 pg:W.plainGet K C Str.empty=true
 hd:W.hasDictIn K C=true
 po:W.plainOver K C=true
 sa:W.findIn K (.ref C) "__setattr__" = some (some (.builtin "object.__setattr__"))
theorem A_.get(c:A_ K C)(f:Str):W.plainGet K C f=true:=c.pg
def SK (K:PySem.W.Frag)(C:Addr)(f:Str):Prop:=W.findIn K (.ref C) f=some none
section
variable {X:Cx}{Tk:List (Addr×Obj)}{σ:St}{H:Hp}{s:Shared}{A:Around}{E:Tl}{Q:Tl}{c:Value}{b:Bool}
inductive ia (K:PySem.W.Frag) (H:Hp):V->Value->Prop where
 | bc:ia K H .bc (.type "NoneType")
 | bl (x:Bool):ia K H (.bl x) (.type "bool")
 | int (i:Int):ia K H (.int i) (.type "int")
 | str (x:Str):ia K H (.str x) (.type "str")
 | vT (x:UInt64):ia K H (.vT x) (.type "float")
 | lst {a:Addr} {xs:List V} (e:H a=some (.lst xs)):ia K H (.ref a) (.type "list")
 | gQ {a:Addr} {o:Obj} {xs:List V} (e:H a=some (.gQ o (.lst xs))):ia K H (.ref a) (.type "list")
 | tup {a:Addr} {xs:List V} (e:H a=some (.tup xs)):ia K H (.ref a) (.type "tuple")
 | dK {a:Addr} {aL:List (Key×V)} (e:H a=some (.dK aL)):ia K H (.ref a) (.type "dict")
 | dT {a:Addr} {aL:List (List Key×V)} (e:H a=some (.dT aL)):ia K H (.ref a) (.type "dict")
 | ins {a C dx:Addr} {fs:List (Str×V)} (e:H a=some (.ins C dx fs)) (cl:A_ K C) (ha:W.findIn K (.ref C) "__class__" = some (some (.builtin "object.__class__")))
   (hn:W.specialIn K (.builtin "object.__class__") "__get__" = some (some (.builtin "getset_descriptor.__get__"))) (xR:W.takesIn K (.builtin "object.__class__")=some true)
   (hm:W.mroIn K C (.type "object")=some true):ia K H (.ref a) (.ref C)
theorem k7{x:V}{t:Value}(I:Inv X Tk σ H s)(rx:cn x u)(ty:ia X.K H x t)(e:W.kitOne X.K t c=some b)(h:∀ tk,Q (.bool b) { s with toks:=tk }) :
  wpAny (model X.prog X.w) A (call (.builtin "isinstance") [u,c]) Q E s:=by
 cases ty with
 | bc=>cases (show u=Value.none from rx);exact Zt W.kitx_none I.gE True.intro e (λz=>nomatch z) h
 | bl y=>cases (show u=Value.bool y from rx);exact Zt W.kitx_bool I.gE True.intro e (λz=>nomatch z) h
 | int i=>obtain⟨t,q⟩:=(show ∃ t,u=Value.int i t from rx);cases q;exact Zt W.kitx_int I.gE True.intro e (λz=>nomatch z) h
 | str y=>obtain⟨t,q⟩:=(show ∃ t,u=Value.str y t from rx);cases q;exact Zt W.kitx_str I.gE True.intro e (λz=>nomatch z) h
 | vT y=>obtain⟨t,q⟩:=(show ∃ t,u=Value.float y t from rx);cases q;exact Zt W.kitx_float I.gE True.intro e (λz=>nomatch z) h
 | @lst a xs ea=>
  cases (show u=Value.ref a from rx);obtain⟨_,_,n,_,h1⟩:=(show d7 X.prog X.w H s.heap a (.lst xs)from I.aP a _ ea);exact Zt Vi I.gE ⟨_,h1,rfl⟩ e (λz=>nomatch z) h
 | @gQ a ob xs ea=>
  cases (show u=Value.ref a from rx);obtain⟨_,_,_,n,_,h1⟩:=(show d7 X.prog X.w H s.heap a (.gQ ob (.lst xs))from I.aP a _ ea);exact Zt Vi I.gE ⟨_,h1,rfl⟩ e (λz=>nomatch z) h
 | @tup a xs ea=>
  cases (show u=Value.ref a from rx);obtain⟨_,_,_,p⟩:=(show d7 X.prog X.w H s.heap a (.tup xs)from I.aP a _ ea);obtain⟨o,h1,h2,_⟩:=p;exact Zt W.kitx_tuple I.gE ⟨o,h1,h2⟩ e (λz=>nomatch z) h
 | @dK a aL ea=>
  cases (show u=Value.ref a from rx);obtain⟨_,_,vs,_,p⟩:=(show d7 X.prog X.w H s.heap a (.dK aL)from I.aP a _ ea);obtain⟨o,es,ep,h1,h2,_⟩:=p;exact Zt W.kitx_dict I.gE ⟨o,h1,h2.1⟩ e (λz=>nomatch z) h
 | @dT a aL ea=>
  cases (show u=Value.ref a from rx);obtain⟨_,_,xs,_,o,es,ep,h1,h2,_⟩:=(show d7 X.prog X.w H s.heap a (.dT aL)from I.aP a _ ea);exact Zt W.kitx_dict I.gE ⟨o,h1,h2.1⟩ e (λz=>nomatch z) h
 | @ins a C dx fs ea cl ha hn xR hm=>
  cases (show u=Value.ref a from rx);obtain⟨mA,O,_⟩:=v5 I.aP ea;obtain⟨od,J,_⟩:=O.look;exact Zt (W.kitx_own (cl.get _) cl.hd ha hn xR hm) I.gE J e (λz=>nomatch z) h
end
structure bC (k:Nat) (A:Around):Prop where
 hd:A.handled=none
 dp:A.depth+3*k+5<recursionLimit
 un:A.units+16*k+200<cLine
theorem bC.mono{k:Nat}(r:bC k A)(h:j<=k):bC j A:=⟨r.hd,by have:=r.dp;omega,by have:=r.un;omega⟩
theorem bC.deeper{k:Nat}(r:bC (k+1) A)(env:Env):bC k (A.deeper env):=
 ⟨r.hd,by have:=r.dp;show A.depth+1+3*k+5<_;omega,by have:=r.un;show A.units+3+16*k+200<_;omega⟩
theorem bC.depth{k:Nat}(r:bC k A):A.depth<recursionLimit:=by have:=r.dp;omega
theorem bC.units{k:Nat}(r:bC k A):A.units+64<cLine:=by have:=r.un;omega
def HC:TA:=λ_ H Q=>Q [] H
def HD (ta:TE)(tr:TA):TA:=λσ H Q=>ta σ H λx H1=>tr σ H1 λxs H2=>Q (x::xs) H2
section
variable {X:Cx}{e:Expr}{es:List Expr}{te:TE}{t:TA}{pos:Pos}
theorem oG:PA X [] HC:=λ_ _ _ _ H Q I h=>Vj ⟨[],H,I,.nil,h⟩
theorem l0(ha:PE X e te)(hr:PA X es t)(hs:starEach (e::es) X.env=(false,eval e X.env)::starEach es X.env:=by rfl):PA X (e::es) (HD te t):=by intro pos Tk s σ H Q I h;rw[hs];show wpAny _ _ (spliced ((false,eval e X.env)::backTo pos (starEach es X.env))) _ _ s;refine Ya (bE (ha Tk s σ H _ I h) λu s1 aj=>?_);obtain⟨x,H1,I1,r1,q1⟩:=aj;exact bE (hr pos Tk s1 σ H1 _ I1 q1) λus s2 ⟨xs,H2,I2,r2,q2⟩=>⟨x::xs,H2,I2,.cons r1 r2,q2⟩
def SM (t:TA):TE:=λσ H Q=>t σ H λxs H1=>xs.length<=sizeLine/\∀ p,H1 p=none->Q (.ref p) (upd H1 p (.tup xs))
def SN (t:TA):TE:=λσ H Q=>t σ H λxs H1=>xs.length<=sizeLine/\∀ p,H1 p=none->Q (.ref p) (upd H1 p (.lst xs))
theorem SO{x1}(h:PA X es t):PE X (.Tuple es x1 pos) (SM t):=by intro Tk s σ H Q I hq;refine wpAny_Tuple_spliced (bE (h pos Tk s σ H _ I hq) λus s1 ⟨xs,H1,I1,r,z,q⟩=>⟨by rw[<- r.length];exact z,?_⟩);have hf:H1 s1.heap.objs.size=none:=I1.aP.fresh (Qj _);refine⟨.ref s1.heap.objs.size,upd H1 s1.heap.objs.size (.tup xs),I1.laid (t':=s1.toks) (λb u e=>Qe _ e) (Qj _) ?_,rfl,q _ hf⟩;exact⟨z,us,r,⟨_,Qv _ rfl,rfl,⟨_,rfl⟩,rfl⟩⟩
theorem SQ(h:PA X es t):PE X (.List es pos) (SN t):=by intro Tk s σ H Q I hq;refine wpAny_List_spliced (bE (h pos Tk s σ H _ I hq) λus s1 ⟨xs,H1,I1,r,z,q⟩=>⟨by rw[<- r.length];exact z,?_⟩);have hf:H1 s1.heap.objs.size=none:=I1.aP.fresh (Qj _);refine⟨.ref s1.heap.objs.size,upd H1 s1.heap.objs.size (.lst xs),I1.laid (t':=s1.toks) (λb u e=>Qe _ e) (Qj _) ?_,rfl,q _ hf⟩;exact⟨z,us,0,r,Qv _ rfl⟩
end
abbrev Sp:=List V->Hp->VK->XK->Prop
abbrev oH:=List Env->Hp->Shared->XK->Value->Shared->Prop
structure qJ (P:Program) (w:World) (K:PySem.W.Frag) (mg:Str->Option Value) (base:Heap) (A:Around) (outer:List Env) (s:Shared) (H:Hp):Prop where
 frames:A.frames=some outer
 mod:Mod K mg base
 bs:∀ b o,base.get? b=some o->s.heap.get? b=some o/\H b=none
 ou:base.objs.size<=s.heap.objs.size
 gD:s.heap.FunFrames base outer
 ua:∀ b∈dW outer,H b=none
 aP:d8 P w H s.heap
 bare:AllBare s.gens
def CE (outer:List Env)(P:Program)(w:World)(H:Hp)(s:Shared)(Q:VK)(u:Value)(s':Shared):Prop:=
 ∃ v H',s'.os=s.os/\AllBare s'.gens/\Un (dW outer) [] H H' s.heap s'.heap/\d8 P w H' s'.heap/\cn v u/\Q v H'
def CR (CX:oH)(outer:List Env)(P:Program)(w:World)(H:Hp)(s:Shared)(Q:VK)(E:XK)(r:Result)(s':Shared):Prop:=
 match r with
 | .ok (.ret u)=>CE outer P w H s Q u s'
 | .ok _=>False
 | .error e=>CX outer H s E e s'
structure fz (P:Program) (w:World) (K:PySem.W.Frag) (mg:Str->Option Value) (base:Heap) (CX:oH) (k:Nat) (f:Addr) (fd:FuncData) (ps:List Str) (sp:Sp):Prop where
 len:∀ vs H Q E,sp vs H Q E->vs.length=ps.length
 run:∀ (A:Around) (outer:List Env) (s:Shared) (H:Hp) (args:Args) (us:List Value) (vs:List V) (Q:VK) (E:XK),bC k A->qJ P w K mg base A outer s H->BindsTo s fd args (ps.zip us)->bK vs us->sp vs H Q E->
  codeAny (model P w) A (.call (.ref f) args) (CR CX outer P w H s Q E) s
section
variable {X:Cx}{Tk:List (Addr×Obj)}{σ:St}{H:Hp}{s s':Shared}
theorem Inv.xS(I:Inv X Tk σ H s):qJ X.prog X.w X.K X.mg X.base X.A X.stack s H:=
 ⟨I.ok.frames,I.ok.mod,I.bs,Qw I.ok.ou I.sz,I.stack,I.fS,I.aP,I.bare⟩
theorem Inv.after{Q:VK}(I:Inv X Tk σ H s)(h:CE X.stack X.prog X.w H s Q u s'):EP X Tk σ Q u s':=by obtain⟨v,H',os,bare,un,aP,r,q⟩:=h;obtain⟨hh,g,d,t,Df⟩:=s';obtain rfl:Df=s.os:=os;exact⟨v,H',I.call (h':=hh) (g':=g) (d':=d) (t':=t) (ch:=[]) un aP bare (λb z=>absurd z (by simp)),r,q⟩
end
def SR (sp:Sp)(si:List V)(E:XK)(t:TA):TE:=λσ H Q=>t σ H λvs H1=>sp (vs++si) H1 Q E
def qK (K:PySem.W.Frag)(fd:FuncData)(ps:List Str)(ds:List Value):Prop:=
 ∀ (s:Shared) (us:List Value),K.In s.heap->(us++ds).length=ps.length->BindsTo s fd ⟨us,[]⟩ (ps.zip (us++ds))
theorem qK.all{fd:FuncData}(h:∀ us:List Value,us.length=ps.length->bindArgs fd ⟨us,[]⟩=pure (ps.zip us)):qK K fd ps []:=λs us _ hl=>by rw[QX]at hl ⊢;exact .of_eq (h us hl)
def Ba (CX:oH)(X:Cx)(E:XK):Prop:=∀ (Tk:List (Addr×Obj)) (σ:St) (H:Hp) (s:Shared) (e:Value) (s':Shared),Inv X Tk σ H s->CX X.stack H s E e s'->X.xe e s'
section
variable {X:Cx}{CX:oH}{k:Nat}{f C:Addr}{fd:FuncData}{ps:List Str}{sp:Sp}{si:List V}{ds:List Value}{E:XK}{x m:Str}{p pos apos:Pos}{e o:Expr}{es:List Expr}{ta:TE}{t:TA}
theorem SS{σ:St}{H:Hp}{Q:VK}{vs:List V}(F:fz X.prog X.w X.K X.mg X.base CX k f fd ps sp)(hr:bC k X.A)(hb:qK X.K fd ps ds)(hd:bK si ds)(hx:Ba CX X E)
  (I:Inv X Tk σ H s) (r:bK vs us) (h:sp (vs++si) H Q E):wpAny (model X.prog X.w) X.A (call (.ref f) us) (EP X Tk σ Q) X.xe s:=by
 have r2:bK (vs++si) (us++ds):=r.append hd;have hl:(us++ds).length=ps.length:=by rw[<- r2.length];exact F.len _ _ _ _ h
 refine VC (JQ (F.run X.A X.stack s H ⟨us,[]⟩ (us++ds) (vs++si) Q E hr I.xS (hb s us I.gE hl) r2 h) λr s' hq=>?_);cases r with
 | error e=>exact hx Tk σ H s e s' I hq
 | ok fl=>
  cases fl with
  | ret u=>exact I.after hq
  | next=>exact False.elim hq
  | brk=>exact False.elim hq
  | cont=>exact False.elim hq
theorem HE(F:fz X.prog X.w X.K X.mg X.base CX k f fd ps sp)(hr:bC k X.A)(hg:Gl X x)(hm:X.mg x=some (.ref f))(hk:W.keepIn X.K (.ref f)=true)(hb:qK X.K fd ps ds)(hd:bK si ds)(hx:Ba CX X E)
  (ha:PA X (e::es) t) (ib:(x==("__debug__":Str))=false:=by decide) (he:starEach (e::es) X.env=(false,eval e X.env)::starEach es X.env:=by rfl) (cE:(backTo pos (starEach es X.env)).any (·.1)=false:=by rfl) :
  PE X (.Call (.Name x p) (e::es) [] pos) (SR sp si E t):=by intro Tk s σ H Q I h;refine Yb (xP I hg hm ?_ ib);refine W.callWith_K (h₀:=X.base) I.ok.mod.xI hk (bE (ha pos Tk s σ H _ I h) λus s1 ⟨vs,H1,I1,r,q⟩=>⟨I1.gE,?_⟩) he cE;exact SS F hr hb hd hx I1 r q
structure Mk (K:PySem.W.Frag) (C f:Addr):Prop where
 makes:W.makesIn K C=true
 init:W.findIn K (.ref C) "__init__" = some (some (.ref f))
 fn:W.isFn K (.ref f)=true
 kp:W.keepIn K (.ref C)=true
end
structure ae (N P:List Str) (sc:Scope):Prop where
 kind:sc.kind=.function
 co:sc.isCoroutine=false
 gen:sc.isGenerator=false
 nd:N.Nodup
 pre:N.take P.length=P
 par:∀ x∈P,sc.names.lookup x=some .local\/sc.names.lookup x=some .cell
 uk:∀ y∈sc.names,y.2 ≠ .free
theorem cF{P:List Str}(h:N.Nodup/\(∀ x∈P,sc.names.lookup x=some .local\/sc.names.lookup x=some .cell)/\∀ y∈sc.names,y.2 ≠ .free:=by decide +kernel)(a:sc.kind=.function:=by rfl)(b:sc.isCoroutine=false:=by rfl)(c:sc.isGenerator=false:=by rfl)(d:N.take P.length=P:=by rfl):ae N P sc:=⟨a,b,c,h.1,d,h.2.1,h.2.2⟩
theorem HF:∀ {binds:List (Str×Value)} {m:Str->Option Value},(∀ v,(x,v) ∉ binds)->bindL kindOf binds m x=m x
 | [],_,_=>rfl
 | (n,v)::r,m,h=>by
  unfold bindL;rw[HF λw hw=>h w (Qf _ hw)];split
  .have:x≠n:=by rintro rfl;exact h v Qg
   simp[this]
  .rfl
theorem HG:∀ {binds:List (Str×Value)} {m:Str->Option Value},(∀ v,(x,v) ∉ binds)->bindC kindOf binds m x=m x
 | [],_,_=>rfl
 | (n,v)::r,m,h=>by
  unfold bindC;rw[HG λw hw=>h w (Qf _ hw)];split
  .rfl
  .have:x≠n:=by rintro rfl;exact h v Qg
   simp[this]
theorem HH:∀ {P:List Str} {vs:List Value} {i:Nat} {m:Str->Option Value},P.Nodup->P[i]? = some x->vs[i]? = some v->kindOf x=some .local->
  bindL kindOf (P.zip vs) m x=some v
 | [],_,_,_,_,h,_,_=>by simp at h
 | _::_,[],_,_,_,_,h,_=>by simp at h
 | p::P,w::vs,0,m,nd,h1,h2,hk=>by simp at h1 h2;subst h1;subst h2;show bindL kindOf ((p,w)::P.zip vs) m p=_;unfold bindL;rw[HF λv hv=>(Q3.mp nd).1 (YM hv).1,Qh hk];simp
 | p::P,w::vs,i+1,m,nd,h1,h2,hk=>by show bindL kindOf ((p,w)::P.zip vs) m x=_;unfold bindL;exact HH (i:=i) (Q3.mp nd).2 (by simpa using h1) (by simpa using h2) hk
theorem HI:∀ {P:List Str} {vs:List Value} {i:Nat} {m:Str->Option Value},P.Nodup->P[i]? = some x->vs[i]? = some v->kindOf x≠some .local->
  bindC kindOf (P.zip vs) m x=some v
 | [],_,_,_,_,h,_,_=>by simp at h
 | _::_,[],_,_,_,_,h,_=>by simp at h
 | p::P,w::vs,0,m,nd,h1,h2,hk=>by simp at h1 h2;subst h1;subst h2;show bindC kindOf ((p,w)::P.zip vs) m p=_;unfold bindC;rw[HG λv hv=>(Q3.mp nd).1 (YM hv).1,Ql hk];simp
 | p::P,w::vs,i+1,m,nd,h1,h2,hk=>by show bindC kindOf ((p,w)::P.zip vs) m x=_;unfold bindC;exact HI (i:=i) (Q3.mp nd).2 (by simpa using h1) (by simpa using h2) hk
def start (N:List Str)(vs:List V):St:=vs.map some++replicate (N.length-vs.length) none
def nP (CX:oH)(P:Program)(w:World)(K:PySem.W.Frag)(mg:Str->Option Value)(base:Heap)(N:List Str)(qual:Str)(scope:Scope)(f:Addr)(cd:Value)(A:Around)(outer:List Env)(s:Shared)(H:Hp)(E:XK):Cx where
 prog:=P
 w:=w
 K:=K
 mg:=mg
 base:=base
 A:=A.deeper (envOfC qual scope s.heap.objs.size f cd)
 N:=N
 aD:=s
 cb:=H
 env:=envOfC qual scope s.heap.objs.size f cd
 outer:=outer
 stack:=envOfC qual scope s.heap.objs.size f cd::outer
 ex:=[]
 calm:=true
 fn:=λ_=>true
 pn:=[]
 xe:=λe s'=>wpAny (model P w) (A.deeper (envOfC qual scope s.heap.objs.size f cd)) (leaving (envOfC qual scope s.heap.objs.size f cd) e) (λ_ sj=>CX outer H s E e sj) (λe' sj=>CX outer H s E e' sj) s'
theorem HJ(h:sc.names.lookup x=some .cell):∃ c,(cellsFrom n sc.names []).lookup x=some c:=by have q:=Jy sc.names n [] (.inl h);exact Jp.mp q
theorem SU{CX:oH}{f:Addr}{cd:Value}{outer:List Env}{s1:Shared}{H:Hp}{E:XK}{vs:List V}
  (S:ae N ps scope) (hd:A.handled=none) (e0:qJ P w K mg base A outer s H) (hl:vs.length=ps.length) (r:bK vs us)
  (x:InCallC s s.heap.objs.size (bindL (envOfC qual scope s.heap.objs.size f cd).kindOf (ps.zip us) λ_=>none) (cellsFrom (s.heap.objs.size+1) scope.names []) (bindC (envOfC qual scope s.heap.objs.size f cd).kindOf (ps.zip us) λ_=>none) s1) :
  Inv (nP CX P w K mg base N qual scope f cd A outer s H E) [] (start N vs) H s1:=by
 have cE:ps.length<=N.length:=by have:=Zy List.length S.pre;rw[Zg]at this;omega
 obtain⟨h1,tk,rfl,hk⟩:=x.done;have xT:∀ b:Addr,b ∉ (nP CX P w K mg base N qual scope f cd A outer s H E).ex:=λb z=>absurd (show b∈([]:List Addr)from z) (by simp);refine⟨⟨e0.mod,S.kind,rfl,rfl,Qj _,λy z c h1 h2=>?_,λy hy=>?_,λy c _ h=>?_,λ_=>hd,Around.frames_deeper e0.frames,.inr ⟨rfl,rfl⟩,λb z=>absurd z (xT b),e0.bs,e0.ou,λb _ _=>xT b,λb z=>absurd z (xT b),e0.gD,e0.ua⟩,
  rfl,e0.bare,Un.kept hk,⟨_,x.toInCall.ns,λi y v h1 h2 h3=>?_⟩,λy c h=>⟨_,x.cell y c h⟩,e0.aP.fresh (Qj _),λy c h=>?_,λp hp=>absurd (show p∈([]:List (Addr×Obj))from hp) (by simp),e0.aP.kept hk,?_⟩
 .exact name_of_addr x.apart (QY h1) (QY h2)
 .have hy:scope.names.lookup y=some .cell\/scope.names.lookup y=some .free:=hy;rcases hy with hy|hy
  .exact HJ hy
  .exact absurd rfl (S.uk _ (QY hy))
 .exact Jx (x.above y c (QY h))
 .have hi:i<vs.length:=by
   unfold start at h2;by_cases hi:i<vs.length
   .exact hi
   .rw[Zk (by simpa using hi)]at h2;rw[Z3]at h2;split at h2<;>cases h2
  have ha:vs[i]? = some v:=by
   unfold start at h2;rw[QU (by simpa using hi),Qp]at h2;cases e:vs[i]? with
   | none=>rw[e]at h2;cases h2
   | some a=>rw[e]at h2;cases h2;rfl
  obtain⟨u,hu,rv⟩:=r.get ha;have hp:ps[i]? = some y:=by rw[<- S.pre,Z2 (by omega)];exact h1
  have HK:ps.Nodup:=by rw[<- S.pre];exact S.nd.sublist (List.take_sublist _ _)
  refine⟨u,rv,?_⟩;rcases S.par y (QR hp)with k|k
  .exact .inl ⟨k,HH HK hp hu k⟩
  .obtain⟨c,e⟩:=HJ (n:=s.heap.objs.size+1) k;refine .inr ⟨.inl k,c,e,?_⟩;have q:=x.cell y c e;rw[HI HK hp hu (by show scope.names.lookup y≠_;rw[k];decide)]at q;exact q
 .exact e0.aP.fresh (Jx (x.above y c (QY h)))
 .unfold start;show _=N.length;rw[Qk,Qb,ZL];omega
theorem HL{CX:oH}{k:Nat}{f:Addr}{name:Str}{params:Arguments}{dV kV doc pm cB ct oc:Value}{an od:Option Addr}
  {pV:Array (Option Value)}  {sp:Sp} (lk:K.lookup f=some ⟨oc,od,.func (W.fnOf name qual params body scope dV kV doc pm an cB ct),pV⟩) (i4:W.codeIn K cB qual=true) (S:ae N ps scope)
  (len:∀ vs H Q E,sp vs H Q E->vs.length=ps.length)
  (oI:∀ (A:Around) (outer:List Env) (s:Shared) (H:Hp) (vs:List V) (Q:VK) (E:XK),bC k (A.deeper (envOfC qual scope s.heap.objs.size f cB))->sp vs H Q E->
    ∃ t,i3 (nP CX P w K mg base N qual scope f cB A outer s H E) body t/\t { nx:=λ_ H'=>Q .bc H',rt:=Q } (start N vs) H) :
  fz P w K mg base CX (k+1) f (W.fnOf name qual params body scope dV kV doc pm an cB ct) ps sp:=by
 refine⟨len,λA outer s H args us vs Q E hr e0 hb r k8=>?_⟩;have hl:=len _ _ _ _ k8;have KX:K.In s.heap:=e0.mod.xI.keeps λb o e=>(e0.bs b o e).1;have lim:s.heap.NoLimit:=e0.mod.nolimit.keeps λb o e=>(e0.bs b o e).1;have xU:∀ y∈ps.zip us,scope.names.lookup y.1=some .local\/(scope.names.lookup y.1=some .cell/\((cellsFrom (s.heap.objs.size+1) scope.names []).lookup y.1).isSome=true):=λ⟨n,v⟩ hy=>by
  rcases S.par n (YM hy).1 with q|q
  .exact .inl q
  .exact .inr ⟨q,Jy _ _ _ (.inl q)⟩
 refine codeAny_call_function hr.depth (KX _ _ lk) rfl S.co S.gen rfl (W.codeRec_of KX i4) (hb _ _ _ _ ?_);refine wpAny_newFunctionEnv_cells S.kind xU λenv he s1 x=>?_;subst he;refine⟨lim.keeps x.toInCall.keep,codeAny_func ?_⟩;obtain⟨t,ht,hq⟩:=oI A outer s H vs Q E (hr.deeper _) k8;have I:Inv (nP CX P w K mg base N qual scope f cB A outer s H E) [] (start N vs) H s1:=SU S hr.hd e0 hl r x;refine ZN (ht [] s1 (start N vs) H _ I hq) (λfl s' hs=>?_) λe s' hs=>hs;have fin:∀ {aX:St} {H':Hp} {v:V} {u:Value},Inv (nP CX P w K mg base N qual scope f cB A outer s H E) [] aX H' s'->cn v u->Q v H'->CE outer P w H s Q u s':=
  λ{aX H' v u} J rv q=>⟨v,H',J.os,J.bare,J.base,J.aP,rv,q⟩
 cases fl with
 | ret u=>
  obtain⟨v,aX,H',J,rv,q⟩:=hs;exact fin J rv q
 | next=>
  obtain⟨aX,H',J,q⟩:=hs;exact fin (v:=V.bc) (u:=Value.none) J rfl q
 | brk=>
  obtain⟨_,_,_,q⟩:=hs;exact False.elim q
 | cont=>
  obtain⟨_,_,_,q⟩:=hs;exact False.elim q
section
variable {X:Cx}{x:Str}{p pos:Pos}{e:Expr}{es:List Expr}{t:TA}{id T:String}{r:List V->Hp->VK->Prop}
def Bb (r:List V->Hp->VK->Prop)(t:TA):TE:=λσ H Q=>t σ H λvs H1=>r vs H1 Q
theorem qL(hc:kZ X (.builtin id) r)(hg:Gl X x)(hm:X.mg x=none)(hv:bootBuiltins x=some (.builtin id))(ha:PA X (e::es) t)(hn:x ≠ "__name__":=by decide)(ib:(x==("__debug__":Str))=false:=by decide)
  (he:starEach (e::es) X.env=(false,eval e X.env)::starEach es X.env:=by rfl) (cE:(backTo pos (starEach es X.env)).any (·.1)=false:=by rfl):PE X (.Call (.Name x p) (e::es) [] pos) (Bb r t):=by intro Tk s σ H Q I h;refine Yb (vY I hg hm hv ?_ hn ib);exact PyProof.Rows.callWith_builtin1 (bE (ha pos Tk s σ H _ I h) λus s1 ⟨vs,H1,I1,r1,q1⟩=>hc Tk s1 σ H1 vs us Q I1 r1 q1) he cE
theorem v7(hc:kZ X (.type T) r)(hg:Gl X x)(hm:X.mg x=none)(hv:bootBuiltins x=some (.type T))(ha:PA X (e::es) t)(hn:x ≠ "__name__":=by decide)(ib:(x==("__debug__":Str))=false:=by decide)
  (he:starEach (e::es) X.env=(false,eval e X.env)::starEach es X.env:=by rfl) (cE:(backTo pos (starEach es X.env)).any (·.1)=false:=by rfl):PE X (.Call (.Name x p) (e::es) [] pos) (Bb r t):=by intro Tk s σ H Q I h;refine Yb (vY I hg hm hv ?_ hn ib);exact Ja (bE (ha pos Tk s σ H _ I h) λus s1 ⟨vs,H1,I1,r1,q1⟩=>hc Tk s1 σ H1 vs us Q I1 r1 q1) he cE
end
end L2
namespace HT
open PySem PyProof.Rows
variable {Q:Tl}{hi lo:Option Int}{sl:Addr}{vl vu:Value}
section
open PySem.SeqAt
open PySem.AutoSeq1 (wpAny_loadPart')
open PySem.MeetsSeq PySem.MeetsSeq2 PySem.MeetsSeq3
end
section
variable {prog:Program}{w:World}{A:Around}{E:Tl}{s:Shared}
theorem SV{t b:Addr}{vs ws:List Value}(ht:IsTup s.heap t vs.toArray)(hb:IsTup s.heap b ws.toArray)(hv:vs ≠ [])
  (h1:ws=[]->Q (.ref t) s) (h2:ws ≠ []->Q (.ref s.heap.objs.size) { s with heap:=s.heap.push { cls:=.type "tuple",data:=.seq (vs++ws).toArray } })
  (hsz:vs.length+ws.length<=sizeLine):wpAny (model prog w) A (binaryOp .Add (.ref t) (.ref b)) Q E s:=by
 obtain⟨⟨cls,dd,data,sl⟩,ho,hc,n,hd⟩:=id ht;obtain⟨⟨Dg,Bc,data2,Bd⟩,um,l3,n2,hd2⟩:=id hb;simp only at hc hd l3 hd2;subst hc hd l3 hd2;have e:vs.toArray++ws.toArray=(vs++ws).toArray:=by simp
 by_cases hw:ws=[]
 .exact VD ⟨_,ho,rfl⟩ ⟨_,um,rfl⟩ Vt seq_tuple_add Yi Yf (JX _ _)
   (tuple_addW1 t b vs.toArray ws.toArray n n2 dd Bc sl Bd (by simpa using hv) (by simp[hw])) ⟨ho,um,h1 hw⟩
 .refine VD ⟨_,ho,rfl⟩ ⟨_,um,rfl⟩ Vt seq_tuple_add Yi Yf (JX _ _)
   (tuple_addW2 t b vs.toArray ws.toArray n n2 dd Bc sl Bd (by simpa using hv) (by simpa using hw) (by rw[Qn,Qn];exact hsz)) ⟨ho,um,?_⟩
  rw[e];exact h2 hw
def bR (n d:Nat):Option Int->Nat
 | none=>d
 | some v=>if v<0 then(v+(n:Int)).toNat else min v.toNat n
theorem SW(n d:Nat)(hd:d<=n)(o:Option Int):bR n d o<=n:=by
 cases o with
 | none=>exact hd
 | some v=>
  show(if v<0 then(v+(n:Int)).toNat else min v.toNat n)<=n;by_cases hv:v<0
  .rw[Qh hv];omega
  .rw[Ql hv];exact Nat.min_le_right _ _
theorem HM(v:Int)(n d:Nat):(if v<0 then max (v+(n:Int)) 0 else min v (n:Int))=((bR n d (some v):Nat):Int):=by
 show(if v<0 then max (v+(n:Int)) 0 else min v (n:Int))=(((if v<0 then(v+(n:Int)).toNat else min v.toNat n):Nat):Int);by_cases hv:v<0
 .simp only[Qh hv];omega
 .simp only[Ql hv];omega
theorem SX(lo hi:Option Int)(n:Nat):Builtin.Slice.sliceAdjust lo hi 1 (n:Int)=(((bR n 0 lo:Nat):Int),((bR n n hi:Nat):Int)):=by
 have h1:¬ ((1:Int)<0):=by omega
 unfold Builtin.Slice.sliceAdjust;simp only[h1,Zm];refine Prod.ext ?_ ?_
 .cases lo with
  | none=>rfl
  | some v=>exact HM v n 0
 .cases hi with
  | none=>rfl
  | some v=>exact HM v n n
theorem SY(i j:Nat):Builtin.Slice.slicePlaces (i:Int) (j:Int) 1=j-i:=by
 unfold Builtin.Slice.slicePlaces;have h1:(1:Int) > 0:=by omega
 simp only[h1,ZE,Int.ediv_one];split<;>omega
theorem HN{v:Value}{o:Option Int}{Q:Option Int->Shared->Prop}(p:IsPart v o)(h:Q o s):wpAny (model prog w) A (Builtin.Slice.slicePartIndex v) Q E s:=by
 cases p with
 | none=>exact slicePart_none h
 | int i t=>exact slicePart_int h
theorem HP{n:Nat}{Q:Int×Int×Nat->Shared->Prop}(hs:s.heap.IsSliceOf sl vl vu .none)(pl:IsPart vl lo)(pu:IsPart vu hi)
  (h:Q (((bR n 0 lo:Nat):Int),1,bR n n hi-bR n 0 lo) s):wpAny (model prog w) A (Builtin.Slice.sliceApplied (.ref sl) (pure (n:Int))) Q E s:=by obtain⟨os,uq,Be,xV⟩:=id hs;unfold Builtin.Slice.sliceApplied Builtin.Slice.sliceFields;refine Qa (Qa (ZK uq xV (x:=vl) rfl (Qa (ZK uq xV (x:=vu) rfl (Qa (ZK uq xV (x:=.none) rfl (Qd ?_)))))));refine Qa (slicePart_none ?_);show wpAny _ _ (if((1:Int)==0)=true then _ else _) _ _ s;rw[Ql (by decide)];refine Qa (HN pl (Qa (HN pu (Qa (Qd ?_)))));show wpAny _ _ (match Builtin.Slice.sliceAdjust lo hi 1 (n:Int)with|(lo,hi)=>pure (lo,(1:Int),Builtin.Slice.slicePlaces lo hi 1)) _ _ s;rw[SX lo hi n];show wpAny _ _ (pure (((bR n 0 lo:Nat):Int),(1:Int),Builtin.Slice.slicePlaces ((bR n 0 lo:Nat):Int) ((bR n n hi:Nat):Int) 1)) _ _ s;rw[SY];exact Qd h
theorem S0(xs:Array Value)(i k:Nat):((range k).filterMap λ(m:Nat)=>xs[((i:Int)+(m:Int)*1).toNat]?).toArray=((xs.toList.drop i).take k).toArray:=by
 have e:(λ(m:Nat)=>xs[((i:Int)+(m:Int)*1).toNat]?)=λm=>xs[i+m]?:=by
  funext m;have:((i:Int)+(m:Int)*1).toNat=i+m:=by omega
  rw[this]
 rw[e];have:=pick_run xs i k;rw[List.filterMap_map]at this;have e2:((λx=>xs[x]?) ∘ λx=>i+x)=λm=>xs[i+m]?:=rfl;rw[e2]at this;rw[this]
theorem S2{t:Addr}{items:Array Value}(ht:IsTup s.heap t items)(hs:s.heap.IsSliceOf sl vl vu .none)(pl:IsPart vl lo)(pu:IsPart vu hi)
  (hw:¬ (bR items.size 0 lo=0/\bR items.size items.size hi=items.size))
  (h:Q (.ref s.heap.objs.size) { s with heap:=s.heap.push { cls:=.type "tuple",data:=.seq ((items.toList.drop (bR items.size 0 lo)).take (bR items.size items.size hi-bR items.size 0 lo)).toArray } })
  (hsz:items.size<=sizeLine):wpAny (model prog w) A (getItem (.ref t) (.ref sl)) Q E s:=by
 have l7:sizeOk (.seq ((items.toList.drop (bR items.size 0 lo)).take (bR items.size items.size hi-bR items.size 0 lo)).toArray):=by show((items.toList.drop (bR items.size 0 lo)).take (bR items.size items.size hi-bR items.size 0 lo)).toArray.size<=sizeLine;rw[Qn,Zg,ZZ,QG];omega
 have hj:bR items.size items.size hi<=items.size:=SW _ _ (Qj _) hi;obtain⟨os,uq,Be,xV⟩:=id hs;have S3:s.TypeIs (.ref sl) "slice":=⟨os,uq,Be⟩;unfold getItem
 try with_reducible refine Zq ?_
 first|refine Qa (Qd ?_)|skip
 refine Qa (wpAny_sequenceKey ht.typeIs (by decide) ?_);refine Qa (Zu (name:=Str.ofString "__getitem__") ht.typeIs Zr
  (Zh Zr ht.typeIs entry_tuple_getitem ?_ (args_tuple_getitem _ _)))
 show wpAny _ _ (Builtin.Tuple.tupleItemsOf (.ref t) >>= _) _ _ s;refine Qa (tupleItemsOf_ ht ?_);refine Qa (Yj S3 ?_);rw[Qh (by decide)];refine Qa (HP hs pl pu ?_);have Dh:¬ ((((bR items.size 0 lo:Nat):Int)==0&&(1:Int)==1&&(bR items.size items.size hi-bR items.size 0 lo)==items.size)=true):=by intro q;rw[Zo,Zo]at q;have q1:((bR items.size 0 lo:Nat):Int)=0:=eq_of_beq q.1.1;have q2:bR items.size items.size hi-bR items.size 0 lo=items.size:=eq_of_beq q.2;exact hw ⟨by omega,by omega⟩
 show wpAny _ _ (if(((bR items.size 0 lo:Nat):Int)==0&&(1:Int)==1&&(bR items.size items.size hi-bR items.size 0 lo)==items.size)=true then _ else _) _ _ s;rw[Ql Dh,S0]
 first
  | exact Qa (m:=Builtin.Tuple.tupleExact _) (Zj (Qd ⟨_,rfl,Qd h⟩) l7)
  | exact Qa (m:=Builtin.Tuple.tupleExact _) (Zj (Qa (Qd (Qd ⟨_,rfl,Qd h⟩))) l7)
  | exact Qa (Qa (m:=Builtin.Tuple.tupleExact _) (Zj (Qd (Qd ⟨_,rfl,Qd h⟩)) l7))
  | exact Qa (Qa (m:=Builtin.Tuple.tupleExact _) (Zj (Qd ⟨_,rfl,Qd h⟩) l7))
end
end HT
namespace L2
open PySem PySem.Spec PyProof.Rows
variable {H:Hp}{i:Int}{n:Nat}{Tk:List (Addr×Obj)}{r:V->Option Int->Option Int->Hp->VK->Prop}{s:Shared}{us:List Value}{xs:List V}{σ:St}
abbrev TO:=St->Hp->(Option Int->Hp->Prop)->Prop
def PO (X:Cx)(e:Option Expr)(t:TO):Prop:=
 ∀ (Tk:List (Addr×Obj)) (s:Shared) (σ:St) (H:Hp) (Q:Option Int->Hp->Prop),Inv X Tk σ H s->t σ H Q->
  wpAny (model X.prog X.w) X.A (evalPart e X.env) (λu s'=>∃ o H',Inv X Tk σ H' s'/\IsPart u o/\Q o H') X.xe s
def S4:TO:=λ_ H Q=>Q none H
def S5 (t:TE):TO:=λσ H Q=>t σ H λx H1=>∃ i,x=.int i/\Q (some i) H1
section
variable {X:Cx}{e:Expr}{te:TE}{lo hi:Option Expr}{tl th:TO}{pos p2:Pos}
theorem S6:PO X none S4:=by intro Tk s σ H Q I h;rw[evalPart_none];exact Qd ⟨none,H,I,.none,h⟩
theorem S7(h:PE X e te):PO X (some e) (S5 te):=by intro Tk s σ H Q I hw;rw[evalPart_some];refine bE (h Tk s σ H _ I hw) λu s1 aj=>?_;obtain⟨x,H1,I1,r1,q1⟩:=aj;obtain⟨i,rfl,q⟩:=q1;obtain⟨t,rfl⟩:=r1;exact⟨some i,H1,I1,.int i t,q⟩
def sk (X:Cx)(r:V->Option Int->Option Int->Hp->VK->Prop):Prop:=
 ∀ (Tk:List (Addr×Obj)) (s:Shared) (σ:St) (H:Hp) (x:V) (v vl vu:Value) (lo hi:Option Int) (sl:Addr) (Q:VK),Inv X Tk σ H s->cn x v->s.heap.IsSliceOf sl vl vu .none->IsPart vl lo->IsPart vu hi->r x lo hi H Q->
  ∃ T id,typeLookup (.type T) "__getitem__" = pure (some (.builtin id))/\s.TypeIs v T/\wpAny (model X.prog X.w) X.A (getItem v (.ref sl)) (EP X Tk σ Q) X.xe s
theorem sk.or{r':V->Option Int->Option Int->Hp->VK->Prop}(h:sk X r)(h':sk X r'):sk X (λx lo hi H Q=>r x lo hi H Q\/r' x lo hi H Q):=by
 intro Tk s σ H x v vl vu lo hi sl Q I rx hs pl pu q;rcases q with q|q
 .exact h Tk s σ H x v vl vu lo hi sl Q I rx hs pl pu q
 .exact h' Tk s σ H x v vl vu lo hi sl Q I rx hs pl pu q
def S8 (r:V->Option Int->Option Int->Hp->VK->Prop)(te:TE)(tl th:TO):TE:=λσ H Q=>te σ H λx H1=>tl σ H1 λl H2=>th σ H2 λu H3=>r x l u H3 Q
theorem S_(hr:sk X r)(he:PE X e te)(hl:PO X lo tl)(hu:PO X hi th):PE X (.Subscript e (.Slice lo hi none p2) pos) (S8 r te tl th):=by intro Tk s σ H Q I h;refine Subscript_ (bE (he Tk s σ H _ I h) λv s1 aj=>?_);obtain⟨x,H1,I1,r1,q1⟩:=aj;refine wpAny_Slice (bE (hl Tk s1 σ H1 _ I1 q1) λvl s2 ⟨l,H2,I2,pl,q2⟩=>bE (hu Tk s2 σ H2 _ I2 q2) λvu s3 aj=>?_);obtain⟨u,H3,I3,pu,q3⟩:=aj;rw[evalPart_none];refine Qd ?_;have I4:Inv X Tk σ H3 { s3 with heap:=s3.heap.push { cls:=.type "slice",data:=.fields #[vl,vu,.none] } }:=I3.kept (t':=s3.toks) λb ob q=>Qe _ q;obtain⟨T,id,hT,ht,hg⟩:=hr Tk { s3 with heap:=s3.heap.push { cls:=.type "slice",data:=.fields #[vl,vu,.none] } } σ H3 x v vl vu l u s3.heap.objs.size Q I4 r1 (Heap.IsSliceOf.new ..) pl pu q3;show wpAny (model X.prog X.w) X.A (subscriptTail e (.Slice lo hi none p2) v (.ref s3.heap.objs.size)) (EP X Tk σ Q) X.xe { s3 with heap:=s3.heap.push { cls:=.type "slice",data:=.fields #[vl,vu,.none] } };exact tail_any (ops:=[.ref s3.heap.objs.size,v]) ht hT hg (by with_unfolding_all rfl)
def sr (xs:List V)(lo hi:Option Int):List V:=(xs.drop (HT.bR xs.length 0 lo)).take (HT.bR xs.length xs.length hi-HT.bR xs.length 0 lo)
theorem HQ(xs:List V)(lo hi:Option Int):(sr xs lo hi).length<=xs.length:=by unfold sr;rw[Zg,ZZ];omega
def Ta (K:PySem.W.Frag):V->Option Int->Option Int->Hp->VK->Prop:=λx lo hi H Q=>∃ a xs,x=.ref a/\du K H a xs /\
 ¬ (HT.bR xs.length 0 lo=0/\HT.bR xs.length xs.length hi=xs.length)/\∀ p,H p=none->Q (.ref p) (upd H p (.tup (sr xs lo hi)))
theorem Tb:sk X (Ta X.K):=by
 intro Tk s σ H x v vl vu lo hi sl Q I rx hs pl pu h;obtain⟨a,xs,rfl,hx,hw,q⟩:=h;cases rx;obtain⟨ak,r,ht,hz⟩:=I.tuple hx;have hlen:ak.toArray.size=xs.length:=by rw[Qn];exact r.length.symm
 refine⟨"tuple",_,Zr.lookup,ht.typeIs,?_⟩;refine HT.S2 ht hs pl pu (by rw[hlen];exact hw) ?_ (by rw[hlen];exact hz);rw[hlen];refine⟨.ref s.heap.objs.size,_,I.laid (t':=s.toks) (o:=.tup (sr xs lo hi)) (λb ob q=>Qe _ q) (Qj _) ?_,rfl,q _ (I.aP.fresh (Qj _))⟩;exact⟨Qw (HQ xs lo hi) hz,_,(r.drop (HT.bR xs.length 0 lo)).take (HT.bR xs.length xs.length hi-HT.bR xs.length 0 lo),mR.new _ _⟩
def Tc (K:PySem.W.Frag):R2:=λx y H Q=>∃ a b xs ys,x=.ref a/\y=.ref b/\du K H a xs/\du K H b ys/\xs ≠ []/\xs.length+ys.length<=sizeLine /\
 (ys=[]->Q (.ref a) H)/\(ys ≠ []->∀ p,H p=none->Q (.ref p) (upd H p (.tup (xs++ys))))
theorem bK.jw(r:bK xs us):us=[] ↔ xs=[]:=by
 cases r with
 | nil=>simp
 | cons _ _=>simp
theorem Td:dy X (binaryOp .Add) (Tc X.K):=by intro Tk s σ H x y v u Q I rx ry h;obtain⟨a,b,xs,ys,rfl,rfl,ha,hb,hx,hz,q1,q2⟩:=h;cases rx;cases ry;obtain⟨ak,r1,p1,_⟩:=I.tuple ha;obtain⟨i6,r2,p2,_⟩:=I.tuple hb;refine HT.SV p1 p2 (λz=>hx (r1.jw.mp z)) (λz=>⟨.ref a,H,I,rfl,q1 (r2.jw.mp z)⟩) (λz=>?_) (by rw[<- r1.length,<- r2.length];exact hz);refine⟨.ref s.heap.objs.size,_,I.laid (t':=s.toks) (o:=.tup (xs++ys)) (λb ob q=>Qe _ q) (Qj _) ?_,rfl,q2 (λw=>z (r2.jw.mpr w)) _ (I.aP.fresh (Qj _))⟩;exact⟨by rw[Qk];exact hz,_,r1.append r2,mR.new _ _⟩
end
def k9 (n:Nat)(i:Int):Option Nat:=if 0<=i then(if i<n then some i.toNat else none)else if -(n:Int)<=i then some (i+n).toNat else none
def fK {α:Type}(xs:List α)(i:Int):Option α:=(k9 xs.length i).bind λj=>xs[j]?
theorem Di{j:Nat}(h:k9 n i=some j):seqIndex? i n=some j/\j<n /\ -(n:Int)<=i/\i<n:=by
 unfold k9 at h;by_cases h0:0<=i
 .rw[Qh h0]at h;by_cases h1:i<n
  .rw[Qh h1]at h;have e:i.toNat=j:=QI h;exact⟨by rw[seqIndex_of h0 h1,e],by omega,by omega,h1⟩
  .rw[Ql h1]at h;cases h
 .rw[Ql h0]at h;by_cases h1:-(n:Int)<=i
  .rw[Qh h1]at h;have e:(i+n).toNat=j:=QI h;exact⟨by rw[seqIndex_neg (by omega) h1,e],by omega,h1,by omega⟩
  .rw[Ql h1]at h;cases h
theorem Dj{α:Type}{xs:List α}{v:α}(h:fK xs i=some v):∃ j,seqIndex? i xs.length=some j/\xs[j]? = some v/\j<xs.length /\ -(xs.length:Int)<=i/\i<xs.length:=by
 unfold fK at h;cases e:k9 xs.length i with
 | none=>rw[e]at h;cases h
 | some j=>
  rw[e]at h;obtain⟨h1,h2,h3,h4⟩:=Di e;exact⟨j,h1,h,h2,h3,h4⟩
def v8 (b:Expr):Prop:=∀ o i,subscripted b false o i=operate [o,i] (getItem o i)
def qM (X:Cx)(r:R2):Prop:=
 ∀ (value slice:Expr) (Tk:List (Addr×Obj)) (s:Shared) (σ:St) (H:Hp) (x y:V) (v u:Value) (Q:VK),Inv X Tk σ H s->cn x v->cn y u->r x y H Q->
  subscripted slice false v u=operate [v,u] (getItem v u)->wpAny (model X.prog X.w) X.A (subscriptTail value slice v u) (EP X Tk σ Q) X.xe s
def Bf (X:Cx)(id:String)(r:V->List V->Hp->VK->Prop):Prop:=
 ∀ (Tk:List (Addr×Obj)) (s:Shared) (σ:St) (H:Hp) (x:V) (xs:List V) (v:Value) (us:List Value) (Q:VK),Inv X Tk σ H s->cn x v->bK xs us->r x xs H Q->
  wpAny (model X.prog X.w) X.A (call (.builtin id) (v::us)) (EP X Tk σ Q) X.xe s
section
variable {X:Cx}{a b:Expr}{ta tb:TE}{pos:Pos}
theorem qM.or{r r':R2}(h:qM X r)(h':qM X r'):qM X (λx y H Q=>r x y H Q\/r' x y H Q):=by
 intro value slice Tk s σ H x y v u Q I rx ry q hs;rcases q with q|q
 .exact h value slice Tk s σ H x y v u Q I rx ry q hs
 .exact h' value slice Tk s σ H x y v u Q I rx ry q hs
theorem xW{r:R2}(hr:qM X r)(ha:PE X a ta)(hb:PE X b tb)(hs:v8 b):PE X (.Subscript a b pos) (j5 r ta tb):=by intro Tk s σ H Q I h;exact Subscript_ (C8 ha hb I h λv u s2 x y H2 I2 rx ry q=>hr a b Tk s2 σ H2 x y v u Q I2 rx ry q (hs _ _))
def HR (K:PySem.W.Frag):R2:=λx y H Q=>∃ p xs i v,x=.ref p/\y=.int i/\dE K H p xs/\fK xs i=some v/\Q v H
def HS (K:PySem.W.Frag):R2:=λx y H Q=>∃ p xs i v,x=.ref p/\y=.int i/\du K H p xs/\fK xs i=some v/\Q v H
def HU:R2:=λx y H Q=>∃ z i c,x=.str z/\y=.int i/\z.length<=sizeLine/\fK z.cps.toList i=some c/\Q (.str ⟨#[c]⟩) H
theorem Te:qM X (HR X.K):=by
 intro value slice Tk s σ H x y v u Q I rx ry h hs;obtain⟨p,xs,i,z,rfl,rfl,hq,he,q⟩:=h;cases rx;obtain⟨t,rfl⟩:=ry;obtain⟨ak,r,pl,hz⟩:=I.list hq;obtain⟨j,h1,h2,h3,h4,h5⟩:=Dj he;obtain⟨w,ew,qH⟩:=r.get h2;have hl:=r.length;have hn:=vZ;have fin:EP X Tk σ Q w s:=⟨z,H,I,qH,q⟩;by_cases h0:0<=i
 .have hj:i.toNat=j:=by rw[seqIndex_of h0 h5]at h1;exact QI h1
  exact item_listR pl.isList h0 (by omega) (by rw[hj];simpa using ew) fin hs
 .have hj:(i+(ak.toArray.size:Int)).toNat=j:=by rw[seqIndex_neg (by omega) h4]at h1;rw[Qn,<- hl];exact QI h1
  exact subscriptTail_builtinR (x:=w) pl.isList.typeIs slot_list_getitem.lookup
   (wpAny_getItem_list_neg (Q:=λr s'=>r=w/\EP X Tk σ Q r s') pl.isList (by omega) (by rw[Qn]<;>omega) (by omega) (by rw[hj];simpa using ew) ⟨rfl,fin⟩) hs
theorem Tf:qM X (HS X.K):=by
 intro value slice Tk s σ H x y v u Q I rx ry h hs;obtain⟨p,xs,i,z,rfl,rfl,hq,he,q⟩:=h;cases rx;obtain⟨t,rfl⟩:=ry;obtain⟨ak,r,pl,hz⟩:=I.tuple hq;obtain⟨j,h1,h2,h3,h4,h5⟩:=Dj he;obtain⟨w,ew,qH⟩:=r.get h2;have hl:=r.length;have hn:=vZ;have fin:EP X Tk σ Q w s:=⟨z,H,I,qH,q⟩;exact subscriptTail_builtinR (x:=w) pl.typeIs slot_tuple_getitem.lookup
  (getItem_tuple (j:=j) (Q:=λr s'=>r=w/\EP X Tk σ Q r s') pl (by omega) (by omega) (by rw[Qn,<- hl];exact h1) (by simpa using ew) ⟨rfl,fin⟩) hs
theorem Tg:qM X HU:=by
 intro value slice Tk s σ H x y v u Q I rx ry h hs;obtain⟨z,i,c,rfl,rfl,hz,he,q⟩:=h;obtain⟨t,rfl⟩:=rx;obtain⟨t',rfl⟩:=ry;obtain⟨j,h1,h2,h3,h4,h5⟩:=Dj he;have hl:z.cps.toList.length=z.length:=by simp[Str.length]
 rw[hl]at h1 h4 h5;have hn:=vZ;exact tail_any (typeIs_str s z t) slot_str_getitem.lookup (getItem_str (c:=c) (by have e1:decide (i < -(2 ^ 63:Int))=false:=QF (by omega);have e2:decide (i ≥ 2 ^ 63)=false:=QF (by omega);rw[e1,e2,Bool.or_false]) (by rw[h1];simpa using h2) ⟨.str ⟨#[c]⟩,H,I.tok _,⟨_,rfl⟩,q⟩) hs
def Th (K:PySem.W.Frag):R2:=λx y H Q=>HR K x y H Q\/HS K x y H Q\/HU x y H Q
theorem xX:qM X (Th X.K):=Te.or (Tf.or Tg)
theorem Ti(ak:List Value)(n j:Nat)(u:Value):Obj.mapSeq (·.setIfInBounds j u) { cls:=.type "list",data:=.seq ak.toArray n }={ cls:=.type "list",data:=.seq (ak.set j u).toArray n }:=by simp[Obj.mapSeq]
theorem Inv.lst{Tk:List (Addr×Obj)}{σ:St}{H:Hp}{s:Shared}{p:Addr}{xs:List V}(I:Inv X Tk σ H s)(h:H p=some (.lst xs)) :
  ∃ (ak:List Value) (n:Nat),bK xs ak/\s.heap.get? p=some { cls:=.type "list",data:=.seq ak.toArray n }/\xs.length<=sizeLine:=by obtain⟨z,ak,n,r,e⟩:=I.aP p _ h;exact⟨ak,n,r,e,z⟩
theorem Inv.ur{p:Addr}{xs ys:List V}{ak its':List Value}{n n':Nat}{f:Obj->Obj}(I:Inv X Tk σ H s)(h:H p=some (.lst xs))
  (ho:s.heap.get? p=some { cls:=.type "list",data:=.seq ak.toArray n }) (hf:f { cls:=.type "list",data:=.seq ak.toArray n }={ cls:=.type "list",data:=.seq its'.toArray n' }) (r:bK ys its') (hz:ys.length<=sizeLine) (t:Nat) :
  Inv X Tk σ (upd H p (.lst ys)) { s with heap:=s.heap.update p f,toks:=t }:=by
 have e:(s.heap.update p f).get? p=some { cls:=.type "list",data:=.seq its'.toArray n' }:=by rw[Jg f ho (by rw[hf]<;>rfl),hf]
 refine I.write (x:=p) (e:=p) (by rw[h];trivial) (.inl rfl) (λb u hb q=>(Jz _ _ (Zn hb)).trans q) ⟨_,e⟩ ?_;exact⟨hz,its',n',r,e⟩
def Tj:V->V->V->Hp->(Hp->Prop)->Prop:=λo i v H Q=>∃ p xs k j,o=.ref p/\i=.int k/\H p=some (.lst xs)/\k9 xs.length k=some j/\Q (upd H p (.lst (xs.set j v)))
theorem Tn:Hr X Tj:=by
 intro Tk s σ H o i v ov iv u Q I ro ri rv h;obtain⟨p,xs,k,j,rfl,rfl,hp,hj,q⟩:=h;cases ro;obtain⟨t,rfl⟩:=ri;obtain⟨ak,n,r,ho,hz⟩:=I.lst hp;obtain⟨h1,h2,h3,h4⟩:=Di hj;have hl:=r.length;have hn:=vZ;have I':Inv X Tk σ (upd H p (.lst (xs.set j v))) { s with heap:=s.heap.update p (Obj.mapSeq (·.setIfInBounds j u)) }:=
  I.ur hp ho (Ti ak n j u) (r.set rv j) (by rw[QL];exact hz) s.toks
 by_cases h0:0<=k
 .have hk:k.toNat=j:=by rw[seqIndex_of h0 h4]at h1;exact QI h1
  exact W.ki_setAt ho h0 (by omega) (by rw[Qn,<- hl];exact h4) (by rw[hk];exact⟨_,I',q⟩)
 .have hk:(k+(ak.toArray.size:Int)).toNat=j:=by rw[seqIndex_neg (by omega) h3]at h1;rw[Qn,<- hl];exact QI h1
  exact W.ki_setBack ho (by omega) (by rw[Qn,<- hl];exact h3) (by omega) (by rw[hk];exact⟨_,I',q⟩)
theorem Dk:kZ X (.builtin "len") (λxs H Q=>∃ p ys,xs=[.ref p]/\(dE X.K H p ys\/du X.K H p ys)/\Q (.int ys.length) H):=by
 intro Tk s σ H xs us Q I r h;obtain⟨p,ys,rfl,hq,q⟩:=h;obtain⟨u,rfl,rx⟩:=mZ r;cases rx;have hn:=vZ;rcases hq with hq|hq
 .obtain⟨ak,r',pl,hz⟩:=I.list hq;have hlen:=r'.length;exact Calls.call_len_list pl.isList (by simp only[Qn]<;>omega) ⟨.int ys.length,H,I.tok _,⟨s.toks+1,by rw[Qn,hlen]⟩,q⟩
 .obtain⟨ak,r',pl,hz⟩:=I.tuple hq;have hlen:=r'.length;exact len_tuple pl (by simp only[Qn]<;>omega) ⟨.int ys.length,H,I.tok _,⟨s.toks+1,by rw[Qn,hlen]⟩,q⟩
theorem Tr:kZ X (.type "list") (λxs H Q=>∃ p ys,xs=[.ref p]/\(dE X.K H p ys\/du X.K H p ys)/\∀ l,H l=none->Q (.ref l) (upd H l (.lst ys))):=by
 intro Tk s σ H xs us Q I r h;obtain⟨p,ys,rfl,hq,q⟩:=h;obtain⟨u,rfl,rx⟩:=mZ r;cases rx;have fin:∀ (ak:List Value),bK ys ak->ys.length<=sizeLine->∀ (h':Heap) (c':Nat),(∀ b o',s.heap.get? b=some o'->h'.get? b=some o')->
   h'.get? s.heap.objs.size=some { cls:=.type "list",dict:=none,data:=.seq ak.toArray c',slots:=#[] }->EP X Tk σ Q (.ref s.heap.objs.size) { s with heap:=h' }:=λak r' hz h' c' kp e=>
  ⟨.ref s.heap.objs.size,_,I.laid (t':=s.toks) kp (Qj _) (show d7 X.prog X.w _ h' _ (.lst ys)from⟨hz,ak,c',r',e⟩),rfl,q _ (I.aP.fresh (Qj _))⟩
 rcases hq with hq|hq
 .obtain⟨ak,r',pl,hz⟩:=I.list hq;have hlen:=r'.length;obtain⟨o,ho,hc,n,hd⟩:=pl.isList;exact call_list_seq p (.inl rfl) ho hc hd (λh' c' kp e=>fin ak r' hz h' c' kp e) (by simp only[Qn]<;>omega)
 .obtain⟨ak,r',pl,hz⟩:=I.tuple hq;have hlen:=r'.length;obtain⟨o,ho,hc,n,hd⟩:=pl;exact call_list_seq p (.inr rfl) ho hc hd (λh' c' kp e=>fin ak r' hz h' c' kp e) (by simp only[Qn]<;>omega)
theorem Ts:kZ X (.type "tuple") (λxs H Q=>∃ p ys,xs=[.ref p]/\((dE X.K H p ys/\∀ l,H l=none->Q (.ref l) (upd H l (.tup ys)))\/(du X.K H p ys/\Q (.ref p) H))):=by
 intro Tk s σ H xs us Q I r h;obtain⟨p,ys,rfl,h⟩:=h;obtain⟨u,rfl,rx⟩:=mZ r;cases rx;rcases h with⟨hq,q⟩|⟨hq,q⟩
 .obtain⟨ak,r',pl,hz⟩:=I.list hq;have hlen:=r'.length;refine call_tuple_list pl.isList (λh' kp=>?_) (by simp only[Qn]<;>omega);have I1:Inv X Tk σ H { s with heap:=h' }:=I.kept (t':=s.toks) kp;have I2:Inv X Tk σ (upd H h'.objs.size (.tup ys)) { s with heap:=h'.push { cls:=.type "tuple",data:=.seq ak.toArray } }:=
   I1.laid (t':=s.toks) (λb o e=>Qe _ e) (Qj _) (show d7 X.prog X.w _ _ _ (.tup ys)from⟨hz,ak,r',mR.new _ _⟩)
  exact⟨.ref h'.objs.size,_,I2,rfl,q _ (I1.aP.fresh (Qj _))⟩
 .obtain⟨ak,r',pl,hz⟩:=I.tuple hq;exact call_tuple_same pl ⟨.ref p,H,I,rfl,q⟩
def HV (K:PySem.W.Frag)(T:String)(x:V)(H:Hp):Prop:=match x with
 | .str _=>T = "str"
 | .int _=>T = "int"
 | .ref p=>(T = "list" /\ ∃ xs,dE K H p xs)\/(T = "tuple" /\ ((∃ o,K.lookup p=some o/\o.cls=.type "tuple" /\ o.dict=none)\/∃ xs,H p=some (.tup xs))) \/
   (T = "dict" /\ ((∃ aL,H p=some (.dK aL))\/∃ aL,H p=some (.dT aL)))\/(T = "set" /\ ∃ S n,H p=some (.set S n))
 | _=>False
theorem Tt{T:String}{x:V}{v:Value}(I:Inv X Tk σ H s)(r:cn x v)(ty:HV X.K T x H) :
  s.TypeIs v T/\∀ a,v=.ref a->∃ ob,s.heap.get? a=some ob/\ob.dict=none:=by
 cases x with
 | str z=>
  obtain⟨t,rfl⟩:=r;cases (show T = "str" from ty);exact⟨typeIs_str s z t,λ_ e=>nomatch e⟩
 | int i=>
  obtain⟨t,rfl⟩:=r;cases (show T = "int" from ty);exact⟨VE s i t,λ_ e=>nomatch e⟩
 | ref p=>
  cases r;rcases ty with⟨rfl,xs,hq⟩|⟨rfl,⟨o,hk,hc,hd⟩|⟨xs,hk⟩⟩|⟨rfl,hk⟩|⟨rfl,S,n,hk⟩
  .obtain⟨ak,_,pl,_⟩:=I.list hq;refine⟨pl.isList.typeIs,λa e=>?_⟩;cases e;obtain⟨o,n,e,c,hd,_⟩:=pl;exact⟨o,e,hd⟩
  .refine⟨⟨o,I.gE p o hk,hc⟩,λa e=>?_⟩;cases e;exact⟨o,I.gE _ o hk,hd⟩
  .obtain⟨_,ak,_,o,e,c,_,hd⟩:=(show d7 X.prog X.w H s.heap p (.tup xs)from I.aP p _ hk);refine⟨⟨o,e,c⟩,λa e2=>?_⟩;cases e2;exact⟨o,e,hd⟩
  .have z:∃ o,s.heap.get? p=some o/\o.ExactDict:=by
    rcases hk with⟨aL,hk⟩|⟨aL,hk⟩
    .obtain⟨_,_,_,_,o,_,_,e,ex,_⟩:=I.aP p _ hk;exact⟨o,e,ex⟩
    .obtain⟨_,_,_,_,o,_,_,e,ex,_⟩:=I.aP p _ hk;exact⟨o,e,ex⟩
   obtain⟨o,e,ex⟩:=z;refine⟨⟨o,e,ex.1⟩,λa e2=>?_⟩;cases e2;exact⟨o,e,ex.2.1⟩
  .obtain⟨o,_,_,_,e,ex,_⟩:=I.aP p _ hk;refine⟨⟨o,e,ex.1⟩,λa e2=>?_⟩;cases e2;exact⟨o,e,ex.2.1⟩
 | _=>exact False.elim ty
def Tu (K:PySem.W.Frag)(T:String)(r:V->List V->Hp->VK->Prop)(to:TE)(t:TA):TE:=λσ H Q=>to σ H λx H1=>HV K T x H1/\t σ H1 λxs H2=>r x xs H2 Q
variable {o e:Expr}{es:List Expr}{to:TE}{t:TA}{name:Str}{apos aH:Pos}{T id:String}{r:V->List V->Hp->VK->Prop}
theorem v_(pa:PlainAttrs T)(slot:Slot T name id)(qN:typeOf (.builtin id)=pure (.type "method_descriptor"))(hm:Bf X id r)(ho:PE X o to)(ha:PA X (e::es) t)
  (c_:attributeBase o name X.env (eval o X.env)=eval o X.env:=by rfl)
  (fA:((backTo aH (starEach (e::es) X.env)).all (λx=>!x.1)&&(backToKw aH (keywordEach [] X.env)).all (λx=>x.1.isSome)
    && decide ((e::es).length+([]:List Keyword).length+(if([]:List Keyword).isEmpty then 0 else 1)<30))=true:=by rfl)
  (da:(apos.endLine==aH.line)=true:=by rfl) (hs:starEach (e::es) X.env=(false,eval e X.env)::starEach es X.env:=by rfl) (cG:(backTo aH (starEach es X.env)).any (·.1)=false:=by rfl) :
  PE X (.Call (.Attribute o name apos) (e::es) [] aH) (Tu X.K T r to t):=by intro Tk s σ H Q I h;refine wpAny_Call_method_late c_ fA da rfl (bE (ho Tk s σ H _ I h) λv s1 aj=>?_);obtain⟨x,H1,I1,r1,ty,q1⟩:=aj;obtain⟨h1,h2⟩:=Tt I1 r1 ty;refine⟨T,id,pa,slot,qN,h1,h2,?_⟩;have hA:=ha aH Tk s1 σ H1 _ I1 q1;rw[hs]at hA ⊢;refine Calls.callWith_builtin (by show(false||(backTo aH (starEach es X.env)).any (·.1))=false;rw[cG]<;>rfl) (YH ?_);exact bE hA λus s2 ⟨vs,H2,I2,r2,q2⟩=>hm Tk s2 σ H2 x vs v us Q I2 r1 r2 q2
end
def Dl (X:Cx)(id:String)(r:V->List V->Hp->VK->Prop):Prop:=
 ∀ (Tk:List (Addr×Obj)) (s:Shared) (σ:St) (H:Hp) (x:V) (xs:List V) (v:Value) (us:List Value) (Q:VK),Inv X Tk σ H s->cn x v->bK xs us->r x xs H Q->
  wpAny (model X.prog X.w) X.A (call (.builtin id) (v::us)) (EP X Tk σ Q) X.xe s
theorem bK.one:∀ {x:V} {us:List Value},bK [x] us->∃ u,us=[u]/\cn x u
 | _,_,.cons r .nil=>⟨_,rfl,r⟩
theorem bK.eraseIdx:∀ {xs:List V} {us:List Value} (i:Nat),bK xs us->bK (xs.eraseIdx i) (us.eraseIdx i)
 | _,_,_,.nil=>.nil
 | _,_,0,.cons _ t=>t
 | _,_,i+1,.cons r t=>.cons r (bK.eraseIdx i t)
theorem bK.rep(h:bK xs us):∀ k:Nat,bK (replicate k xs).flatten (replicate k us).flatten
 | 0=>.nil
 | k+1=>by rw[ZX,ZX,Jm,Jm];exact bK.append h (bK.rep h k)
theorem HW{α:Type}:∀ (l:List α) (i:Nat),(l.eraseIdx i).length<=l.length
 | [],_=>Qj _
 | _::_,0=>JP _
 | _::r,i+1=>Vu (HW r i)
theorem Dm(ak:List Value):∀ (k:Nat) (acc:List Value),
  List.foldl (λx1 x2=>x1++x2) acc.toArray (replicate k ak.toArray)=(acc++(replicate k ak).flatten).toArray
 | 0,acc=>by simp
 | k+1,acc=>by
  have e:acc.toArray++ak.toArray=(acc++ak).toArray:=by simp
  have e2:(acc++ak)++(replicate k ak).flatten=acc++(replicate (k+1) ak).flatten:=by rw[ZX,Jm,ZB]
  rw[<- e2,<- Dm ak k (acc++ak),<- e,ZX,List.foldl_cons]
section
variable {X:Cx}{Tk:List (Addr×Obj)}{σ:St}{H:Hp}{s:Shared}{l b:Addr}{xs ys zs:List V}
theorem Inv.uu{ak its':List Value}{n:Nat}{f:Array Value->Array Value}{t':Nat}(I:Inv X Tk σ H s)(hH:H l=some (.lst xs))
  (e:s.heap.get? l=some { cls:=.type "list",data:=.seq ak.toArray n }) (hf:f ak.toArray=its'.toArray) (hv:bK ys its') (hz:ys.length<=sizeLine) :
  Inv X Tk σ (upd H l (.lst ys)) { s with heap:=s.heap.update l (Obj.mapSeq f),toks:=t' }:=by have q:=PySem.IsL.update e f;rw[hf]at q;refine I.write (x:=l) (e:=l) (by rw[hH];exact trivial) (.inl rfl) (λb' u hb hu=>(Jz s.heap (Obj.mapSeq f) (Zn hb)).trans hu) ⟨_,q⟩ ?_;exact⟨hz,its',_,hv,q⟩
theorem Inv.xY{ak:List Value}{t':Nat}(I:Inv X Tk σ H s)(hv:bK ys ak)(hz:ys.length<=sizeLine) :
  Inv X Tk σ (upd H s.heap.objs.size (.lst ys)) { s with heap:=s.heap.push { cls:=.type "list",data:=.seq ak.toArray },toks:=t' }:=
 I.laid (λ_ _ q=>Qe _ q) (Qj _) ⟨hz,ak,0,hv,Qv _ rfl⟩
theorem Inv.fresh(I:Inv X Tk σ H s):H s.heap.objs.size=none:=I.aP.fresh (Qj _)
theorem Inv.oJ(I:Inv X Tk σ H s)(hH:H l=some (.lst xs)):xs.length<=sizeLine/\∃ (ak:List Value) (n:Nat),bK xs ak/\xs.length=ak.length/\s.heap.get? l=some { cls:=.type "list",data:=.seq ak.toArray n }:=by obtain⟨z,ak,n,r,e⟩:=I.aP l _ hH;exact⟨z,ak,n,r,r.length,e⟩
theorem HX(h:n<=sizeLine):Builtin.List.listTooLong n=false:=by unfold Builtin.List.listTooLong;exact QF (by omega)
end
section
variable {X:Cx}
def Tv:V->List V->Hp->VK->Prop:=λx vs H Q=>∃ l xs y,x=.ref l/\vs=[y]/\H l=some (.lst xs)/\xs.length<sizeLine/\Q .bc (upd H l (.lst (xs++[y])))
theorem Tw:Dl X "list.append" Tv:=by intro Tk s σ H x vs v us Q I rx rv h;obtain⟨l,xs,y,rfl,rfl,hH,hz,q⟩:=h;cases rx;obtain⟨u,rfl,ru⟩:=rv.one;obtain⟨z,ak,n,r,hl,e⟩:=I.oJ hH;refine Jq F.slot_list_append ⟨_,e,rfl⟩ F.entry_list_append (F.args_list_append_2 _ _) (PySem.list_append l ak.toArray n u (by rw[Qn];omega)) ⟨e,?_⟩;refine⟨.bc,_,I.uu (its':=ak++[u]) hH e (by simp) (r.append (.cons ru .nil)) ?_,rfl,q⟩;rw[Qk,Yv];omega
def Tx:V->List V->Hp->VK->Prop:=λx vs H Q=>∃ l b xs zs,x=.ref l/\vs=[.ref b]/\H l=some (.lst xs)/\H b=some (.lst zs)/\xs.length+zs.length<=sizeLine/\Q .bc (upd H l (.lst (xs++zs)))
theorem Tz:Dl X "list.extend" Tx:=by
 intro Tk s σ H x vs v us Q I rx rv h;obtain⟨l,b,xs,zs,rfl,rfl,hH,hB,hz,q⟩:=h;cases rx;obtain⟨u,rfl,ru⟩:=rv.one;cases ru;obtain⟨z,ak,n,r,hl,e⟩:=I.oJ hH;obtain⟨z2,i6,n2,r2,hl2,e2⟩:=I.oJ hB;have hsz:ak.toArray.size+i6.toArray.size<=sizeLine:=by rw[Qn,Qn];omega
 have oK:¬ (!ak.toArray.isEmpty&&Builtin.List.listTooLong (ak.toArray.size+i6.toArray.size))=true:=by rw[HX hsz,Jd];exact Zd
 refine Jq F.slot_list_extend ⟨_,e,rfl⟩ F.entry_list_extend (F.args_list_extend_2 _ _)
  (AutoSeq1.list_extend_list_list_0 l ak.toArray n b i6.toArray n2 oK (by rw[Qn];omega) (by omega)) ⟨e,e2,?_⟩
 refine⟨.bc,_,I.uu (its':=ak++i6) hH e (by simp) (r.append r2) ?_,rfl,q⟩;rw[Qk];omega
def TC:V->List V->Hp->VK->Prop:=λx vs H Q=>∃ l xs i k y,x=.ref l/\vs=[.int i]/\H l=some (.lst xs) /\ -(2 ^ 63)<=i/\i<2 ^ 63/\seqIndex? i xs.length=some k/\xs[k]? = some y/\Q y (upd H l (.lst (xs.eraseIdx k)))
theorem TF:Dl X "list.pop" TC:=by
 intro Tk s σ H x vs v us Q I rx rv h;obtain⟨l,xs,i,k,y,rfl,rfl,hH,h1,h2,hk,hy,q⟩:=h;cases rx;obtain⟨u,rfl,ru⟩:=rv.one;obtain⟨t,rfl⟩:=ru;obtain⟨z,ak,n,r,hl,e⟩:=I.oJ hH;obtain⟨w,hw,qH⟩:=r.get hy;refine Jq F.slot_list_pop ⟨_,e,rfl⟩ F.entry_list_pop (F.args_list_pop_2 _ _)
  (MeetsSeq.list_pop_at l ak.toArray n i t k w (fitsIndex_both h1 h2) (by rw[Qn,<- hl];exact hk) (by rw[<- Zs];exact hw) (by rw[Qn];omega)) ⟨e,?_⟩
 refine⟨y,_,I.uu (its':=ak.eraseIdx k) hH e ?_ (r.eraseIdx k) ?_,qH,q⟩
 .show ak.toArray.eraseIdxIfInBounds k=(ak.eraseIdx k).toArray;rw[List.eraseIdxIfInBounds_toArray]
 .have:=HW xs k;omega
def TH:R2:=λx y H Q=>∃ l k xs,x=.ref l/\y=.int k/\H l=some (.lst xs) /\ -(2 ^ 63)<=k/\k<2 ^ 63/\xs.length*k.toNat<=sizeLine /\
 ∀ p,H p=none->Q (.ref p) (upd H p (.lst (replicate k.toNat xs).flatten))
theorem Dp{α:Type}(xs:List α)(k:Nat):(replicate k xs).flatten.length=k*xs.length:=by
 induction k with
 | zero=>simp
 | succ k ih=>rw[ZX,Jm,Qk,ih,YY,Nat.add_comm]
theorem TJ:dy X (binaryOp .Mult) TH:=by
 intro Tk s σ H x y v u Q I rx ry h;obtain⟨l,k,xs,rfl,rfl,hH,h1,h2,hz,q⟩:=h;cases rx;obtain⟨t,rfl⟩:=ry;obtain⟨z,ak,n,r,hl,e⟩:=I.oJ hH;have hlen:ak.toArray.size*k.toNat<=sizeLine:=by rw[Qn,<- hl];exact hz
 have Dq:¬ ak.toArray.size*k.toNat > (2 ^ 63-1) / 8:=by
  have:(sizeLine:Nat)<=(2 ^ 63-1) / 8:=by decide
  omega
 have Dr:¬ (!Builtin.List.listFitsIndex k)=true:=by rw[fitsIndex_both h1 h2];exact Zd
 have oK:¬ Builtin.List.listTooLong (ak.toArray.size*k.toNat)=true:=by rw[HX hlen];exact Zd
 have Ds:List.foldl (λx1 x2=>x1++x2) #[] (replicate (if ak.toArray.isEmpty=true then 0 else k.toNat) ak.toArray)=(replicate k.toNat ak).flatten.toArray:=by
  have f0:∀ m:Nat,List.foldl (λx1 x2=>x1++x2) #[] (replicate m ak.toArray)=(replicate m ak).flatten.toArray:=λm=>by have:=Dm ak m [];rw[List.nil_append]at this;exact this
  rw[f0];cases ak with
  | nil=>simp
  | cons a r'=>rw[Ql (by simp)]
 refine Vd (T:="list") (U:="int") (by decide) ⟨_,e,rfl⟩ (λs'=>VE s' k t) noFill_list_mul F.fills_int_mul YN repeat_list F.slot_int_index.lookup
  (Jq YN (VE s k t) F.entry_int_rmul (F.args_int_rmul_2 _ _) (int___rmul___int_list k t l ak.toArray n)
    ⟨e,rfl,⟨_,e,rfl⟩,Jq F.slot_list_mul ⟨_,e,rfl⟩ F.entry_list_mul (F.args_list_mul_2 _ _) (AutoListH.list___mul___list_int_3 l ak.toArray n k t Dr Dq oK) ⟨e,?_⟩⟩)
 rw[Ds];exact⟨.ref _,_,I.xY (t':=s.toks) (r.rep k.toNat) (by rw[Dp,VF];exact hz),rfl,q _ I.fresh⟩
end
end L2
namespace HY
open PySem PySem.W PySem.Calls PyProof.Rows
variable {P:Params}{h:Heap}{l:OpenLaw}{n:Nat}
theorem TK:∀ (ns:List Int) (vs:List Value),WellAll P h vs (ns.map WData.int)->IntsAre vs ns:=by
 intro ns;induction ns with
 | nil=>
  intro vs w;rw[Yk]at w;cases w;exact .nil
 | cons n ns ih=>
  intro vs w;rw[QM]at w;cases w with
  | cons a b=>
   cases a;exact .cons _ _ (ih _ b)
theorem TL(hn:l.most=some n){args:List WData}{vals:List Value}
  (qO:l.row.toRowW.claim.pre args=true) (xZ:WellAll P h vals args) :
  ∃ a vs ns,vals=[Value.ref a]/\args=[WData.list (ns.map WData.int)]/\h.get? a=some { cls:=.type "list",data:=.seq vs.toArray }/\IntsAre vs ns/\ns.length<=n:=by
 have nQ:WShape.hasAll [] args [.list .int]=true:=(pre_splitW qO).1;have hc:l.pre.holds [] { args:=args }=true:=(pre_splitW qO).2;obtain⟨d,r,rfl,h1,h2⟩:=hasAllW_cons nQ;obtain rfl:=hasAllW_nil h2;obtain⟨xs,rfl,h3⟩:=hasW_list h1;obtain⟨ns,rfl⟩:=items_int h3;have hlen:ns.length<=n:=by
  unfold OpenLaw.pre at hc;have h4:(WTm.not (.lt (.lit (.int (n:Int))) (.len (.arg 0)))).holds [] { args:=[.list (ns.map .int)] }=true:=by have h4:=(holds_andW hc).1;rw[hn]at h4;exact h4
  have h5:=condW_of h4 (w_not (w_lt w_lit (w_len_list (w_arg rfl))));rw[Qb]at h5;refine Nat.le_of_not_lt λq=>?_;have q':(n:Int)<((ns.length:Nat):Int):=by omega
  first
   | (rw[Qr q']at h5;exact absurd h5 (by decide))
   | (simp at h5;omega)
 cases xZ with
 | cons w1 w2=>
  cases w2;cases w1 with
  | list ho d9=>exact⟨_,_,ns,rfl,rfl,ho,TK ns _ d9,hlen⟩
theorem TM(l:OpenLaw)(args:List WData):l.row.toRowW.claim.post args (.bool true) args=true:=
 postW_of (r:=l.row.toRowW) (X:=(true==true))
  (show WShape.has [] (.bool true) .bool=true by first|rfl|decide|simp[WShape.has,WShape.arms,WShape.armsAll])
  (show(WTm.eq .res (.lit (.bool true))).value [] { args:=args,res:=some (.bool true),after:=args }=some (.bool (true==true))from w_eq_bool (w_res rfl) w_lit) rfl
theorem TN{q:Program}{loose:List Str}{XP:(Str->Option Value)->Heap->Prop}{YP:World->Heap->Prop}{d:DefRec}
  (hn:l.most=some n) (x_:d.params.defaults=[])
  (call:∀ (w:World) (aD br:Shared) (mg mb:Str->Option Value) (fa:Addr) (o:Obj) (pm cd doc:Value) (a:Addr) (vs:List Value) (ns:List Int),
    Ground q loose [] XP w aD mg mb br.heap->YP w br.heap->
    br.heap.get? fa=some o->o.data=.func (docDef d.name d.params d.body d.scope pm cd doc)->br.heap.CodeRec cd d.name->mg d.name=some (.ref fa)->
    br.heap.get? a=some { cls:=.type "list",data:=.seq vs.toArray }->IntsAre vs ns->ns.length<=n->br.gens = #[]->
    codeAny (model l.prog w) callerA (.call (.ref fa) ⟨[.ref a],[]⟩) (λr s'=>r=.ok (.ret (.bool true))/\OldK br.heap s'.heap/\s'.os=br.os/\AllBare s'.gens) br) :
  WalkO q loose XP YP l.row.toRowW d [] (λf vs=>PySem.call f vs):=by intro w aD br mg mb G Y fa o pm cd doc dV kV ho hd i4 hD hmg hg args vals as qO TQ hrd xZ hlo;obtain rfl:dV=.none:=Dflts.none hD x_;obtain rfl:kV=.none:=Dflts.noKw hD;obtain⟨a,vs,ns,rfl,rfl,uv,hints,hlen⟩:=TL hn qO xZ;refine enter_call (JQ (call w aD br mg mb fa o pm cd doc a vs ns G Y ho (fd_plain hd) i4 hmg uv hints hlen hg) λr s' hq=>?_);obtain⟨rfl,h2,h3,h4⟩:=hq;exact⟨.inl ⟨.bool true,.bool true,[],rfl,λ_=>rfl,.bool true,TM l _,λ_=>⟨List.Pairwise.nil,λ_ hm=>(nomatch hm)⟩⟩,h2,h3,h4⟩
end HY
namespace L2
open PySem PySem.Spec PyProof.Rows
theorem Bg:∀ {vs:List Value} {ns:List Int},IntsAre vs ns->bK (ns.map V.int) vs
 | _,_,.nil=>.nil
 | _,_,.cons n t h=>.cons ⟨t,rfl⟩ (Bg h)
def Dt (H:Hp):Prop:=∀ b,H b=none\/∃ o xs,H b=some (.gQ o (.lst xs))
theorem TR{P:Program}{w:World}{K:PySem.W.Frag}{mg mb:Str->Option Value}{CX:oH}{k:Nat}{fa a:Addr}{fd:FuncData}{x:Str}{sp:Sp}{br:Shared}{vs:List Value}{ns:List Int}
  (KX:K.In br.heap) (jS:br.heap.Ns mainGlobals mg) (hb:br.heap.Ns builtinsNs mb) (Bh:∀ x:Str,x ≠ "__name__"->mb x=bootBuiltins x) (Du:br.heap.NoLimit) (hg:br.gens = #[])
  (ha:br.heap.get? a=some { cls:=.type "list",data:=.seq vs.toArray }) (hi:IntsAre vs ns) (hl:ns.length<=sizeLine) (hr:bC k callerA)
  (F:∀ base:Heap,K.In base->base.Ns mainGlobals mg->fz P w K mg base CX k fa fd [x] sp) (ya:∀ (s:Shared) (u:Value),BindsTo s fd ⟨[u],[]⟩ [(x,u)])
  (k8:∀ H:Hp,Dt H->dE K H a (ns.map V.int)->sp [.ref a] H (λv _=>v=.bl true) λ_ _ _=>False)
  (TU:∀ H e s',CX [] H br (λ_ _ _=>False) e s'->False) :
  codeAny (model P w) callerA (.call (.ref fa) ⟨[.ref a],[]⟩) (λr s'=>r=.ok (.ret (.bool true))/\OldK br.heap s'.heap/\s'.os=br.os/\AllBare s'.gens) br:=by
 have rv:=Bg hi;have Dv:=hi.length;have core:∀ H:Hp,Dt H->dE K H a (ns.map V.int)->d8 P w H br.heap->(∀ b,H b≠none->b=a)->(H a≠none->K.lookup a=none)->
   codeAny (model P w) callerA (.call (.ref fa) ⟨[.ref a],[]⟩) (λr s'=>r=.ok (.ret (.bool true))/\OldK br.heap s'.heap/\s'.os=br.os/\AllBare s'.gens) br:=by
  intro H hO hS aP hA hK;have l8:∀ {b:Addr} {o:Obj},br.heap.get? b=some o->H b=none->(qD br.heap H).get? b=some o:=λe n=>P_ e n;have xT:∀ {b:Addr} {o:Obj} {es:Array DictEntry} {ep:Nat},br.heap.get? b=some o->o.data=.dict es ep->H b=none:=λ{b o es ep} e d=>by
   cases q:H b with
   | none=>rfl
   | some u=>
    have e':b=a:=hA b (by rw[q];simp);subst e';rw[ha]at e;cases e;have d':Data.seq vs.toArray _=Data.dict es ep:=d;cases d'
  have Bi:∀ {b:Addr} {m:Str->Option Value},br.heap.Ns b m->(qD br.heap H).Ns b m:=λ{b m} ⟨o,es,ep,e,d,r⟩=>⟨o,es,ep,l8 e (xT e d),d,r⟩;have HZ:K.In (qD br.heap H):=λb o e=>l8 (KX b o e) (by
   cases q:H b with
   | none=>rfl
   | some u=>
    have e':b=a:=hA b (by rw[q];simp);subst e';rw[hK (by rw[q];simp)]at e;cases e)
  have hM:Mod K mg (qD br.heap H):=⟨HZ,Bi jS,⟨mb,Bi hb,Bh⟩,let ⟨mc,h1,h2⟩:=Du;⟨mc,Bi h1,h2⟩⟩;have e0:qJ P w K mg (qD br.heap H) callerA [] br H:=⟨rfl,hM,λb o e=>Q_ e,Nat.le_of_eq (P9 _ _),trivial,λb hb=>absurd (show b∈([]:List Addr)from hb) (by simp),aP,.of_eq hg⟩;refine JQ ((F _ HZ (Bi jS)).run callerA [] br H ⟨[.ref a],[]⟩ [.ref a] [.ref a] _ _ hr e0 (ya br (.ref a)) (.cons rfl .nil) (k8 H hO hS)) λr s' h=>?_;cases r with
  | error e=>exact(TU H e s' h).elim
  | ok fl=>
   cases fl with
   | next=>exact False.elim h
   | brk=>exact False.elim h
   | cont=>exact False.elim h
   | ret u=>
    obtain⟨v,H',os,bare,un,Dw,r',q⟩:=h;have q':v=.bl true:=q;subst q';obtain rfl:u=Value.bool true:=r';refine⟨rfl,OldK.of_keep λb o e=>?_,os,bare⟩;cases q:H b with
    | none=>exact un.keep b o e q (by intro z;exact absurd (show b∈([]:List Addr)from z) (by simp)) (by simp)
    | some u=>
     rcases hO b with z|⟨ob,xs,z⟩
     .rw[q]at z;cases z
     .have z2:=un.eT b ob _ z;obtain⟨e1,_⟩:=aP b _ z;obtain⟨e2,_⟩:=Dw b _ z2;rw[e]at e1;cases e1;exact e2
 cases hk:K.lookup a with
 | some o=>
  have e:=KX a o hk;rw[ha]at e;cases e;refine core (λ_=>none) (λ_=>.inl rfl) (.inr ⟨_,vs.toArray,_,hk,rfl,rfl,rfl,by rw[Qn,Dv];exact hl,by simpa using rv⟩) (λb u z=>by have z':(none:Option HO)=some u:=z;cases z') (λb z=>absurd rfl z) λz=>absurd rfl z
 | none=>
  refine core (λb=>if b=a then some (.gQ { cls:=.type "list",data:=.seq vs.toArray } (.lst (ns.map V.int)))else none) (λb=>?_) (.inl (.inr ⟨{ cls:=.type "list",data:=.seq vs.toArray },Qh rfl⟩)) (λb u z=>?_) (λb z=>?_) λ_=>hk
  .by_cases hb:b=a
   .exact .inr ⟨_,_,Qh hb⟩
   .exact .inl (Ql hb)
  .by_cases hb:b=a
   .have z':=(Qh hb).symm.trans z;cases z';subst hb;exact⟨ha,by rw[Qb];exact hl,vs,_,rv,ha⟩
   .have z':=(Ql hb).symm.trans z;cases z'
  .by_cases hb:b=a
   .exact hb
   .exact absurd (Ql hb) z
variable {A:Around}{C a c f:Addr}{H H':Hp}{N' ps:List Str}{P:Program}{X:Cx}{cells:List (Str×Addr)}{elt iter:Expr}{env:Env}{fd:FuncData}{h h':Heap}{i lo n:Nat}{ifs:List Expr}{aL:List (Key×V)}{o:HO}{Tk:List (Addr×Obj)}{pos:Pos}{qual x y:Str}{s:Shared}{scope:Scope}{st:Stmt}{sv:List (TE×TE)}{u:Value}{w:World}{σ:St}
def sy (s:Stmt):Arguments:=match s with
 | .FunctionDef _ a _ _ _ _ _ _ _ _=>a
 | _=>{ posonlyargs:=[],args:=[],vararg:=none,kwonlyargs:=[],kw_defaults:=[],kwarg:=none,defaults:=[] }
def kI (s:Stmt):List Stmt:=match s with
 | .FunctionDef _ _ b _ _ _ _ _ _ _=>b
 | _=>[]
def bw (s:Stmt):Scope:=match s with
 | .FunctionDef _ _ _ _ _ _ sc _ _ _=>sc
 | _=>{ kind:=.function,names:=[],isGenerator:=false,isCoroutine:=false }
abbrev kJ:oH:=λ_ _ _ _ _ _=>False
abbrev E0:XK:=λ_ _ _=>False
theorem TV:Ba kJ X E0:=λ_ _ _ _ _ _ _ h=>h.elim
structure oM (K:PySem.W.Frag) (x qual:Str) (st:Stmt) (f:Addr) (fd:FuncData):Prop where
 ex:∃ (oc:Value) (od:Option Addr) (kV doc pm:Value) (an:Option Addr) (cB ct:Value) (pV:Array (Option Value)),
  fd=W.fnOf x qual (sy st) (kI st) (bw st) .none kV doc pm an cB ct/\K.lookup f=some ⟨oc,od,.func fd,pV⟩/\W.codeIn K cB qual=true
 kp:W.keepIn K (.ref f)=true
section
variable {P:Program}{w:World}{K:PySem.W.Frag}{mg:Str->Option Value}{base:Heap}
theorem oM.ok{N:List Str}{k:Nat}{sp:Sp}(F:oM K x qual st f fd)(S:ae N ps (bw st))(len:∀ vs H Q E,sp vs H Q E->vs.length=ps.length)
  (oI:∀ (cB:Value) (A:Around) (outer:List Env) (s:Shared) (H:Hp) (vs:List V) (Q:VK) (E:XK),bC k (A.deeper (envOfC qual (bw st) s.heap.objs.size f cB))->sp vs H Q E->
    ∃ t,i3 (nP kJ P w K mg base N qual (bw st) f cB A outer s H E).j4 (kI st) t/\t { nx:=λ_ H'=>Q .bc H',rt:=Q } (start N vs) H):fz P w K mg base kJ (k+1) f fd ps sp:=by obtain⟨oc,od,kV,doc,pm,an,cB,ct,pV,rfl,lk,i4⟩:=F.ex;refine HL lk i4 S len λA outer s H vs Q E hr k8=>?_;obtain⟨t,h,q⟩:=oI cB A outer s H vs Q E hr k8;exact⟨t,h.j4,q⟩
theorem oM.binds(F:oM K x qual st f fd)
  (h:∀ (kV doc pm:Value) (an:Option Addr) (cB ct:Value) (us:List Value),us.length=ps.length->bindArgs (W.fnOf x qual (sy st) (kI st) (bw st) .none kV doc pm an cB ct) ⟨us,[]⟩=pure (ps.zip us)):qK K fd ps []:=by obtain⟨oc,od,kV,doc,pm,an,cB,ct,pV,rfl,lk,i4⟩:=F.ex;exact .all (h kV doc pm an cB ct)
theorem H0{oc:Value}{od an:Option Addr}{pV:Array (Option Value)}{kV doc pm cB ct:Value}(l:K.lookup f=some ⟨oc,od,.func (W.fnOf x qual (sy st) (kI st) (bw st) .none kV doc pm an cB ct),pV⟩)
  (c:W.codeIn K cB qual=true) (k:W.keepIn K (.ref f)=true):oM K x qual st f (W.fnOf x qual (sy st) (kI st) (bw st) .none kV doc pm an cB ct):=⟨⟨oc,od,kV,doc,pm,an,cB,ct,pV,rfl,l,c⟩,k⟩
end
theorem TX{k:Nat}(hr:bC k A):A.units+1<cLine:=Yc (Nat.add_le_add_left (by decide:1<=64) _) hr.units
theorem wa(h:n<=1000):n<sizeLine:=Yc h (by decide)
section
variable {X:Cx}
theorem pv(i:Nat){pos:Pos}(hN:X.N[i]? = some x:=by rfl)(hv:vV X.env.scope x:=by first|exact Or.inl rfl|exact Or.inr (Or.inl rfl)|exact Or.inr (Or.inr rfl))(hd:(x==("__debug__":Str))=false:=by decide)
  (i4:(x==("__classdict__":Str))=false:=by decide):PE X (.Name x pos) (lX i):=Rc hN hv hd i4
end
section
variable {κ:Type}[DecidableEq κ]
def l9 (aL:List (κ×V))(k:κ):Option V:=(aL.find? λkv=>decide (kv.1=k)).map (·.2)
def qP (aL:List (κ×V))(k:κ)(v:V):List (κ×V):=
 if(aL.any λkv=>decide (kv.1=k))=true then aL.map (λkv=>if kv.1=k then(kv.1,v)else kv)else aL++[(k,v)]
theorem Dx{p:κ×V}{r:List (κ×V)}{k:κ}(e:p.1=k):l9 (p::r) k=some p.2:=by simp[l9,JG,e]
theorem Dy{p:κ×V}{r:List (κ×V)}{k:κ}(e:¬ p.1=k):l9 (p::r) k=l9 r k:=by simp[l9,JG,e]
theorem TY(aL:List (κ×V))(k:κ)(v:V):(qP aL k v).length<=aL.length+1:=by
 unfold qP;split
 .rw[Qb];omega
 .rw[Qk,QB,Jk];omega
theorem t8.getD{o:Option V}{u:Option Value}{d:V}{d':Value}(r:t8 o u)(rd:cn d d'):cn (o.getD d) (u.getD d'):=by
 cases o with
 | none=>cases u with
  | none=>exact rd
  | some _=>exact(show False from r).elim
 | some _=>cases u with
  | none=>exact(show False from r).elim
  | some _=>exact r
theorem KV.val{aL:List (κ×V)}{vs:List (κ×Value)}(r:KV aL vs)(k:κ):t8 (l9 aL k) (valueAt vs k):=by
 unfold KV at r;induction r with
 | nil=>exact True.intro
 | @cons p q ps qs h t ih=>
  obtain⟨h1,h2⟩:=h;by_cases e:p.1=k
  .have e':q.1=k:=h1.symm.trans e;have b:valueAt (q::qs) k=some q.2:=by simp[valueAt,JG,e']
   rw[Dx e,b];exact h2
  .have e':¬ q.1=k:=λz=>e (h1.trans z);have b:valueAt (q::qs) k=valueAt qs k:=by simp[valueAt,JG,e']
   rw[Dy e,b];exact ih
theorem KV.any{aL:List (κ×V)}{vs:List (κ×Value)}(r:KV aL vs)(k:κ):(aL.any λkv=>decide (kv.1=k))=vs.any λkv=>decide (kv.1=k):=by
 unfold KV at r;induction r with
 | nil=>rfl
 | cons h t ih=>rw[Ue,Ue,ih,h.1]
theorem KV.Dz{aL:List (κ×V)}{vs:List (κ×Value)}(r:KV aL vs)(k:κ){y:V}(ry:cn y u) :
  KV (aL.map λkv=>if kv.1=k then(kv.1,y)else kv) (vs.map λkv=>if kv.1=k then(kv.1,u)else kv):=by
 unfold KV at r ⊢;induction r with
 | nil=>exact .nil
 | @cons p q ps qs h t ih=>
  rw[QM,QM];refine .cons ?_ ih;obtain⟨h1,h2⟩:=h;by_cases e:p.1=k
  .rw[Qh e,Qh (h1.symm.trans e)];exact⟨h1,ry⟩
  .rw[Ql e,Ql (λz=>e (h1.trans z))];exact⟨h1,h2⟩
theorem KV.put{aL:List (κ×V)}{vs:List (κ×Value)}(r:KV aL vs)(k:κ){y:V}(ry:cn y u):KV (qP aL k y) (stored vs k u):=by
 unfold qP stored;rw[r.any k];by_cases e:(vs.any λkv=>decide (kv.1=k))=true
 .rw[Qh e,Qh e];exact r.Dz k ry
 .rw[Ql e,Ql e];exact Paired.snoc r ⟨rfl,ry⟩
end
theorem DA{k:Key}(r:cn (kV k) u):(jZ P w).is k u=true:=by
 cases k with
 | inl i=>obtain⟨t,e⟩:=(show ∃ t,u=Value.int i t from r);subst e;exact P5 P w i t
 | inr x=>obtain⟨t,e⟩:=(show ∃ t,u=Value.str x t from r);subst e;exact P6 P w x t
theorem H9:∀ {ks:List Key} {us:List Value},bK (ks.map kV) us->ItemsAre (jZ P w) ks us
 | [],_,r=>by rw[Yk]at r;cases r;exact .nil
 | k::ks,_,r=>by
  rw[QM]at r;cases r with
  | cons h t=>exact .cons (DA h) (H9 t)
abbrev KT (H:Hp):List (List Key×V)->List (List Key×Addr×Value)->Prop:=Paired λp q=>p.1=q.1/\H q.2.1=some (.tup (p.1.map kV))/\cn p.2 q.2.2
theorem KT.val{aL:List (List Key×V)}{xs:List (List Key×Addr×Value)}(r:KT H aL xs)(k:List Key):t8 (l9 aL k) ((atKey xs k).map (·.2)):=by
 induction r with
 | nil=>exact True.intro
 | @cons p q ps qs h t ih=>
  obtain⟨h1,_,h2⟩:=h;by_cases e:p.1=k
  .have e':q.1=k:=h1.symm.trans e;have b:atKey (q::qs) k=some q.2:=by simp[atKey,JG,e']
   rw[Dx e,b];exact h2
  .have e':¬ q.1=k:=λz=>e (h1.trans z);have b:atKey (q::qs) k=atKey qs k:=by simp[atKey,JG,e']
   rw[Dy e,b];exact ih
section
variable {P:Program}{w:World}{H:Hp}{h:Heap}{a:Addr}
theorem H_{u:HO}(ok:d8 P w H h)(e:Rd H a u):d7 P w H h a u:=e.ok ok
theorem DB(ok:d8 P w H h)(e:Rd H a (.dK aL)):aL.length<=sizeLine/\(a==sysModules)=false/\∃ vs,KV aL vs/\h.DictOf (jZ P w) a vs:=
 show d7 P w H h a (.dK aL)from H_ ok e
theorem TZ(ok:d8 P w H h)(e:H a=some (.dK aL)):aL.length<=sizeLine/\(a==sysModules)=false/\∃ vs,KV aL vs/\h.DictOf (jZ P w) a vs:=DB ok (.inl e)
theorem Ie{ks:List Key}(ok:d8 P w H h)(e:H a=some (.tup (ks.map kV))):(tupleKind (jZ P w)).is h ks a:=by obtain⟨_,ak,r,o,h1,h2,⟨n,h3⟩,_⟩:=(show d7 P w H h a (.tup (ks.map kV))from ok a _ e);exact⟨o,ak.toArray,n,h1,h2,h3,by simpa using H9 r⟩
theorem Ig{aL:List (List Key×V)}(ok:d8 P w H h)(e:Rd H a (.dT aL)):aL.length<=sizeLine/\(a==sysModules)=false /\
  ∃ xs,KT H aL xs/\h.DictOfH (tupleKind (jZ P w)) a xs:=by
 obtain⟨z,y,xs,r,o,es,ep,h1,h2,h3,h4,h5⟩:=(show d7 P w H h a (.dT aL)from H_ ok e);refine⟨z,y,xs,r,o,es,ep,h1,h2,h3,h4,λx hx=>?_,h5⟩;have all:∀ {l:List (List Key×V)} {m:List (List Key×Addr×Value)},KT H l m->∀ x∈m,(tupleKind (jZ P w)).is h x.1 x.2.1:=by
  intro l m q;induction q with
  | nil=>intro x hx;exact nomatch hx
  | @cons p q ps qs hq t ih=>
   intro x hx;rcases Qm.mp hx with e|hx
   .subst e;exact Ie ok (by rw[<- hq.1];exact hq.2.1)
   .exact ih x hx
 exact all r x hx
end
def yb (H:Hp)(a:Addr)(y:V)(r:Option V):Prop:=
 (∃ aL k,Rd H a (.dK aL)/\y=kV k/\r=l9 aL k)\/∃ aL k b,Rd H a (.dT aL)/\y=.ref b/\H b=some (.tup (k.map kV))/\r=l9 aL k
theorem yb.k{k:Key}(e:H a=some (.dK aL)):yb H a (kV k) (l9 aL k):=.inl ⟨aL,k,.inl e,rfl,rfl⟩
section
variable {X:Cx}{Tk:List (Addr×Obj)}{σ:St}{H:Hp}{s:Shared}{a:Addr}{y v:V}{u r:Value}{o:Option V}{A:Around}{E:Tl}
theorem Inv.T3(I:Inv X Tk σ H s):sysModules<s.heap.objs.size:=by have h:mainGlobals<s.heap.objs.size:=(I.mod.glob.keeps I.bk).lt;exact JR (by decide) h
theorem T4{t':Nat}{ob:HO}(I:Inv X Tk σ H s)(mu:xG (H a))(hs:Heap.SameBut a s.heap h')(he:∃ q,h'.get? a=some q)(new:d7 X.prog X.w (upd H a ob) h' a ob) :
  Inv X Tk σ (upd H a ob) { s with heap:=h',toks:=t' }:=
 I.write (x:=a) (e:=a) mu (.inl rfl) (λb q hb z=>(hs.2 b hb).trans z) he new
theorem T5{vs:List (Key×Value)}(z:aL.length<=sizeLine)(hd:(a==sysModules)=false)(rel:KV aL vs)(dd:h'.DictOf (jZ P w) a vs) :
  d7 P w H' h' a (.dK aL):=⟨z,hd,vs,rel,dd⟩
end
theorem T6(h:Heap)(hb:sysModules<h.objs.size):d7 P w H (h.push { cls:=.type "dict",data:=.dict #[] }) h.objs.size (.dK []):=
 ⟨Q1 _,ZW.mpr (Zn (QS hb)),[],.nil,Heap.DictOf.new h⟩
def DC:List (TE×TE)->St->Hp->(List (V×V)->Hp->Prop)->Prop
 | [],_,H,Q=>Q [] H
 | (tk,tv)::r,σ,H,Q=>tk σ H λx H1=>tv σ H1 λy H2=>DC r σ H2 λps H3=>Q ((x,y)::ps) H3
abbrev VV:List (V×V)->List (Value×Value)->Prop:=Paired λp q=>cn p.1 q.1/\cn p.2 q.2
def Bj (X:Cx)(pos:Pos)(keys:List (Option Expr))(values:List Expr)(sv:List (TE×TE)):Prop:=
 ∀ (Tk:List (Addr×Obj)) (s:Shared) (σ:St) (H:Hp) (Q:List (V×V)->Hp->Prop),Inv X Tk σ H s->DC sv σ H Q->
  wpAny (model X.prog X.w) X.A (evalPairs (pairTrees keys values X.env pos)) (λvs s'=>∃ ps H',Inv X Tk σ H' s'/\VV ps vs/\Q ps H') X.xe s
theorem T7:Bj X pos [] [] []:=λTk s σ H Q I h=>pairTrees_nil_walk ⟨[],H,I,.nil,h⟩
theorem Ih{k v:Expr}{ks:List (Option Expr)}{vs:List Expr}{tk tv:TE}(hk:PE X k tk)(hv:PE X v tv)(hr:Bj X pos ks vs sv) :
  Bj X pos (some k::ks) (v::vs) ((tk,tv)::sv):=λTk s σ H Q I h=>
 pairTrees_cons_walk (bE (hk Tk s σ H _ I h) λu s1 ⟨x,H1,I1,rx,q1⟩=>bE (hv Tk s1 σ H1 _ I1 q1) λw2 s2 ⟨y,H2,I2,ry,q2⟩=>
  bE (hr Tk s2 σ H2 _ I2 q2) λws s3 ⟨ps,H3,I3,rel,q3⟩=>⟨(x,y)::ps,H3,I3,.cons ⟨rx,ry⟩ rel,q3⟩)
def uw (aL more:List (Key×V)):List (Key×V):=more.foldl (λacc kv=>qP acc kv.1 kv.2) aL
theorem KV.merge:∀ {more:List (Key×V)} {rs:List (Key×Value)} {aL:List (Key×V)} {vs:List (Key×Value)},KV more rs->KV aL vs->KV (uw aL more) (merged vs rs):=by
 intro more rs aL vs r;unfold KV at r;induction r generalizing aL vs with
 | nil=>intro q;exact q
 | @cons p q ps qs h t ih=>
  intro r0;have e:KV (qP aL p.1 p.2) (stored vs q.1 q.2):=by have:=r0.put p.1 h.2;rw[<- h.1];exact this
  exact ih e
theorem Ii:∀ (more aL:List (Key×V)),(uw aL more).length<=aL.length+more.length
 | [],aL=>by show aL.length<=aL.length+0;omega
 | p::r,aL=>by have h1:=Ii r (qP aL p.1 p.2);have h2:=TY aL p.1 p.2;show(uw (qP aL p.1 p.2) r).length<=_;rw[QB];omega
theorem Ij{P:Program}{w:World}:∀ {aL:List (Key×V)} {ws:List (Value×Value)},VV (aL.map λkv=>(kV kv.1,kv.2)) ws->∃ rs,Carries (jZ P w) ws rs/\KV aL rs
 | [],_,r=>by rw[Yk]at r;cases r;exact⟨[],True.intro,.nil⟩
 | p::aL,_,r=>by
  rw[QM]at r;cases r with
  | @cons a b as bs h t=>
   obtain⟨rs,c,q⟩:=Ij (P:=P) (w:=w) t;obtain⟨b1,b2⟩:=b;exact⟨(p.1,b2)::rs,⟨DA h.1,rfl,c⟩,.cons ⟨rfl,h.2⟩ q⟩
def T8 (sv:List (TE×TE)):TE:=λσ H Q=>∀ p,H p=none->DC sv σ (upd H p (.dK [])) λps H2=>H2 p=some (.dK [])/\∃ aL:List (Key×V),ps=aL.map (λkv=>(kV kv.1,kv.2))/\aL.length<=15/\Q (.ref p) (upd H2 p (.dK (uw [] aL)))
theorem T9{keys:List (Option Expr)}{values:List Expr}(h:Bj X pos keys values sv)(d9:keys.all (·.isSome)=true)(hl:keys.length=values.length)(h0:keys ≠ [])
  (T_:keys.length<=15):PE X (.Dict keys values pos) (T8 sv):=by
 intro Tk s σ H Q I q;have hn:=I.aP.fresh (Qj s.heap.objs.size);have I1:=I.laid (a:=s.heap.objs.size) (o:=.dK []) (h':=s.heap.push { cls:=.type "dict",data:=.dict #[] }) (t':=s.toks) (λ_ _ q=>Qe _ q) (Qj _) (T6 s.heap I.T3);refine wpAny_Dict_walk (knd:=jZ X.prog X.w) d9 hl h0 T_ (bE (h Tk _ σ _ _ I1 (q _ hn)) λws s2 aj=>?_);obtain⟨ps,H2,I2,rel,e,aL,ep,lk,q2⟩:=aj;subst ep;obtain⟨rs,c,rk⟩:=Ij (P:=X.prog) (w:=X.w) rel;obtain⟨z,hd,Ui,r0,dd⟩:=TZ I2.aP e;cases r0;refine⟨rs,c,dd,λh' Ik hs=>⟨.ref s.heap.objs.size,_,?_,rfl,q2⟩⟩;have hz:(uw [] aL).length<=sizeLine:=by have h1:=Ii aL [];rw[Jk]at h1;rw[Jl];omega
 have he:∃ q,h'.get? s.heap.objs.size=some q:=let ⟨q,_,_,hq,_⟩:=Ik;⟨q,hq⟩
 exact T4 I2 (by rw[e];exact True.intro) hs he (T5 hz hd (rk.merge .nil) Ik)
structure M2 (X:Cx) (o:Expr) (m:Str) (apos:Pos) (e f:Expr) (aH:Pos):Prop where
 base:attributeBase o m X.env (eval o X.env)=eval o X.env
 pW:((backTo aH (starEach [e,f] X.env)).all (λx=>!x.1)&&(backToKw aH (keywordEach [] X.env)).all (λx=>x.1.isSome)
  && decide (([e,f]:List Expr).length+([]:List Keyword).length+(if([]:List Keyword).isEmpty then 0 else 1)<30))=true
 line:(apos.endLine==aH.line)=true
 trees:backTo aH (starEach [e,f] X.env)=[(false,eval e X.env),(false,eval f X.env)]
def Il (H:Hp)(a:Addr):Prop:=(∃ aL,Rd H a (.dK aL))\/∃ aL,Rd H a (.dT aL)
theorem Uj(I:Inv X Tk σ H s)(d:Il H a) :
  s.TypeIs (.ref a) "dict" /\ (∀ b,Value.ref a=.ref b->∃ ob,s.heap.get? b=some ob/\ob.dict=none)/\(a==sysModules)=false:=by
 rcases d with⟨aL,e⟩|⟨aL,e⟩
 .obtain⟨_,hd,vs,_,dd⟩:=DB I.aP e;refine⟨dd.typeIs,λb q=>?_,hd⟩;cases q;obtain⟨ob,_,_,h1,h2,_⟩:=dd;exact⟨ob,h1,h2.2.1⟩
 .obtain⟨_,hd,xs,_,dd⟩:=Ig I.aP e;refine⟨dd.typeIs,λb q=>?_,hd⟩;cases q;obtain⟨ob,_,_,h1,h2,_⟩:=dd;exact⟨ob,h1,h2.2.1⟩
section
variable {X:Cx}{Tk:List (Addr×Obj)}{σ:St}{H:Hp}{s:Shared}{a:Addr}{y d:V}{u r:Value}{o:Option V}{A:Around}{E:Tl}
theorem Uk{Q:Tl}(hu:A.units+1<cLine)(I:Inv X Tk σ H s)(g:yb H a y o)(ry:cn y u)(rd:cn d r)(h:∀ w' s',Inv X Tk σ H s'->cn (o.getD d) w'->Q w' s') :
  wpAny (model X.prog X.w) A (call (.builtin "dict.get") [.ref a,u,r]) Q E s:=by
 rcases g with⟨aL,k,e,ey,l⟩|⟨aL,k,b,e,ey,eb,l⟩
 .subst ey;obtain⟨z,hd,vs,rel,dd⟩:=DB I.aP e;refine call_meetsIn Yw dd.typeIs VG (Vv _ _ _) (meets_dict_get_default (jZ X.prog X.w) a (DA ry) hd r) ⟨_,dd.mapOf,h _ _ (I.tok _) ?_⟩;rw[l];exact(rel.val k).getD rd
 .subst ey;cases (show u=Value.ref b from ry);obtain⟨z,hd,xs,rel,dd⟩:=Ig I.aP e;refine call_meetsIn Yw dd.typeIs VG (Vv _ _ _) (meetsH_dict_get_default (tupleKind (jZ X.prog X.w)) a b hd r) ⟨tupleKind_room_in1 hu,k,xs,Ie I.aP eb,dd,h _ _ (I.tok _) ?_⟩;rw[l];exact(rel.val k).getD rd
end
def Ul (td ty tx:TE):TE:=λσ H Q=>td σ H λx H1=>∃ a,x=.ref a/\Il H1 a/\ty σ H1 λy H2=>tx σ H2 λz H3=>∃ o,yb H3 a y o/\Q (o.getD z) H3
section
variable {X:Cx}{o e f:Expr}{apos aH:Pos}{td ty tx:TE}
theorem Um(hu:X.A.units+1<cLine)(ho:PE X o td)(he:PE X e ty)(hf:PE X f tx)(m:M2 X o "get" apos e f aH):PE X (.Call (.Attribute o "get" apos) [e,f] [] aH) (Ul td ty tx):=by
 intro Tk s σ H Q I h;refine wpAny_Call_method m.base m.pW m.line PySem.F.plainAttrs_dict Yw PySem.F.type_dict_get (bE (ho Tk s σ H _ I h) λu s1 aj=>?_);obtain⟨x,H1,I1,rx,a,ex,d,q1⟩:=aj;subst ex;obtain rfl:u=Value.ref a:=rx;obtain⟨t1,t2,_⟩:=Uj I1 d;refine⟨t1,t2,?_⟩;rw[m.trees];refine Calls.callWith_builtin rfl (YH (Ya (bE (he Tk s1 σ H1 _ I1 q1) λiv s2 ⟨y,H2,I2,ry,q2⟩=>
  Ya (bE (hf Tk s2 σ H2 _ I2 q2) λfv s3 ⟨z,H3,I3,rz,ov,g,q3⟩=>Vj ?_))))
 exact Uk hu I3 g ry rz λw' s4 I4 qH=>⟨_,H3,I4,qH,q3⟩
end
theorem Uo{prog:Program}{R:Result->Shared->Prop}{target:Expr}{it acc:Value}(I:Nat->Shared->Prop)
  (turn:∀ n s,I n s->wpAny (model prog w) A (pyNext it) (λr br=>match r with
    | none=>R (.ok .next) br
    | some v=>wpAny (model prog w) A (letOwnedTupleGo target it v) (λ_ sA=>wpAny (model prog w) A (assign target env v) (λ_ mY=>
      wpAny (model prog w) A (forIn ifs true λc r=>if r=true then do let ok <- isTrue c env (eval c env);pure (ForInStep.yield ok)else pure (ForInStep.yield r)) (λok k_=>
       if ok=true then wpAny (model prog w) A (eval elt env) (λx qQ=>
        wpAny (model prog w) A (call (.builtin "list.append") [acc,x]) (λ_ yc=>∃ m,m<n/\I m yc) (λ_ _=>False) qQ) (λ_ _=>False) k_
       else ∃ m,m<n/\I m k_) (λ_ _=>False) mY) (λ_ _=>False) sA) (λ_ _=>False) br) (λ_ _=>False) s)
  (n:Nat) (h:I n s):codeAny (model prog w) A (.compLoop (.ListComp elt [⟨target,iter,ifs,0⟩] scope pos) 0 it acc env) R s:=by
 refine codeAny_loop rfl I (λn s hI=>?_) n h;show wpAny _ A ((compTurn (.ListComp elt [⟨target,iter,ifs,0⟩] scope pos) 0 it acc env).onRaise (λx=>do noteFrame x env;theTreesLotGoes x)) _ _ s;refine wpAny_noted ?_;rw[compTurn_list];refine Qa (Vm (Qa (ZN (turn n s hI) (λr br yd=>?_) λ_ _ h'=>h'.elim)));cases r with
 | none=>exact Qd yd
 | some v=>
  refine Qa (ZN yd (λ_ sA ye=>?_) λ_ _ h'=>h'.elim);refine Qa (ZN ye (λ_ mY DD=>Qa (ZN DD (λok k_ yf=>?_) λ_ _ h'=>h'.elim)) λ_ _ h'=>h'.elim);cases ok with
  | false=>exact Qd ⟨rfl,yf⟩
  | true=>
   exact Qa (Qa (ZN yf (λx qQ yg=>Qa (ZN yg (λ_ yc yh=>Qd (Qd ⟨rfl,yh⟩)) λ_ _ h'=>h'.elim)) λ_ _ h'=>h'.elim))
theorem Uq{M:Model}{A:Around}{E:Tl}{globals:Addr}{cl:List (Str×Addr)}{outer:Env}{Q:Env->Shared->Prop}
  (hQ:Q (newEnv scope s.heap.objs.size globals (cellsFrom (s.heap.objs.size+1) scope.names cl) qual none .none (some outer) builtinsNs)
    { s with heap:=pushCells (s.heap.push { cls:=.type "dict",data:=.dict #[] }) scope.names }) :
  wpAny M A (newFunctionEnv scope globals cl [] qual none .none (some outer)) Q E s:=by simp only[newFunctionEnv,Option.isSome_some,ZE];refine Qa (wpAny_alloc ?_);refine Qa (wpAny_layCells _ (λname kind cells=>by cases Ur:kind==NameKind.cell<;>simp[Ur]) _ _ _ _ ?_);rw[show({ s with heap:=s.heap.push { cls:=.type "dict",data:=.dict #[] } }:Shared).heap.objs.size=s.heap.objs.size+1 from Zv ..];refine Qa ?_;rw[V2];exact Qd (Qd hQ)
def ji (cells:List (Str×Addr)):List (Str×NameKind)->List (Str×Addr)->List (Str×Addr)
 | [],acc=>acc
 | (n,k)::r,acc=>if k == .free then(match cells.lookup n with
   | some c=>ji cells r ((n,c)::acc)
   | none=>ji cells r acc)else ji cells r acc
theorem Im(h:∀ y∈scope.names,y.2=.free->∃ c,env.cells.lookup y.1=some c):closureFor scope env=pure (ji env.cells scope.names []):=by
 unfold closureFor;have key:∀ (names:List (Str×NameKind)) (acc:List (Str×Addr)),(∀ y∈names,y.2=.free->∃ c,env.cells.lookup y.1=some c)->
   (forIn names acc (λ(x:Str×NameKind) (r:List (Str×Addr))=>(match x with
     | (name,kind)=>if(kind==NameKind.free)=true then do
       let c <- cellOf env name
       pure (ForInStep.yield ((name,c)::r))
      else pure (ForInStep.yield r):Sem (ForInStep (List (Str×Addr))))))=(pure (ji env.cells names acc):Sem (List (Str×Addr))):=by
  intro names;induction names with
  | nil=>intro acc _;rfl
  | cons y r ih=>
   intro acc hh;obtain⟨n,kd⟩:=y;rw[VN];unfold ji;by_cases hk:(kd==NameKind.free)=true
   .obtain⟨c,hc⟩:=hh (n,kd) Qg (by simpa using hk);have kH:env.cells.lookup n=some c:=hc;simp only[hk,ZE,kH];have e:cellOf env n=pure c:=by unfold cellOf;rw[kH]
    rw[e];exact ih ((n,c)::acc) λz hz=>hh z (Qf _ hz)
   .simp only[hk];exact ih acc λz hz=>hh z (Qf _ hz)
 exact(Zy (λm=>m >>= λcs=>(pure cs:Sem (List (Str×Addr)))) (key scope.names [] h)).trans rfl
theorem Bk:∀ {names:List (Str×NameKind)} {acc:List (Str×Addr)},(∀ y c,(y,c)∈acc->cells.lookup y=some c)->∀ y c,(y,c)∈ji cells names acc->cells.lookup y=some c
 | [],_,h,y,c,m=>h y c m
 | (n,k)::r,acc,h,y,c,m=>by
  unfold ji at m;split at m
  .split at m;next c' e=>
    refine Bk (acc:=(n,c')::acc) (λz d hz=>?_) y c m;rcases Qm.mp hz with q|q
    .cases q;exact e
    .exact h z d q
   .exact Bk h y c m
  .exact Bk h y c m
theorem Bl:∀ {names:List (Str×NameKind)} {acc:List (Str×Addr)} {y:Str},(acc.lookup y).isSome=true->((ji cells names acc).lookup y).isSome=true
 | [],_,_,h=>h
 | (n,k)::r,acc,y,h=>by
  unfold ji;split
  .split
   .refine Bl ?_;rw[Zw];split
    .rfl
    .exact h
   .exact Bl h
  .exact Bl h
theorem yi(hc:cells.lookup y=some c):∀ {names:List (Str×NameKind)} {acc:List (Str×Addr)},(y,NameKind.free)∈names->((ji cells names acc).lookup y).isSome=true
 | (n,k)::r,acc,h=>by
  unfold ji;rcases Qm.mp h with q|q
  .cases q;simp only[hc];rw[Qh (by rfl)];refine Bl ?_;rw[Zw,Zz];rfl
  .split
   .split
    .exact yi hc q
    .exact yi hc q
   .exact yi hc q
theorem DE:∀ {names:List (Str×NameKind)} {h:Heap} {acc:List (Str×Addr)} {y:Str} {c:Addr},(y,c)∈cellsFrom h.objs.size names acc->(y,c)∈acc\/(h.objs.size<=c/\(pushCells h names).IsCell c none)
 | [],_,_,_,_,m=>.inl m
 | (n,k)::r,h,acc,y,c,m=>by
  unfold cellsFrom at m;unfold pushCells;split at m;next hk=>
   rw[Qh hk];have m':(y,c)∈cellsFrom (h.push { cls:=.type "cell",data:=.cell none }).objs.size r ((n,h.objs.size)::acc):=by rw[Zv];exact m
   rcases DE m' with q|⟨q1,q2⟩
   .rcases Qm.mp q with e|q
    .cases e;refine .inr ⟨Qj _,_,J4 _ _ _ _ (Qv _ rfl),rfl⟩
    .exact .inl q
   .rw[Zv]at q1;exact .inr ⟨by omega,q2⟩
  next hk=>
   rw[Ql hk];exact DE m
theorem DF:∀ {names:List (Str×NameKind)} {n:Nat} {acc:List (Str×Addr)},(∀ y c,(y,c)∈acc->c<n)->(∀ x y c,(x,c)∈acc->(y,c)∈acc->x=y)->∀ x y c,(x,c)∈cellsFrom n names acc->(y,c)∈cellsFrom n names acc->x=y
 | [],_,_,_,h=>h
 | (nm,k)::r,n,acc,dz,h=>by
  unfold cellsFrom;split
  .refine DF (n:=n+1) (acc:=(nm,n)::acc) (λy c m=>?_) (λx y c m1 m2=>?_)
   .rcases Qm.mp m with e|m
    .cases e;exact ZP _
    .exact ZU (dz y c m)
   .rcases Qm.mp m1 with e1|m1<;>rcases Qm.mp m2 with e2|m2
    .cases e1;cases e2;rfl
    .cases e1;exact absurd (dz y _ m2) (QW _)
    .cases e2;exact absurd (dz x _ m1) (QW _)
    .exact h x y c m1 m2
  .exact DF dz h
theorem DG:∀ {names:List (Str×NameKind)} {n:Nat} {acc:List (Str×Addr)},lo<=n->(∀ c,acc.lookup y=some c->lo<=c)->∀ c,(cellsFrom n names acc).lookup y=some c->lo<=c
 | [],_,_,_,h=>h
 | (nm,k)::r,n,acc,hn,h=>by
  unfold cellsFrom;split
  .refine DG (n:=n+1) (by omega) λc e=>?_;rw[Zw]at e;split at e
   .cases e;exact hn
   .exact h c e
  .exact DG hn h
theorem DH:∀ {names:List (Str×NameKind)} {n:Nat} {acc:List (Str×Addr)},lo<=n->(y,NameKind.cell)∈names->∀ c,(cellsFrom n names acc).lookup y=some c->lo<=c
 | (nm,k)::r,n,acc,hn,h=>by
  unfold cellsFrom;rcases Qm.mp h with q|q
  .cases q;rw[Qh (by rfl)];refine DG (n:=n+1) (by omega) λc e=>?_;rw[Zw,Zz]at e;cases e;exact hn
  .split
   .exact DH (n:=n+1) (by omega) q
   .exact DH hn q
theorem DI:∀ {names:List (Str×NameKind)} {n:Nat} {acc:List (Str×Addr)},(y,NameKind.cell) ∉ names->(cellsFrom n names acc).lookup y=acc.lookup y
 | [],_,_,_=>rfl
 | (nm,k)::r,n,acc,h=>by
  unfold cellsFrom;split;next hk=>
   rw[DI (λz=>h (Qf _ z)),Zw];have eJ:(y==nm)=false:=by
    cases e:y==nm with
    | false=>rfl
    | true=>
     have e1:y=nm:=ZV.mp e;have e2:k=NameKind.cell:=by simpa using hk
     exact absurd (by rw[e1,<- e2];exact Qg) h
   rw[eJ]
  .exact DI λz=>h (Qf _ z)
def sC (env:Env)(y:Str)(k:NameKind):NameKind:=if(k==NameKind.free&&env.scope.kind == .function&&env.kindOf y==some .cell)then .cell else k
theorem DJ{env:Env}{y:Str}:∀ (names:List (Str×NameKind)),(names.map λ(n,k)=>if(k==NameKind.free&&env.scope.kind == .function&&env.kindOf n==some .cell)then(n,NameKind.cell)else(n,k)).lookup y=(names.lookup y).map (sC env y)
 | []=>rfl
 | (n,k)::r=>by
  have ih:=DJ (env:=env) (y:=y) r;show List.lookup y ((if(k==NameKind.free&&env.scope.kind == .function&&env.kindOf n==some .cell)=true then(n,NameKind.cell)else(n,k))::_)=_;cases hx:y==n with
  | true=>
   have e:=ZV.mp hx;subst e;rw[Zw,Zw];by_cases hc:(k==NameKind.free&&env.scope.kind == .function&&env.kindOf y==some .cell)=true
   .simp only[sC,hc,ZE,Zz,ZY]
   .simp only[sC,hc,Zz,ZY];simp
  | false=>
   by_cases hc:(k==NameKind.free&&env.scope.kind == .function&&env.kindOf n==some .cell)=true
   .rw[Qh hc,Zw,Zw];simp only[hx];exact ih
   .rw[Ql hc,Zw,Zw];simp only[hx];exact ih
theorem Io{l:List (Str×NameKind)}(hn:(l.map (·.1)).Nodup){k:NameKind}(h:(y,k)∈l):l.lookup y=some k:=by
 induction l with
 | nil=>cases h
 | cons p r ih=>
  rw[Zw];rcases Qm.mp h with e|h
  .rw[<- e,Zz]
  .have eJ:y≠p.1:=λe=>by have:=(Q3.mp hn).1;exact this (by show p.1∈_;rw[<- e];exact Qo.mpr ⟨(y,k),h,rfl⟩)
   have:(y==p.1)=false:=by simpa using eJ
   rw[this];exact ih (Q3.mp hn).2 h
def Ip (scope:Scope)(env:Env)(C:Addr):Env:=
 { newEnv scope C env.globals (cellsFrom (C+1) scope.names (ji env.cells scope.names [])) env.qual none .none (some env) builtinsNs with scope:=relabel scope env }
def iG (X:Cx)(N':List Str)(scope:Scope)(C:Addr)(s:Shared)(H:Hp)(fp:List Addr):Cx where
 prog:=X.prog
 w:=X.w
 K:=X.K
 mg:=X.mg
 base:=X.base
 A:=X.A
 N:=N'
 aD:=s
 cb:=H
 env:=Ip scope X.env C
 outer:=X.stack
 stack:=X.stack
 ex:=fp
 fn:=λy=>scope.names.lookup y==some .cell
 calm:=X.calm
 pn:=[]
 xe:=λ_ _=>False
structure cO (X:Cx) (k:Nat) (N':List Str) (scope:Scope):Prop where
 kind:scope.kind=.function
 names:(scope.names.map (·.1)).Nodup
 len:N'.length=X.N.length+k
 frees:(scope.names.all λy=>y.2 != .free||X.env.kindOf y.1==some .cell||X.env.kindOf y.1==some .free)=true
 outs:((N'.zip X.N).all λp=>(p.1==p.2&&scope.names.lookup p.1==some .free)||scope.names.lookup p.1==none||scope.names.lookup p.1==some .globalImplicit)=true
theorem cO.free{k:Nat}(S:cO X k N' scope)(h:(y,NameKind.free)∈scope.names):X.env.kindOf y=some .cell\/X.env.kindOf y=some .free:=by
 have:=ZG.mp S.frees (y,NameKind.free) h;simp only[Bool.or_eq_true,bne_iff_ne,ne_eq,ZV]at this;rcases this with(h1|h1)|h1
 .exact absurd trivial h1
 .exact .inl h1
 .exact .inr h1
theorem cO.out{k:Nat}(S:cO X k N' scope)(bW:i<X.N.length)(h:N'[i]? = some y)(hv:vV (relabel scope X.env) y):X.N[i]? = some y/\scope.names.lookup y=some .free:=by
 have e2:X.N[i]? = some X.N[i]:=by simp[bW]
 have m:(y,X.N[i])∈N'.zip X.N:=QR (i:=i) (by rw[Ve];exact⟨h,e2⟩);have:=ZG.mp S.outs _ m;simp only[Bool.or_eq_true,Zo,ZV]at this;have hl:(relabel scope X.env).names.lookup y=(scope.names.lookup y).map (sC X.env y):=DJ _;rcases this with(⟨h1,h2⟩|h1)|h1
 .exact⟨by rw[e2,<- h1],h2⟩
 .rw[h1]at hl;rcases hv with z|z|z<;>(rw[hl]at z;cases z)
 .rw[h1]at hl;have hr:sC X.env y .globalImplicit=.globalImplicit:=rfl;rw[ZY,hr]at hl;rcases hv with z|z|z<;>(rw[hl]at z;cases z)
theorem Un.uz{fs ex:List Addr}{D:Addr}(u:Un fs ex H H' h h')(aP:d8 P w H h)(hD:h.objs.size<=D):Un fs ex H (upd H' D o) h h':=by
 have ne:∀ b ob,h.get? b=some ob->b≠D:=λb ob e z=>absurd (Qx (Qq e) hD) (by rw[z];exact QW _);have ne':∀ b x,H b=some x->b≠D:=λb x e z=>absurd (Qx (aP.lt e) hD) (by rw[z];exact QW _);refine⟨u.keep,u.slot,λb ob e n hx=>?_,u.there,λb xs e=>?_,λb ob x e=>?_,λb ps e=>?_⟩
 .rw[bV (ne b ob e)];exact u.free b ob e n hx
 .rw[bV (ne' b _ e)];exact u.fx b xs e
 .rw[bV (ne' b _ e)];exact u.eT b ob x e
 .rw[bV (ne' b _ e)];exact u.fy b ps e
theorem d8.add{D:Addr}(x:d8 P w H h)(hn:H D=none)(new:d7 P w (upd H D o) h D o):d8 P w (upd H D o) h:=λb u e=>by
 by_cases hb:b=D
 .subst hb;rw[jh]at e;cases e;exact new
 .rw[bV hb]at e;exact(x b u e).h_ (λc v _ q=>q) (λc q=>by rw[bV (ju q hn)];exact q) λc xs q=>by rw[bV (ju q hn)];exact q
def wb (X:Cx)(ifs:List Expr)(t:TT):Prop:=
 ∀ (Tk:List (Addr×Obj)) (s:Shared) (σ:St) (H:Hp) (Q:Bool->Hp->Prop),Inv X Tk σ H s->t σ H Q->
  wpAny (model X.prog X.w) X.A (forIn ifs true λc r=>if r=true then do let ok <- isTrue c X.env (eval c X.env);pure (ForInStep.yield ok)else pure (ForInStep.yield r)) (TP X Tk σ Q) X.xe s
def Us:TT:=λ_ H Q=>Q true H
theorem Ut:wb X [] Us:=λTk s σ H Q I h=>wpAny_tests_nil ⟨H,I,h⟩
theorem Uu{c:Expr}{t:TT}(h:PT X c t):wb X [c] t:=λTk s σ H Q I q=>wpAny_tests_one (h Tk s σ H Q I q)
def Iq (k:Nat)(g:TG)(tt:TT)(te:TE)(σ:St)(J:It)(H:Hp)(Fin:List V->Hp->Prop):Prop:=
 ∃ W:Nat->Nat->List V->Hp->Prop,(∃ m,W 0 m [] H)/\∀ i m ys H2,W i m ys H2->ys.length<=sizeLine /\
  ((J.stop i H2/\Fin ys H2)\/(J.go i H2/\ys.length<sizeLine/\∀ x H3,J.ug i H2 x H3->g x (σ++replicate k none) H3 λwc H4=>(∃ τ,wc=σ++τ/\τ.length=k) /\
    tt wc H4 λb H5=>if b=true then te wc H5 λv H6=>∃ m',m'<m/\W (i+1) m' (ys++[v]) H6 else ∃ m',m'<m/\W (i+1) m' ys H5))
def Bm (k:Nat)(wi:TI)(g:TG)(tt:TT)(te:TE):TE:=λσ H Q=>wi σ H λJ H1=>Iq k g tt te σ J H1 λys H2=>∀ p,H2 p=none->Q (.ref p) (upd H2 p (.lst ys))
def i7 (us:List Value)(n:Nat):Obj:={ cls:=.type "list",data:=.seq us.toArray n }
theorem Ir{τ:St}(I:Inv X Tk (σ++τ) H s):Inv X Tk (σ++replicate τ.length none) H s:=
 I.weak (by simp) λi v e=>by
  by_cases hi:i<σ.length
  .rw[QU hi]at e ⊢;exact e
  .rw[Zk (by omega),Z3]at e;split at e<;>cases e
section
variable {X:Cx}{k:Nat}{N':List Str}{scope:Scope}{Tk:List (Addr×Obj)}{σ:St}{H2:Hp}{s2:Shared}{fp:List Addr}
abbrev yj (scope:Scope)(s2:Shared):Heap:=pushCells ((s2.heap.push (i7 [] 0)).push { cls:=.type "dict",data:=.dict #[] }) scope.names
theorem Uv(S:cO X k N' scope)(I2:Inv X Tk σ H2 s2)(f2:∀ b∈fp,oD X Tk H2 b)(uA:∀ b∈fp,b<s2.heap.objs.size) :
  Inv (iG X N' scope (s2.heap.objs.size+1) s2 H2 fp) [(s2.heap.objs.size,i7 [] 0)] (σ++replicate k none) H2 { s2 with heap:=yj scope s2 }:=by
 have e1:(s2.heap.push (i7 [] 0)).objs.size=s2.heap.objs.size+1:=Zv ..;have e2:((s2.heap.push (i7 [] 0)).push { cls:=.type "dict",data:=.dict #[] }).objs.size=s2.heap.objs.size+1+1:=by rw[Zv,e1]
 have keep:∀ b o,s2.heap.get? b=some o->(yj scope s2).get? b=some o:=λb o e=>J4 _ _ b o (Qe _ (Qe _ e));have dO:∀ y c,(y,c)∈ji X.env.cells scope.names []->X.env.cells.lookup y=some c:=Bk (λ_ _ m=>nomatch m);have uB:∀ y c,(y,c)∈cellsFrom (s2.heap.objs.size+1+1) scope.names (ji X.env.cells scope.names [])->X.env.cells.lookup y=some c\/(s2.heap.objs.size+1+1<=c/\(yj scope s2).IsCell c none):=λy c m=>by
  have m':(y,c)∈cellsFrom ((s2.heap.push (i7 [] 0)).push { cls:=.type "dict",data:=.dict #[] }).objs.size scope.names (ji X.env.cells scope.names []):=by rw[e2];exact m
  rcases DE m' with q|⟨q1,q2⟩
  .exact .inl (dO y c q)
  .rw[e2]at q1;exact .inr ⟨q1,q2⟩
 have Uw:∀ y c,X.env.cells.lookup y=some c->c<s2.heap.objs.size:=λy c e=>by obtain⟨v,z⟩:=I2.cell y c e;exact z.lt
 have hl:∀ y,(relabel scope X.env).names.lookup y=(scope.names.lookup y).map (sC X.env y):=λy=>DJ _;have ok:(iG X N' scope (s2.heap.objs.size+1) s2 H2 fp).Ok:=by
  refine⟨I2.ok.mod,S.kind,I2.ok.glob,I2.ok.blt,JP _,λx y c h1 h2=>?_,λx hx=>?_,λx c hf h=>?_,I2.ok.hd,I2.ok.frames,.inl rfl,λb hb=>⟨?_,λx c h z=>?_⟩,I2.bs,Qw I2.ok.ou I2.sz,λb o e hb=>?_,λb hb z=>?_,I2.stack,I2.fS⟩
  .refine DF (n:=s2.heap.objs.size+1+1) (names:=scope.names) (acc:=ji X.env.cells scope.names []) (λy c m=>?_) (λx y c m1 m2=>?_) x y c (QY h1) (QY h2)
   .exact Qx (Uw y c (dO y c m)) (by omega)
   .exact I2.ok.inj x y c (dO x c m1) (dO y c m2)
  .have fT:(relabel scope X.env).names.lookup x=some .cell\/(relabel scope X.env).names.lookup x=some .free:=hx;rw[hl x]at fT;have:scope.names.lookup x=some .cell\/scope.names.lookup x=some .free:=by
    cases e:scope.names.lookup x with
    | none=>rw[e]at fT;rcases fT with z|z<;>cases z
    | some kd=>
     rw[e,ZY]at fT;cases kd<;>first
      | exact .inl rfl
      | exact .inr rfl
      | (rcases fT with z|z<;>(have z':=QI z;unfold sC at z';simp at z'))
   rcases this with q|q
   .exact Jp.mp (Jy scope.names (s2.heap.objs.size+1+1) _ (.inl q))
   .have qm:=QY q;have hk:=S.free qm;obtain⟨c,hc⟩:=I2.ok.has x hk;exact Jp.mp (Jy scope.names (s2.heap.objs.size+1+1) _ (.inr (yi hc qm)))
  .have Ux:(scope.names.lookup x==some .cell)=true:=hf;have:=DH (lo:=s2.heap.objs.size) (n:=s2.heap.objs.size+1+1) (acc:=ji X.env.cells scope.names []) (by omega) (QY (ZV.mp Ux)) c h;exact this
  .have:=uA b hb;show b≠s2.heap.objs.size+1;exact QS (Qx this (JP _))
  .have q:=uA b hb;rcases uB x c (QY h)with w|⟨w,_⟩
   .exact(f2 b hb).2.2.2.2.1 x c w z
   .subst z;exact absurd (Qx q (Qw (by omega) w)) (QW _)
  .rcases(f2 b hb).2.2.2.1 with z|z
   .exact I2.ok.mU b o e z
   .have:=Qq e;have:=I2.ok.ou;exact absurd (Qx (Qq e) (Qw I2.ok.ou z)) (QW _)
  .rcases Qm.mp (I2.jv b z)with q|q
   .exact(f2 b hb).2.1 q
   .exact(f2 b hb).2.2.1 q
 obtain⟨m,hn,DK⟩:=id I2.loc;refine⟨ok,rfl,I2.bare,Un.kept keep,⟨λ_=>none,?_,λi y v h1 h2 h3=>?_⟩,λy c h=>?_,I2.aP.fresh (JP _),λy c h=>?_,λp hp=>?_,I2.aP.kept keep,?_⟩
 .have:=(Heap.Ns.new (s2.heap.push (i7 [] 0)) (.type "dict")).keeps (J4 scope.names _);rw[e1]at this;exact this
 .by_cases hi:i<σ.length
  .have Uy:vV (relabel scope X.env) y:=h3;obtain⟨o1,o2⟩:=S.out (by rw[<- I2.len];exact hi) h1 Uy;have hk:=S.free (QY o2);have hs:σ[i]? = some (some v):=by rw[QU hi]at h2;exact h2
   obtain⟨u,r,l⟩:=DK i y v o1 hs (.inr hk);refine⟨u,r,?_⟩;rcases l with⟨l,_⟩|⟨_,c,hc,lY⟩
   .rcases hk with z|z<;>(rw[l]at z;cases z)
   .refine .inr ⟨?_,c,?_,lY.keeps keep⟩
    .show(relabel scope X.env).names.lookup y=some .cell\/(relabel scope X.env).names.lookup y=some .free;rw[hl y,o2,ZY];unfold sC;split
     .exact .inl rfl
     .exact .inr rfl
    .show(cellsFrom (s2.heap.objs.size+1+1) scope.names (ji X.env.cells scope.names [])).lookup y=some c;rw[DI (λz=>by have:=Io S.names z;rw[o2]at this;cases this)];obtain⟨c',kH⟩:=Jp.mp (yi (acc:=[]) hc (QY o2));have:=dO y c' (QY kH);rw[hc]at this;cases this;exact kH
  .rw[Zk (by omega),Z3]at h2;split at h2<;>cases h2
 .rcases uB y c (QY h)with w|⟨_,w⟩
  .obtain⟨v,z⟩:=I2.cell y c w;exact⟨v,z.keeps keep⟩
  .exact⟨_,w⟩
 .rcases uB y c (QY h)with w|⟨w,_⟩
  .exact I2.dC y c w
  .exact I2.aP.fresh (by omega)
 .have e:p=(s2.heap.objs.size,i7 [] 0):=by have:p ∈ [(s2.heap.objs.size,i7 [] 0)]:=hp;simpa using this
  subst e;refine⟨J4 _ _ _ _ (Qe _ (Qv _ rfl)),I2.aP.fresh (Qj _),?_,λz=>?_,λv z=>nomatch z⟩
  .show s2.heap.objs.size≠s2.heap.objs.size+1;omega
  .have z':s2.heap.objs.size∈dW X.stack:=z;rcases Qm.mp (I2.jv _ z')with q|q
   .exact absurd I2.lt (by rw[<- q];exact QW _)
   .exact I2.xK (Qj _) q
 .rw[Qk,ZL,I2.len];exact S.len.symm
theorem Uz{us:List Value}{ys:List V}{s':Shared}{aX:St}(I2:Inv X Tk σ H2 s2)(f2:∀ b∈fp,oD X Tk H2 b)
  (I3:Inv (iG X N' scope C s2 H2 fp) [(s2.heap.objs.size,i7 us n)] aX H' s') (r:bK ys us) (hz:ys.length<=sizeLine):Inv X Tk σ (upd H' s2.heap.objs.size (.lst ys)) s':=by obtain⟨e,hn,_⟩:=I3.pin (s2.heap.objs.size,i7 us n) (Qt _ (Q6.mpr rfl));have u:Un (dW X.stack) fp H2 H' s2.heap s'.heap:=I3.base;exact I2.oA (ch:=fp) I3.os (u.uz I2.aP (Qj _)) (I3.aP.add hn ⟨hz,us,n,r,e⟩) I3.bare λb hb=>⟨(f2 b hb).2.2.2.1,(f2 b hb).2.1,(f2 b hb).2.2.2.2⟩
end
theorem Iu{k:Nat}{H2:Hp}{s2:Shared}{fp:List Addr}{tg:Expr}{it:Addr}{tn:Nat->Heap->Prop}{J:It}{g:TG}{tt:TT}{te:TE}{Fin:List V->Hp->Prop}{E:Tl}{RR:Value->Addr->Result->Shared->Prop}
  (hc:X.calm=true) (S:cO X k N' scope) (hg:∀ C s H fp,PG (iG X N' scope C s H fp) tg g) (ht:∀ C s H fp,wb (iG X N' scope C s H fp) ifs tt) (he:∀ C s H fp,PE (iG X N' scope C s H fp) elt te)
  (I2:Inv X Tk σ H2 s2) (T:Turn X.prog X.w X.K tg J fp it tn) (sf:tn 0 s2.heap) (f2:∀ b∈fp,oD X Tk H2 b) (R:Iq k g tt te σ J H2 Fin)
  (UA:∀ C ys H' s' m',Inv X Tk σ (upd H' s2.heap.objs.size (.lst ys)) s'->s'.heap.Ns C m'->H' s2.heap.objs.size=none->upd H' s2.heap.objs.size (.lst ys) C=none->C≠X.env.locals->X.aD.heap.objs.size<=C->s2.heap.objs.size<C->
    Fin ys H'->RR (.ref s2.heap.objs.size) C (.ok .next) s') :
  wpAny (model X.prog X.w) X.A (newList []) (λacc k_=>wpAny (model X.prog X.w) X.A (newFunctionEnv scope X.env.globals (ji X.env.cells scope.names []) [] X.env.qual none .none (some X.env)) (λyk qQ=>
   codeAny (model X.prog X.w) X.A (.compStart (.ListComp elt [⟨tg,iter,ifs,0⟩] scope pos) 0 (.ref it) acc { yk with scope:=relabel scope X.env }) (RR acc yk.locals) qQ) E k_) E s2:=by
 refine Zj (Uq ?_);have e1:(s2.heap.push (i7 [] 0)).objs.size=s2.heap.objs.size+1:=Zv ..;have uA:∀ b∈fp,b<s2.heap.objs.size:=λb hb=>by obtain⟨o,e,_⟩:=T.obj _ _ sf b hb;exact Qq e
 obtain⟨W,⟨m0,w0⟩,turn⟩:=R;have I3:=Uv S I2 f2 uA;have xQ:tn 0 (yj scope s2):=T.keep _ _ _ sf λb hb o e=>J4 _ _ b o (Qe _ (Qe _ e));have UB:s2.heap.objs.size≠s2.heap.objs.size+1:=by omega
 have kY:∀ {H':Hp} {us:List Value} {n:Nat},(∀ b∈fp,H' b=none)->∀ b∈fp,oD (iG X N' scope (s2.heap.objs.size+1) s2 H2 fp) [(s2.heap.objs.size,i7 us n)] H' b:=λ{H' us n} hn b hb=>by
  have q:=I3.ok.AO b hb;refine⟨hn b hb,q.1,I3.ok.mV b hb,.inl hb,q.2,λp hp z=>?_⟩;have nR:p ∈ [(s2.heap.objs.size,i7 us n)]:=hp;have e:p=(s2.heap.objs.size,i7 us n):=by simpa using nR
  subst e;have:=uA b hb;have z':s2.heap.objs.size=b:=z;exact absurd this (by rw[z'];exact QW _)
 have loop:∀ Iv,Iv=Value.ref it->codeAny (model X.prog X.w) X.A (.compLoop (.ListComp elt [⟨tg,iter,ifs,0⟩] scope pos) 0 Iv (.ref s2.heap.objs.size) (Ip scope X.env (s2.heap.objs.size+1))) (RR (.ref s2.heap.objs.size) (s2.heap.objs.size+1)) { s2 with heap:=yj scope s2 }:=by
  rintro _ rfl;refine Uo (λn s'=>∃ i ys us cnt H',Inv (iG X N' scope (s2.heap.objs.size+1) s2 H2 fp) [(s2.heap.objs.size,i7 us cnt)] (σ++replicate k none) H' s'/\tn i s'.heap/\(∀ b∈fp,H' b=none)/\bK ys us/\W i n ys H') ?_ m0
   ⟨0,[],[],0,H2,I3,xQ,λb hb=>(f2 b hb).1,.nil,w0⟩
  rintro n s3 ⟨i,ys,us,cnt,H3,J3,st,fr,r3,w3⟩;obtain⟨hz,hw⟩:=turn i n ys H3 w3;rcases hw with⟨stop,fin⟩|⟨go,dz,step⟩
  .refine bE (T.done (iG X N' scope (s2.heap.objs.size+1) s2 H2 fp) rfl rfl rfl hc i _ s3 _ H3 _ J3 (kY fr) st stop) λrr s4 ⟨hr,I4⟩=>?_;subst hr;obtain⟨m',qF,_⟩:=id I4.loc;obtain⟨eD,nD,_⟩:=I4.pin (s2.heap.objs.size,i7 us cnt) (Qt _ (Q6.mpr rfl));refine UA (s2.heap.objs.size+1) ys H3 s4 m' (Uz I2 f2 I4 r3 hz) qF nD ?_ ?_ ?_ (ZP _) fin
   .rw[bV (Zn UB)];exact I4.free
   .exact Zn (QS (Qx I2.lt (JP _)))
   .have:=I2.sz;omega
  .refine bE (T.item (iG X N' scope (s2.heap.objs.size+1) s2 H2 fp) rfl rfl rfl hc i _ s3 _ H3 _ J3 (kY fr) st go) λrr s4 ⟨u,hr,h4⟩=>?_;subst hr;refine bE h4 λ_ s5 aj=>?_;obtain⟨x,H5,I5,r5,y5,uh,C5⟩:=aj;have C6:=I5.pinned (kY C5) (T.obj _ _ uh);refine bE (hg _ _ _ _ _ s5 _ H5 x u _ C6 r5 (step x H5 y5)) λ_ s6 ⟨Hw,H6,I6,⟨τ,e6,l6⟩,q6⟩=>?_;subst e6;refine bE (ht _ _ _ _ _ s6 _ H6 _ I6 q6) λok s7 aj=>?_;obtain⟨H7,I7,q7⟩:=aj;have kept:∀ {s':Shared} {H':Hp} {aX:St},Inv (iG X N' scope (s2.heap.objs.size+1) s2 H2 fp) ([(s2.heap.objs.size,i7 us cnt)]++se fp s5.heap) aX H' s'->tn (i+1) s'.heap/\∀ b∈fp,H' b=none:=λ{s' H' aX} I'=>by refine⟨T.keep _ _ _ uh λb hb o e=>(I'.pin (b,o) (Qt _ (Qt _ (AX hb e)))).1,λb hb=>?_⟩;obtain⟨o,e,d⟩:=T.obj _ _ uh b hb;exact(I'.pin (b,o) (Qt _ (Qt _ (AX hb e)))).2.1
   cases ok with
   | false=>
    rw[Ql (by decide)]at q7 ⊢;obtain⟨m',hm,w7⟩:=q7;have:=Ir I7.fU;rw[l6]at this;exact⟨m',hm,i+1,ys,us,cnt,H7,this,(kept I7).1,(kept I7).2,r3,w7⟩
   | true=>
    rw[Qh rfl]at q7 ⊢;refine bE (he _ _ _ _ _ s7 _ H7 _ I7 q7) λu8 s8 aj=>?_;obtain⟨v,H8,I8,r8,m',hm,w8⟩:=aj;obtain⟨eD,nD,Iw,UC,dD⟩:=I8.pin (s2.heap.objs.size,i7 us cnt) (Qt _ (Q2 _ (Q6.mpr rfl)));refine append_at eD (λh9 Iy UD=>?_) (hsz:=by rw[Qn,<- r3.length];exact Jx dz);have Ia:=I8.iz (pins':=se fp s5.heap) λp hp=>I8.pin p (Qt _ (Qt _ hp));have UE:∀ p∈se fp s5.heap,p.1≠s2.heap.objs.size:=λp hp z=>by have:=uA p.1 (Hu hp).1;exact absurd this (by rw[z];exact QW _)
    have Ib:=Ia.turned (h':=h9) (t':=s8.toks) (it:=s2.heap.objs.size) (λb o hb e=>Iy.extBut b o hb e) nD Iw (.inr (Qj _)) (λy c h z=>by
      obtain⟨vv,o,ho,hd⟩:=I8.cell y c h;rw[z,eD]at ho;cases ho;cases hd) (λp hp=>UE p (by have nR:p ∈ []++se fp s5.heap:=hp;simpa using nR))
    have Ic:=Ib.iz (pins':=[(s2.heap.objs.size,i7 (us++[u8]) (cnt+1))]) λp hp=>by
     have e:p=(s2.heap.objs.size,i7 (us++[u8]) (cnt+1)):=by simpa using hp
     subst e;refine⟨?_,nD,Iw,UC,λv z=>nomatch z⟩;show h9.get? s2.heap.objs.size=_;rw[UD];unfold i7;simp
    have Id:=Ir Ic;rw[l6]at Id;have kp:=kept I8;refine⟨m',hm,i+1,ys++[v],us++[u8],cnt+1,H8,Id,T.keep _ _ _ kp.1 λb hb o e=>Iy.extBut b o (λz=>by have:=uA b hb;have z':b=s2.heap.objs.size:=z;exact absurd this (by rw[z'];exact QW _)) e,kp.2,bK.append r3 (.cons r8 .nil),w8⟩
 have hC:(s2.heap.push { cls:=.type "list",dict:=none,data:=.seq ([]:List Value).toArray }).objs.size=s2.heap.objs.size+1:=Zv ..;have fin:=codeAny_compStart_list (loop _ rfl) (T.self X.A 0 _ _ _ xQ (loop _ rfl));dsimp only at fin ⊢;rw[hC];exact fin
theorem cO.locs{k:Nat}(S:cO X k N' scope):∀ y∈scope.names,y.2=.local->scope.names.lookup y.1=some .local:=λy hy e=>by obtain⟨n,kd⟩:=y;have e':kd=.local:=e;subst e';exact Io S.names hy
theorem DL{m:Str->Option Value}{v:Option Value}(hn:h.Ns C m)(hc:h.IsCell c v):c≠C:=λz=>by obtain⟨o,es,ep,ho,hd,_⟩:=hn;obtain⟨o',fm,gF⟩:=hc;rw[z,ho]at fm;cases fm;rw[hd]at gF;cases gF
section
variable {X:Cx}{k:Nat}{N':List Str}{scope:Scope}{elt tg iter:Expr}{ifs:List Expr}{pos:Pos}{wi:TI}{g:TG}{tt:TT}{te:TE}
theorem UG(hc:X.calm=true)(S:cO X k N' scope)(hi:PI X tg iter wi)(hg:∀ C s H fp,PG (iG X N' scope C s H fp) tg g)(ht:∀ C s H fp,wb (iG X N' scope C s H fp) ifs tt)(he:∀ C s H fp,PE (iG X N' scope C s H fp) elt te)
  (hs:∀ x,foldedSetIterable iter X.env x=pure x:=by intro _;rfl):PE X (.ListComp elt [⟨tg,iter,ifs,0⟩] scope pos) (Bm k wi g tt te):=by
 intro Tk s σ H Q I h;rw[eval_ListComp];refine wpAny_comprehension_free (use:=none) rfl hs (Im λy hy e=>?_) S.kind S.locs (bE (hi Tk s σ H _ I h) λv s1 h1=>bE h1 λAV s2 h2=>?_)
 .obtain⟨n,kd⟩:=y;have e':kd=.free:=e;subst e';exact I.ok.has n (S.free hy)
 .obtain⟨it,fp,tn,J,H2,e,I2,T,sf,f2,R⟩:=h2;subst e;refine Iu hc S hg ht he I2 T sf f2 R ?_;intro C ys H' s' m' I' hn hD DM Bn DN DO fin;refine⟨m',hn,λh' uC=>⟨.ref s2.heap.objs.size,_,I'.turned (h':=h') (t':=s'.toks) (it:=C) (λb o hb e=>uC.extBut b o hb e) DM Bn (.inr DN) (λx c h=>?_) (λp hp z=>?_),rfl,fin _ hD⟩⟩
  .obtain⟨v,q⟩:=I'.cell x c h;exact DL hn q
  .have:=Qq (I2.pin p hp).1;exact absurd (JR this DO) (by rw[z];exact QW _)
theorem UH{py j6:Pos}(hN:X.N.Nodup)(hy:X.N[i]? = some y)(hx:Loc X.env.scope y)(uD:swapsWith (.ListComp elt [⟨tg,iter,ifs,0⟩] scope pos) (some (.Name y py)) j6.line X.env=pure true)
  (hc:X.calm=true) (S:cO X k N' scope) (hi:PI X tg iter wi) (hg:∀ C s H fp,PG (iG X N' scope C s H fp) tg g) (ht:∀ C s H fp,wb (iG X N' scope C s H fp) ifs tt) (he:∀ C s H fp,PE (iG X N' scope C s H fp) elt te)
  (hs:∀ x,foldedSetIterable iter X.env x=pure x:=by intro _;rfl) (hf:X.fn y=true\/X.env.scope.names.lookup y=some .local:=by first|exact .inl rfl|exact .inr rfl|assumption) :
  PS X (.Assign [.Name y py] (.ListComp elt [⟨tg,iter,ifs,0⟩] scope pos) j6) (C1 (Bm k wi g tt te) (CZ i)):=by
 intro Tk s σ H D I h;rw[exec_Assign_Name_used _ _ _ _ uD];refine Qa (Vm (Qa ?_));show wpAny _ X.A (do let _ <- comprehension (.ListComp elt [⟨tg,iter,ifs,0⟩] scope pos) scope X.env _ (newList []) false (eval iter X.env) (some (assign (.Name y py) X.env))) _ _ s;refine Qa (ZN (wpAny_comprehension_free (use:=some (assign (.Name y py) X.env)) (Q:=λ_ s'=>SP X Tk D .next s') rfl hs (Im λz hz e=>?_) S.kind S.locs
  (bE (hi Tk s σ H _ I h) λv s1 h1=>bE h1 λAV s2 h2=>?_)) (λ_ s' hq=>Qd (Qd hq)) λ_ _ e=>e)
 .obtain⟨n,kd⟩:=z;have e':kd=.free:=e;subst e';exact I.ok.has n (S.free hz)
 .obtain⟨it,fp,tn,J,H2,e,I2,T,sf,f2,R⟩:=h2;subst e;refine Iu hc S hg ht he I2 T sf f2 R ?_;intro C ys H' s' m' I' hn hD DM Bn DN DO fin;show wpAny _ X.A (assign (.Name y py) X.env (.ref s2.heap.objs.size)) _ _ _;refine wpAny_assign_Name (Hi I' hN hy hx (v:=.ref s2.heap.objs.size) rfl (λsj Iz ⟨a,sb,ha⟩=>?_) hf);have UI:C≠a:=λz=>by
   rcases ha with q|q
   .exact Bn (z.trans q)
   .obtain⟨v,w⟩:=I'.cell y a q;exact DL hn w z.symm
  have Bo:=hn.sameBut sb UI;refine⟨m',Bo,λh' uC=>⟨_,_,Iz.turned (h':=h') (t':=sj.toks) (it:=C) (λb o hb e=>uC.extBut b o hb e) DM Bn (.inr DN) (λx c h=>?_) (λp hp z=>?_),fin _ hD⟩⟩
  .obtain⟨v,q⟩:=Iz.cell x c h;exact DL Bo q
  .have:=Qq (I2.pin p hp).1;exact absurd (JR this DO) (by rw[z];exact QW _)
end
end L2
namespace L3
open PySem PySem.Spec PyProof.Rows PySem.W L2
variable {M:Model}{Q:Tl}{R:Result->Shared->Prop}{T:String}{h:Heap}
section
variable {prog:Program}{w:World}{A:Around}{E:Tl}{s:Shared}{K:Frag}{x C:Addr}{ox:Obj}
structure kK (h:Heap) (x:Addr) (ox:Obj) (C:Addr):Prop where
 at_:h.get? x=some ox
 cls:ox.cls=.ref C
theorem kK.type(I:kK h x ox C):Looks M h (typeOf (.ref x)) (.ref C):=I.cls ▸ (Looks.ld I.at_).andThen .now
structure gH (K:Frag) (C:Addr):Prop where
 ci:(clsIn K C).isSome=true
 ga:findIn K (.ref C) "__getattribute__" = some (some (.builtin "BaseException.__getattribute__"))
 gt:findIn K (.ref C) "__getattr__" = some none
 cl:findIn K (.ref C) "__class__" = some (some (.builtin "object.__class__"))
 cg:specialIn K (.builtin "object.__class__") "__get__" = some (some (.builtin "getset_descriptor.__get__"))
 ct:takesIn K (.builtin "object.__class__")=some true
 mo:mroIn K C (.type "object")=some true
 mb:mroIn K C (.type "BaseException")=some true
theorem UJ(X:K.In h)(I:kK h x ox C)(XC:gH K C):Looks M h (Builtin.ObjectAttr.find (.ref x) (.ref C) "__class__") (.bind (.builtin "getset_descriptor.__get__") (.builtin "object.__class__")):=by have L1:=looks_findIn (M:=M) X XC.cl;have L2:Looks M h (Builtin.ObjectAttr.getOf (some (.builtin "object.__class__"))) _:=looks_specialIn (M:=M) X XC.cg;have L3:=looks_takesIn (M:=M) X XC.ct;exact L1.andThen (L2.andThen ((show Looks M h (Builtin.ObjectAttr.dataDescriptor? (some (.builtin "object.__class__")) (some (.builtin "getset_descriptor.__get__"))) (some ((.builtin "getset_descriptor.__get__"),(.builtin "object.__class__")))from L3.andThen .now).andThen (Looks.tag .now)))
theorem UK{tp:Value}(X:K.In s.heap)(I:kK s.heap x ox C)(hm:mroIn K C (.type "object")=some true)
  (h:R (.ok (.ret (.ref C))) s):codeAny (model prog w) A (.call (.builtin "getset_descriptor.__get__") ⟨[.builtin "object.__class__",.ref x,tp],[]⟩) R s:=by
 obtain⟨hh,g,dr,t,os⟩:=s;have L0:=I.type (M:=model prog w);have L1:=looks_mroIn (M:=model prog w) X hm;refine Jn KF.slot_gs.plain KF.entry_gs (KF.slot_gs.check _ _ _ _ _ _ _ _ KF.type_class (KF.args_gs _ _ _) ?_);unfold Builtin.«getset_descriptor.__get__» Builtin.Getset_descriptor.descrGet;rw[dga_obj];refine Qa (Qd ?_);unfold Builtin.Getset_descriptor.descrGetter Builtin.Getset_descriptor.descrCheckInstance Builtin.Getset_descriptor.descrNameAndClass isInstance;simp only[KF.owner_class]
 repeat lk
 refine⟨Y4 _ (by decide +kernel),Z7 KF.entry_class ?_⟩;unfold Builtin.«object.__class__» shownTypeOf
 repeat lk
 exact h
theorem UL{sD:Value}{Q:Unit->Shared->Prop}(X:K.In s.heap)(I:kK s.heap x ox C)(XC:gH K C)(hq:Q () s):wpAny M A (checkBuiltinCall "BaseException.__getattribute__" ⟨[.ref x,sD],[]⟩) Q E s:=by
 obtain⟨hh,g,d,t,os⟩:=s;have L0:=I.type (M:=M);have L1:=looks_mroIn (M:=M) X XC.mb;have hk:builtinKind "BaseException.__getattribute__" = some .slot:=by decide +kernel
 have uE:splitId "BaseException.__getattribute__" = some ("BaseException","__getattribute__"):=by decide +kernel
 have ha:=PySem.F.args_bexc_ga (.ref x) sD;simp only[checkBuiltinCall,hk,uE];unfold isInstance
 repeat lk
 exact hq
theorem UM{tk:Tok}(X:K.In s.heap)(I:kK s.heap x ox C)(XC:gH K C)(h:R (.ok (.ret (.ref C))) s) :
  codeAny (model prog w) A (.call (.builtin "BaseException.__getattribute__") ⟨[.ref x,.str "__class__" tk],[]⟩) R s:=by refine Jn Y5.ga.plain PySem.F.entry_bexc_ga (UL X I XC ?_);obtain⟨hh,g,d,t,os⟩:=s;have L0:=I.type (M:=model prog w);have L1:=UJ (M:=model prog w) X I XC;show wpAny _ _ (Builtin.«object.__getattribute__» ⟨[.ref x,.str "__class__" tk],[]⟩) _ _ _;refine Qa (Qd ?_);refine Qa (Qd ?_);refine Qa (L0.at (Qa (L1.at ?_)));show wpAny _ _ (holding [.builtin "object.__class__"] (call (.builtin "getset_descriptor.__get__") [.builtin "object.__class__",.ref x,.ref C]) >>= ret) _ _ _;exact Qa (Zq (VC (UK X I XC.mo (Qd h))))
theorem UN{Q:Option Value->Shared->Prop}(X:K.In s.heap)(I:kK s.heap x ox C)(XC:gH K C)(h:Q (some (.ref C)) { s with toks:=s.toks+1 }):wpAny (model prog w) A (getAttr? (.ref x) "__class__") Q E s:=by obtain⟨hh,g,d,t,os⟩:=s;have L0:=I.type (M:=model prog w);have L1:=looks_findIn (M:=model prog w) X XC.ga;have L2:=looks_findIn (M:=model prog w) X XC.gt;have f3:=Y5.ga.bind (.ref x);unfold getAttr? getAttrBy? getAttrBy;refine Qa (wpAny_mkText (Qa (JY (Zq (Qa (L0.at (Qa (L1.at ?_))))))));show wpAny _ _ (getAttrByItsOwn _ _ _ _ _ _) _ _ _;unfold getAttrByItsOwn;refine Qa (L2.at ?_);refine Qa (JY (Zq ?_));show wpAny _ _ (boundAndCalled _ _ _) _ _ _;unfold boundAndCalled;rw[f3];refine Qa (Qd ?_);show wpAny _ _ (call (.builtin "BaseException.__getattribute__") [.ref x,.str "__class__" t]) _ _ _;refine VC (UM (s:=⟨hh,g,d,t+1,os⟩) X I XC ?_);exact handed_on rfl (Qd h)
theorem DP{D:Addr}(X:K.In h)(e:(clsIn K D).isSome=true):Looks M h (isType (.ref D)) true:=by
 unfold clsIn at e;split at e;next c' d' cd' pS ho=>
  intro A' Q' E' s' k q;unfold isType loadHead;exact Qa (wpAny_loadPart (k _ _ (X _ _ ho)) (Qd q))
 .cases e
theorem IA{c:Value}{m7:Int}{tk:Tok}{Q:Fin->Shared->Prop}(X:K.In s.heap)(I:kK s.heap x ox C)(XC:gH K C)(qN:Looks (model prog w) s.heap (typeOf c) (.type "type"))(UO:Looks (model prog w) s.heap (isType c) true)
  (eJ:(Value.ref C==c)=false) (dO:Looks (model prog w) s.heap (isSubtype (.ref C) c) false) (h:Q (.done (.ret (.bool false))) { s with toks:=s.toks+1 }) :
  wpAny (model prog w) A (Builtin.«isinstance.nested» ⟨[.ref x,c,.int m7 tk],[]⟩) Q E s:=by
 have DQ:=DP (M:=model prog w) X XC.ci;obtain⟨h0,g,d,tt,os⟩:=s;have L0:=I.type (M:=model prog w);have LI:Looks (model prog w) h0 (isInstance (.ref x) c) false:=L0.andThen dO;unfold Builtin.«isinstance.nested»;refine Qa (L0.at ?_);rw[Ql (λq=>by rw[eJ]at q;exact Bool.noConfusion q)];refine Qa (qN.at ?_);rw[Qh (by decide)]
 k_delta "plainIsInstance"
 refine Qa (Qa (UO.at ?_));simp only[Zx,Qs,Zm];refine Qa (LI.at ?_);simp only[Qs,Zm];refine Qa (UN X I XC ?_);refine Qa (DQ.at ?_);simp only[Zx,Qs,Zm];refine Qa (JO ?_);refine dO.at ?_
 first
  | exact Qd h
  | exact Qd (Qd h)
  | exact Qa (Qd (Qd h))
theorem UP{D:Addr}(X:K.In s.heap)(I:kK s.heap x ox C)(XC:gH K C)(e:kin_not K C D=true)(h:Q (.bool false) { s with toks:=s.toks+1 }):wpAny (model prog w) A (call (.builtin "isinstance") [.ref x,.ref D]) Q E s:=by
 unfold kin_not at e;rw[Zo,Zo,Zo]at e;obtain⟨⟨⟨e0,e1⟩,e2⟩,e3⟩:=e;have eJ:(Value.ref C==Value.ref D)=false:=Bool.eq_false_iff.mpr λq=>Q5 e0 (Value.ref.inj (ZV.mp q));exact VO (S:=λ_ R s=>(K.In s.heap/\kK s.heap x ox C)/\R (.ok (.ret (.bool false))) { s with toks:=s.toks+1 })
  (λ_ _ _ _ _ hs=>Vw (IA hs.1.1 hs.1.2 XC (looks_typeIn hs.1.1 (ZV.mp e2)) (DP hs.1.1 e1) eJ (V3 hs.1.1 (ZV.mp e3)) hs.2) (by intro q;cases q)) ⟨⟨X,I⟩,h⟩
theorem UQ{D:Addr}(X:K.In s.heap)(I:kK s.heap x ox C)(e:isIn K (.ref C) D=true)(h:Q (.bool true) s):wpAny (model prog w) A (call (.builtin "isinstance") [.ref x,.ref D]) Q E s:=
 isi_call X (λM=>I.type) e (by intro q;cases q) h
theorem UR(X:K.In s.heap)(I:kK s.heap x ox C)(qN:typeOf (.type T)=pure (.type "type"))(e:subIn K (.ref C) (.type T)=some true)(h:Q (.bool true) s):wpAny (model prog w) A (call (.builtin "isinstance") [.ref x,.type T]) Q E s:=
 VO (S:=λ_ R s=>(K.In s.heap/\kK s.heap x ox C)/\R (.ok (.ret (.bool true))) s) (λprog w A R s hs=>Vw (by
  obtain⟨⟨X,I⟩,h⟩:=hs;obtain⟨h0,g,d,tt,os⟩:=s;have L0:=I.type (M:=model prog w);have LI:Looks (model prog w) h0 (isInstance (.ref x) (.type T)) true:=L0.andThen (V3 X e);have hT:Looks (model prog w) h0 (typeOf (.type T)) (.type "type"):=YE qN;have hI:Looks (model prog w) h0 (isType (.type T)) true:=YE rfl;unfold Builtin.«isinstance.nested»;refine Qa (L0.at ?_);rw[Ql (λq=>by cases ZV.mp q)];refine Qa (hT.at ?_);rw[Qh (by decide)]
  k_delta "plainIsInstance"
  refine Qa (Qa (hI.at ?_));simp only[Zx,Qs,Zm];refine Qa (LI.at ?_);simp only[ZE];exact Qd (Qd h)) (by intro q;cases q)) ⟨⟨X,I⟩,h⟩
theorem US(X:K.In s.heap)(I:kK s.heap x ox C)(XC:gH K C)(qN:typeOf (.type T)=pure (.type "type"))(e:subIn K (.ref C) (.type T)=some false)(h:Q (.bool false) { s with toks:=s.toks+1 }):wpAny (model prog w) A (call (.builtin "isinstance") [.ref x,.type T]) Q E s:=
 VO (S:=λ_ R s=>(K.In s.heap/\kK s.heap x ox C)/\R (.ok (.ret (.bool false))) { s with toks:=s.toks+1 })
  (λ_ _ _ _ _ hs=>Vw (IA hs.1.1 hs.1.2 XC (YE qN) (YE rfl) (Bool.eq_false_iff.mpr λq=>by cases ZV.mp q) (V3 hs.1.1 e) hs.2) (by intro q;cases q)) ⟨⟨X,I⟩,h⟩
end
def DR:List Value:=[.type "ValueError",.type "Exception",.type "BaseException",.type "object"]
structure j7 (K:Frag) (nm:Str) (C:Addr):Prop where
 ns:nsIn K mainGlobals nm=some (some (.ref C))
 xc:gH K C
 ex:excIn K C DR "ValueError.__new__" = true
 ve:subIn K (.ref C) (.type "ValueError")=some true
 no:∀ T ∈ ["int","bool","tuple","list","str"],subIn K (.ref C) (.type T)=some false
def XO (K:Frag)(nm:Str)(ob:Obj):Prop:=∃ C,ob.cls=.ref C/\j7 K nm C
end L3
namespace L3
open PySem PySem.Spec PyProof.Rows L2
variable {A:Around}{E:XK}{F:List Addr}{H H' H1 H2:Hp}{K:PySem.W.Frag}{N ps:List Str}{X:Cx}{a p:Addr}{b c:Int}{deep:Bool}{es:List Expr}{fd:FuncData}{h:Int->Int->V}{i n t':Nat}{op:CmpOp}{r:R2}{te:TE}{tg:Expr}{u:Tok}{v:V}{vs xs:List V}{x:HO}{y:Option HO}
theorem Bp:Slot "function" "__getattribute__" "object.__getattribute__" :=
 .of (owner:="object") (n:="__getattribute__") (by rw[YO,JJ];kernel_rfl) (by decide +kernel) (by decide +kernel) (by decide +kernel)
  (by first|exact .inl (by decide +kernel)|exact .inr (by decide +kernel)) (by rw[Jv];kernel_rfl)
theorem UT:typeLookup (.type "function") "__class__" = pure (some (.builtin "object.__class__")):=by rw[YO,JJ];kernel_rfl
theorem UU:isSubtype (.type "function") (.type (".".intercalate ("object.__class__".cutAt '.').dropLast))=pure true:=by rw[PySem.F.owner_object_class,Jv];kernel_rfl
theorem UW:entryFor table "object.__getattribute__" = some Builtin.«object.__getattribute__»:=entryFor_of_tree (by kernel_rfl)
theorem UX(a b:Value):argsOk "object.__getattribute__" ⟨[a,b],[]⟩:=by unfold argsOk;kernel_rfl
section
variable {prog:Program}{w:World}{A:Around}{E:Tl}{s:Shared}{a:Addr}
theorem UY{R:Result->Shared->Prop}(hT:s.TypeIs (.ref a) "function")(hq:R (.ok (.ret (.type "function"))) s) :
  codeAny (model prog w) A (.call (.builtin "getset_descriptor.__get__") ⟨[.builtin "object.__class__",.ref a,.type "function"],[]⟩) R s:=by
 obtain⟨h,g,d,t,os⟩:=s;have h5:(⟨h,g,d,t,os⟩:Shared).TypeIs (.builtin "object.__class__") "getset_descriptor":=JK;have f8:=UU;refine Jn YW.plain PySem.F.entry_gs_get (YW.check _ _ _ _ _ _ _ _ h5 (PySem.F.args_gs_get _ _ _) ?_)
 repeat (any_goals (first|assumption|wp_step))
 refine⟨Y4 _ (by decide +kernel),Z7 PySem.F.entry_object_class ?_⟩
 repeat (any_goals (first|assumption|wp_step))
theorem UZ{Q:Option Value->Shared->Prop}(hT:s.TypeIs (.ref a) "function")(hq:Q (some (.type "function")) { s with toks:=s.toks+1 }):wpAny (model prog w) A (getAttr? (.ref a) "__class__") Q E s:=by
 obtain⟨h,g,d,t,os⟩:=s;have IB:∀ t',(⟨h,g,d,t',os⟩:Shared).TypeIs (.ref a) "function":=λ_=>hT;have en:∀ {tk:Tok} {t':Nat} {Q:Fin->Shared->Prop} {E:Tl} {A:Around},Q (.done (.ret (.type "function"))) ⟨h,g,d,t',os⟩->
   wpAny (model prog w) A (Builtin.«object.__getattribute__» ⟨[.ref a,.str "__class__" tk],[]⟩) Q E ⟨h,g,d,t',os⟩:=by
  intro tk t' Q E A hq;have hT:=IB t';have h5:(⟨h,g,d,t',os⟩:Shared).TypeIs (.builtin "object.__class__") "getset_descriptor":=JK;have f4:=UT;have f5:=JK;have f6:=YW.lookup;have f7:=PySem.F.slot_gs_set.lookup
  repeat (any_goals (first|assumption|wp_step))
  refine UY hT ?_
  repeat (any_goals (first|assumption|wp_step))
 have U0:∀ {tk:Tok} {t':Nat} {Q:Tl} {E:Tl} {A:Around},Q (.type "function") ⟨h,g,d,t',os⟩->wpAny (model prog w) A (getAttrBy (.ref a) (.str "__class__" tk) false) Q E ⟨h,g,d,t',os⟩:=by
  intro tk t' Q E A hq;have hT:=IB t';have f2:=Bp.lookup;have f3:=Bp.bind (.ref a)
  repeat (any_goals (first|assumption|wp_step))
  refine Jn Bp.plain UW (Bp.check _ _ _ _ _ _ _ _ hT (UX _ _) (en ?_))
  repeat (any_goals (first|assumption|wp_step))
 unfold getAttr? getAttrBy?
 repeat (any_goals (first|assumption|with_reducible apply U0 | wp_step))
theorem U1:PySem.W.KitX K (.ref a) (.type "function") (PySem.W.KitAt a "function"):=W.kitx_of W.kitAt_ty (λ{_ _ _ _ _ s} p k=>UZ (by obtain⟨o,h1,h2⟩:=p;exact⟨o,h1,h2⟩) k)
end
theorem nM{α:Type}{P:α->Prop}(a:α)(z:a∈([]:List α)):P a:=nomatch z
inductive MK where
 | t (ks:List (List Key))
 | k (ks:List Key)
 | i (nm:Str) (fs:List Str) (p:Option Addr)
def MK.len:MK->Nat
 | .t ks=>ks.length
 | .k ks=>ks.length
 | .i _ fs _=>fs.length
set_option genInjectivity true in
inductive D where
 | bc|bl (b:Bool)|int (i:Int)|str (x:Str)|tup (ds:List D)|lst (ds:List D)
 | iH (ks:List Str) (ds:List D)
 | exc (nm:Str)
 | ob (f:Addr) (fo:Obj) (vs:List V) (ds:List D)
 | mp (k:MK) (ds:List D)
abbrev St:=L2.St
inductive Ow where
 | s (i:Nat)|t (i:Nat)|f
 deriving DecidableEq
abbrev Wn:=Addr->Option Ow
def KL (K:PySem.W.Frag)(a:Addr)(xs:List V):Prop:=
 ∃ (o:Obj) (ak:Array Value) (n:Nat),K.lookup a=some o/\o.cls=.type "list" /\ o.dict=none/\o.data=.seq ak n/\ak.size<=sizeLine/\bK xs ak.toList
theorem dE.cases(h:dE K H a xs):Rd H a (.lst xs)\/KL K a xs:=h
theorem KL.sq(h:KL K a xs):dE K H a xs:=.inr h
def nS (ks:List Str)(vs:List V):List (Key×V):=(ks.map λx=>(Sum.inr x:Key)).zip vs
def U2 (fo:Obj)(c:Addr)(oc:Obj):Prop:=fo.cls=.type "function" /\ (∃ fd,fo.data=.func fd/\fd.code=.ref c)/\∃ fs q t,oc.data=.fields fs/\fs[1]? = some (.str q t)
structure DS (K:PySem.W.Frag) (C:Addr):Prop where
 cl:L2.A_ K C
 ha:W.findIn K (.ref C) "__class__" = some (some (.builtin "object.__class__"))
 hn:W.specialIn K (.builtin "object.__class__") "__get__" = some (some (.builtin "getset_descriptor.__get__"))
 xR:W.takesIn K (.builtin "object.__class__")=some true
 hm:W.mroIn K C (.type "object")=some true
 no:∀ t∈(["bool","int","tuple","list","str"]:List String),W.kitOne K (.ref C) (.type t)=some false
def MK.Is (K:PySem.W.Frag)(a:Addr):MK->List V->HO->Prop
 | .t ks,vs,x=>x=.dT (ks.zip vs)
 | .k ks,vs,x=>x=.dK (ks.zip vs)
 | .i nm fs p,vs,x=>∃ C dx,W.nsIn K mainGlobals nm=some (some (.ref C))/\x=.ins C dx (fs.zip vs)/\DS K C/\(∀ f∈fs,L2.SK K C f)/\∀ d,p=some d->a=d
mutual
inductive Rep (K:PySem.W.Frag) (H:Hp) (w:Wn) (o:Ow):Nat->D->V->List Addr->Prop
 | bc {q}:Rep K H w o q .bc .bc []
 | bl {q} (b:Bool):Rep K H w o q (.bl b) (.bl b) []
 | int {q} (i:Int):Rep K H w o q (.int i) (.int i) []
 | str {q} (x:Str):Rep K H w o q (.str x) (.str x) []
 | tup {q} {a:Addr} {vs:List V} {ds:List D}:H a=some (.tup vs)->af K H w o 0 ds vs []->Rep K H w o q (.tup ds) (.ref a) []
 | iH {q} {a:Addr} {ks:List Str} {vs:List V} {ds:List D}:H a=some (.dK (nS ks vs))->w a=none->af K H w o 0 ds vs []->Rep K H w o q (.iH ks ds) (.ref a) []
 | exc {q} {a:Addr} {nm:Str} {ob:Obj} {u:HO}:H a=some (.gQ ob u)->XO K nm ob->(∀ xs,u ≠ .lst xs)->Rep K H w o q (.exc nm) (.ref a) []
 | ob {q} {f c:Addr} {fo oc:Obj} {u u':HO} {vs:List V} {ds:List D}:H f=some (.gQ fo u)->H c=some (.gQ oc u')->U2 fo c oc->af K H w o 0 ds vs []->Rep K H w o q (.ob f fo vs ds) (.ref f) []
 | kl {a:Addr} {vs:List V} {ds:List D}:KL K a vs->af K H w o 0 ds vs []->Rep K H w o 0 (.lst ds) (.ref a) []
 | shr {a:Addr} {vs:List V} {ds:List D}:Rd H a (.lst vs)->w a=none->af K H w o 0 ds vs []->Rep K H w o 0 (.lst ds) (.ref a) []
 | own {q} {a:Addr} {vs:List V} {ds:List D} {F:List Addr}:H a=some (.lst vs)->w a=some o->af K H w o q ds vs F->a ∉ F->Rep K H w o (q+1) (.lst ds) (.ref a) (a::F)
 | sE {a:Addr} {vs:List V} {ds:List D} {k:MK} {x:HO}:H a=some x->k.Is K a vs x->w a=none->k.len=ds.length->af K H w o 0 ds vs []->Rep K H w o 0 (.mp k ds) (.ref a) []
 | we {q} {a:Addr} {vs:List V} {ds:List D} {k:MK} {x:HO}:H a=some x->k.Is K a vs x->w a=some o->k.len=ds.length->af K H w o 0 ds vs []->Rep K H w o (q+1) (.mp k ds) (.ref a) [a]
inductive af (K:PySem.W.Frag) (H:Hp) (w:Wn) (o:Ow):Nat->List D->List V->List Addr->Prop
 | nil {q}:af K H w o q [] [] []
 | cons {q} {d:D} {v:V} {ds:List D} {vs:List V} {F G:List Addr}:Rep K H w o q d v F->af K H w o q ds vs G->(∀ a∈F,a ∉ G)->af K H w o q (d::ds) (v::vs) (F++G)
end
def DT:HO->Bool
 | .lst _=>true
 | .dK _=>true
 | .dT _=>true
 | .ins _ _ _=>true
 | _=>false
inductive OX where
 | l (vs:List V)|t (aL:List (List Key×V))|k (aL:List (Key×V))|i (C dx:Addr) (fs:List (Str×V))
def OX.ho:OX->HO
 | .l vs=>.lst vs
 | .t aL=>.dT aL
 | .k aL=>.dK aL
 | .i C dx fs=>.ins C dx fs
theorem OX.is(v:OX):DT v.ho=true:=by cases v<;>rfl
theorem MK.ox{k:MK}(h:k.Is K a vs x):∃ v:OX,x=v.ho:=by
 cases k with
 | t ks=>exact⟨.t _,h⟩
 | k ks=>exact⟨.k _,h⟩
 | i nm fs p=>obtain⟨C,dx,_,h,_⟩:=h;exact⟨.i _ _ _,h⟩
def wg:HO->Bool
 | .kF _=>true
 | _=>false
def Sm (x:HO)(y:Option HO):Prop:=match x with
 | .kF _=>∃ ps,y=some (.kF ps)
 | x=>y=some x
theorem sm(h:y=some x):Sm x y:=by cases x<;>first|exact h|exact⟨_,h⟩
theorem Sm.is(h:Sm x y):∃ z,y=some z/\wg z=wg x:=by cases x<;>first|exact⟨_,h,rfl⟩|(obtain⟨ps,e⟩:=h;exact⟨_,e,rfl⟩)
theorem Sm.eq(h:Sm x y)(n:wg x=false):y=some x:=by cases x<;>first|exact h|cases n
def wj:List Str:=["turned","chain_ladder","flat_ladder","paired","height_of","_law_high"]
structure TB (K:PySem.W.Frag) (H:Hp):Prop where
 tr:∀ P ps,H P=some (.kF ps)->PySem.TriplesOk ps.toList
 cd:∀ P ps,H P=some (.kF ps)->∀ pos cv,PySem.codeAmong pos ps.toList=some cv->∃ c oc u vs q t,cv=.ref c/\H c=some (.gQ oc u)/\oc.data=.fields vs/\vs[1]? = some (.str q t)/\∀ xs,u ≠ .lst xs
 is:∀ x∈wj,∀ c P,W.tabIn K x=some (c,P)->∃ ps,H P=some (.kF ps)
structure WL (K:PySem.W.Frag) (w:Wn) (H:Hp):Prop where
 own:∀ a o,w a=some o->∃ vs:OX,H a=some vs.ho
 tb:TB K H
instance {K:PySem.W.Frag} {w:Wn} {H:Hp}:CoeFun (WL K w H) (λ_=>∀ a o,w a=some o->∃ vs:OX,H a=some vs.ho):=⟨WL.own⟩
theorem TB.upd(t:TB K H)(hx:wg x=false)(hp:H p=none\/∃ vs:OX,H p=some vs.ho):TB K (L2.upd H p x):=by
 have ne:∀ a y,H a=some y->DT y=false->a≠p:=λa y e h z=>by
  subst z;rcases hp with q|⟨vs,q⟩
  .rw[e]at q;cases q
  .rw[e]at q;rw[QI q,vs.is]at h;cases h
 refine⟨λP ps e=>?_,λP ps e pos cv hc=>?_,λx hx c P hP=>by obtain⟨ps,e⟩:=t.is x hx c P hP;exact⟨ps,by rw[bV (ne P _ e rfl)];exact e⟩⟩
 .by_cases hP:P=p
  .subst hP;rw[jh]at e;cases e;cases hx
  .rw[bV hP]at e;exact t.tr P ps e
 .by_cases hP:P=p
  .subst hP;rw[jh]at e;cases e;cases hx
  .rw[bV hP]at e;obtain⟨c,oc,u,vs,q,tt,h1,h2,h3,h4,h5⟩:=t.cd P ps e pos cv hc;exact⟨c,oc,u,vs,q,tt,h1,by rw[bV (ne c _ h2 rfl)];exact h2,h3,h4,h5⟩
def eU (H:Hp)(w:Wn)(H':Hp)(w':Wn):Prop:=∀ a x,H a=some x->w a=none->Sm x (H' a)/\w' a=none
theorem eU.trans{w w1 w2:Wn}(a:eU H w H1 w1)(b:eU H1 w1 H2 w2):eU H w H2 w2:=λc x h n=>by
 obtain⟨s1,n1⟩:=a c x h n;cases ht:wg x with
 | false=>exact b c x (s1.eq ht) n1
 | true=>
  obtain⟨y,e,hy⟩:=s1.is;obtain⟨s2,n2⟩:=b c y e n1;refine⟨?_,n2⟩;rw[ht]at hy;cases x with
  | kF ps=>
   cases y with
   | kF ps'=>exact s2
   | _=>cases hy
  | _=>cases ht
theorem WL.wk{w:Wn}(wl:WL K w H)(e:H a=some x)(h:DT x=false):w a=none:=by
 cases q:w a with
 | none=>rfl
 | some o=>
  obtain⟨vs,e'⟩:=wl a o q;rw[e]at e';rw[QI e',vs.is]at h;cases h
theorem du.go{w w':Wn}(wl:WL K w H)(st:eU H w H' w')(h:du K H a vs):du K H' a vs:=by
 rcases h with(h|⟨o,h⟩)|h
 .exact .inl (.inl (st a _ h (wl.wk h rfl)).1)
 .exact .inl (.inr ⟨o,(st a _ h (wl.wk h rfl)).1⟩)
 .exact .inr h
theorem Bq.go{w w':Wn}(st:eU H w H' w')(n:w a=none)(h:Rd H a (.lst vs)):Rd H' a (.lst vs)/\w' a=none:=by
 rcases h with h|⟨o,h⟩
 .exact⟨.inl (st a _ h n).1,(st a _ h n).2⟩
 .exact⟨.inr ⟨o,(st a _ h n).1⟩,(st a _ h n).2⟩
theorem Rep.go{w w':Wn}{o o':Ow}(wl:WL K w H)(st:eU H w H' w'):∀ {q:Nat} {d:D} {v:V} {F:List Addr},Rep K H w o q d v F->(∀ a∈F,H' a=H a/\w' a=some o')->Rep K H' w' o' q d v F:=by
 intro q d v F r;refine Rep.rec (motive_1:=λq d v F _=>(∀ a∈F,H' a=H a/\w' a=some o')->Rep K H' w' o' q d v F) (motive_2:=λq ds vs F _=>(∀ a∈F,H' a=H a/\w' a=some o')->af K H' w' o' q ds vs F) ?_ ?_ ?_ ?_ ?_ ?_ ?_ ?_ ?_ ?_ ?_ ?_ ?_ ?_ ?_ r
 .intro q _;exact .bc
 .intro q b _;exact .bl b
 .intro q i _;exact .int i
 .intro q x _;exact .str x
 .intro q a vs ds h r ih _;exact .tup (st _ _ h (wl.wk h rfl)).1 (ih nM)
 .intro q a ks vs ds h n r ih _;exact .iH (st _ _ h n).1 (st _ _ h n).2 (ih nM)
 .intro q a nm ob u h x n _;exact .exc (st _ _ h (wl.wk h rfl)).1 x n
 .intro q f c fo oc u u' vs ds h1 h2 x r ih _;exact .ob (st _ _ h1 (wl.wk h1 rfl)).1 (st _ _ h2 (wl.wk h2 rfl)).1 x (ih nM)
 .intro a vs ds h r ih _;exact .kl h (ih nM)
 .intro a vs ds h n r ih _;exact .shr (Bq.go st n h).1 (Bq.go st n h).2 (ih nM)
 .intro q a vs ds F h e r ne ih k;exact .own ((k _ Qg).1.trans h) (k _ Qg).2 (ih λa m=>k a (Qf _ m)) ne
 .intro a vs ds k x h i n l r ih _;have nt:wg x=false:=by obtain⟨v,rfl⟩:=MK.ox i;cases v<;>rfl
  exact .sE ((st _ _ h n).1.eq nt) i (st _ _ h n).2 l (ih nM)
 .intro q a vs ds k x h i e l r ih kk;exact .we ((kk _ Qg).1.trans h) i (kk _ Qg).2 l (ih nM)
 .intro q _;exact .nil
 .intro q d v ds vs F G r s ne qR qS k;exact .cons (qR λa m=>k a (Q2 _ m)) (qS λa m=>k a (Qt _ m)) ne
theorem af.go{w w':Wn}{o o':Ow}(wl:WL K w H)(st:eU H w H' w'):∀ {q:Nat} {ds:List D} {vs:List V} {F:List Addr},af K H w o q ds vs F->(∀ a∈F,H' a=H a/\w' a=some o')->af K H' w' o' q ds vs F
 | _,_,_,_,.nil,_=>.nil
 | _,_,_,_,.cons r s ne,k=>.cons (Rep.go wl st r λa m=>k a (Q2 _ m)) (af.go wl st s λa m=>k a (Qt _ m)) ne
theorem Rep.freeze{w w':Wn}{o o':Ow}(n:∀ a,w a=none->w' a=none):∀ {q:Nat} {d:D} {v:V} {F:List Addr},Rep K H w o q d v F->(∀ a∈F,w' a=none)->Rep K H w' o' 0 d v []:=by
 intro q d v F r;refine Rep.rec (motive_1:=λq d v F _=>(∀ a∈F,w' a=none)->Rep K H w' o' 0 d v []) (motive_2:=λq ds vs F _=>(∀ a∈F,w' a=none)->af K H w' o' 0 ds vs []) ?_ ?_ ?_ ?_ ?_ ?_ ?_ ?_ ?_ ?_ ?_ ?_ ?_ ?_ ?_ r
 .intro q _;exact .bc
 .intro q b _;exact .bl b
 .intro q i _;exact .int i
 .intro q x _;exact .str x
 .intro q a vs ds h r ih _;exact .tup h (ih nM)
 .intro q a ks vs ds h e r ih _;exact .iH h (n _ e) (ih nM)
 .intro q a nm ob u h x n _;exact .exc h x n
 .intro q f c fo oc u u' vs ds h1 h2 x r ih _;exact .ob h1 h2 x (ih nM)
 .intro a vs ds h r ih _;exact .kl h (ih nM)
 .intro a vs ds h e r ih _;exact .shr h (n _ e) (ih nM)
 .intro q a vs ds F h e r ne ih k;exact .shr (Rd.of h) (k _ Qg) (ih λa m=>k a (Qf _ m))
 .intro a vs ds k x h i e l r ih _;exact .sE h i (n _ e) l (ih nM)
 .intro q a vs ds k x h i e l r ih kk;exact .sE h i (kk _ Qg) l (ih nM)
 .intro q _;exact .nil
 .intro q d v ds vs F G r s ne qR qS k;exact .cons (F:=[]) (G:=[]) (qR λa m=>k a (Q2 _ m)) (qS λa m=>k a (Qt _ m)) nM
theorem af.freeze{w w':Wn}{o o':Ow}(n:∀ a,w a=none->w' a=none):∀ {q:Nat} {ds:List D} {vs:List V} {F:List Addr},af K H w o q ds vs F->(∀ a∈F,w' a=none)->af K H w' o' 0 ds vs []
 | _,_,_,_,.nil,_=>.nil
 | _,_,_,_,.cons r s ne,k=>.cons (F:=[]) (G:=[]) (Rep.freeze n r λa m=>k a (Q2 _ m)) (af.freeze n s λa m=>k a (Qt _ m)) nM
theorem Rep.aY{w:Wn}{o:Ow}:∀ {q:Nat} {d:D} {v:V} {F:List Addr},Rep K H w o q d v F->∀ a∈F,w a=some o:=by
 intro q d v F r;refine Rep.rec (motive_1:=λq d v F _=>∀ a∈F,w a=some o) (motive_2:=λq ds vs F _=>∀ a∈F,w a=some o) ?_ ?_ ?_ ?_ ?_ ?_ ?_ ?_ ?_ ?_ ?_ ?_ ?_ ?_ ?_ r
 .intro q a m;exact(QC m).elim
 .intro q b a m;exact(QC m).elim
 .intro q i a m;exact(QC m).elim
 .intro q x a m;exact(QC m).elim
 .intro q a vs ds h r ih b m;exact(QC m).elim
 .intro q a ks vs ds h e r ih b m;exact(QC m).elim
 .intro q a nm ob u h x n b m;exact(QC m).elim
 .intro q f c fo oc u u' vs ds h1 h2 x r ih b m;exact(QC m).elim
 .intro a vs ds h r ih b m;exact(QC m).elim
 .intro a vs ds h e r ih b m;exact(QC m).elim
 .intro q a vs ds F h e r ne ih b m;rcases Qm.mp m with z|z
  .rw[z];exact e
  .exact ih b z
 .intro a vs ds k x h i e l r ih b m;exact(QC m).elim
 .intro q a vs ds k x h i e l r ih b m;rw[Q6.mp m];exact e
 .intro q a m;exact(QC m).elim
 .intro q d v ds vs F G r s ne qR qS a m;rcases Q9.mp m with z|z
  .exact qR a z
  .exact qS a z
theorem af.aY{w:Wn}{o:Ow}:∀ {q:Nat} {ds:List D} {vs:List V} {F:List Addr},af K H w o q ds vs F->∀ a∈F,w a=some o
 | _,_,_,_,.nil,a,m=>(QC m).elim
 | _,_,_,_,.cons r s ne,a,m=>(Q9.mp m).elim (r.aY a) (s.aY a)
def D.df:D->Bool
 | .lst _=>true
 | .mp _ _=>true
 | _=>false
@[simp] theorem D.Br:D.df .bc=false:=rfl
@[simp] theorem D.DU(b:Bool):D.df (.bl b)=false:=rfl
@[simp] theorem D.qT(i:Int):D.df (.int i)=false:=rfl
@[simp] theorem D.Bs(x:Str):D.df (.str x)=false:=rfl
@[simp] theorem D.Bu(ds:List D):D.df (.tup ds)=false:=rfl
@[simp] theorem D.Bv(ks:List Str)(ds:List D):D.df (.iH ks ds)=false:=rfl
@[simp] theorem D.Bw(nm:Str):D.df (.exc nm)=false:=rfl
@[simp] theorem D.DV(f:Addr)(fo:Obj)(vs:List V)(ds:List D):D.df (.ob f fo vs ds)=false:=rfl
@[simp] theorem D.DW(k:MK)(ds:List D):D.df (.mp k ds)=true:=rfl
@[simp] theorem D.Bx(ds:List D):D.df (.lst ds)=true:=rfl
theorem Rep.d_{w:Wn}{o:Ow}{q:Nat}{d:D}(r:Rep K H w o q d v F)(h:d.df=false):F=[]/\∀ q',Rep K H w o q' d v []:=by
 cases r with
 | bc=>exact⟨rfl,λ_=>.bc⟩
 | bl b=>exact⟨rfl,λ_=>.bl b⟩
 | int i=>exact⟨rfl,λ_=>.int i⟩
 | str x=>exact⟨rfl,λ_=>.str x⟩
 | tup h' r'=>exact⟨rfl,λ_=>.tup h' r'⟩
 | iH h' e' r'=>exact⟨rfl,λ_=>.iH h' e' r'⟩
 | exc h' x n=>exact⟨rfl,λ_=>.exc h' x n⟩
 | ob h1 h2 x r=>exact⟨rfl,λ_=>.ob h1 h2 x r⟩
 | kl=>cases h
 | shr=>cases h
 | own=>cases h
 | sE=>cases h
 | we=>cases h
def RL (K:PySem.W.Frag)(H:Hp)(w:Wn)(o:Ow)(a:Addr)(vs:List V)(ds:List D)(F:List Addr):Nat->Prop
 | 0=>(KL K a vs\/Rd H a (.lst vs)/\w a=none)/\af K H w o 0 ds vs []/\F=[]
 | q+1=>∃ F',F=a::F'/\H a=some (.lst vs)/\w a=some o/\af K H w o q ds vs F'/\a ∉ F'
def RI (K:PySem.W.Frag)(H:Hp)(w:Wn)(o:Ow)(q:Nat)(v:V)(F:List Addr):D->Prop
 | .bc=>v=.bc/\F=[]
 | .bl b=>v=.bl b/\F=[]
 | .int i=>v=.int i/\F=[]
 | .str x=>v=.str x/\F=[]
 | .tup ds=>∃ a vs,v=.ref a/\F=[]/\H a=some (.tup vs)/\af K H w o 0 ds vs []
 | .lst ds=>∃ a vs,v=.ref a/\RL K H w o a vs ds F q
 | .exc nm=>∃ a ob u,v=.ref a/\H a=some (.gQ ob u)/\XO K nm ob
 | .iH ks ds=>∃ a vs,v=.ref a/\F=[]/\H a=some (.dK (nS ks vs))/\af K H w o 0 ds vs []
 | _=>True
theorem Rep.inv{w:Wn}{o:Ow}{q:Nat}{d:D}(r:Rep K H w o q d v F):RI K H w o q v F d:=by
 cases r with
 | bc=>exact⟨rfl,rfl⟩
 | bl=>exact⟨rfl,rfl⟩
 | int=>exact⟨rfl,rfl⟩
 | str=>exact⟨rfl,rfl⟩
 | tup h r=>exact⟨_,_,rfl,rfl,h,r⟩
 | iH h _ r=>exact⟨_,_,rfl,rfl,h,r⟩
 | exc h x _=>exact⟨_,_,_,rfl,h,x⟩
 | ob=>trivial
 | kl h r=>exact⟨_,_,rfl,.inl h,r,rfl⟩
 | shr h n r=>exact⟨_,_,rfl,.inr ⟨h,n⟩,r,rfl⟩
 | own h n r m=>exact⟨_,_,rfl,_,rfl,h,n,r,m⟩
 | sE=>trivial
 | we=>trivial
theorem Rep.zero{w:Wn}{o:Ow}{d:D}(r:Rep K H w o 0 d v F):F=[]:=by cases r<;>rfl
theorem af.zero{w:Wn}{o:Ow}:∀ {ds:List D} {vs:List V} {F:List Addr},af K H w o 0 ds vs F->F=[]
 | _,_,_,.nil=>rfl
 | _,_,_,.cons r s _=>by rw[r.zero,s.zero];rfl
theorem af.length{w:Wn}{o:Ow}{q:Nat}:∀ {ds:List D} {vs:List V} {F:List Addr},af K H w o q ds vs F->ds.length=vs.length
 | _,_,_,.nil=>rfl
 | _,_,_,.cons _ s _=>by simp[s.length]
theorem Rep.any{w:Wn}{o o':Ow}{q:Nat}{d:D}(r:Rep K H w o q d v [])(wl:WL K w H):Rep K H w o' q d v []:=
 Rep.go wl (λa x h n=>⟨sm h,n⟩) r nM
theorem af.any{w:Wn}{o o':Ow}{q:Nat}{d:List D}{v:List V}(r:af K H w o q d v [])(wl:WL K w H):af K H w o' q d v []:=
 af.go wl (λa x h n=>⟨sm h,n⟩) r nM
theorem af.get{w:Wn}{o:Ow}:∀ {ds:List D} {vs:List V} {i:Nat} {d:D},af K H w o 0 ds vs []->ds[i]? = some d->∃ v,vs[i]? = some v/\Rep K H w o 0 d v []
 | ds,vs,i,d,r,e=>by
  generalize hF:([]:List Addr)=F at r;cases r with
  | nil=>simp at e
  | @cons _ d' v' m8 m9 F' G' r s _=>
   have h1:F'=[]:=r.zero;have h2:G'=[]:=s.zero;subst h1 h2;cases i with
   | zero=>simp at e;subst e;exact⟨v',rfl,r⟩
   | succ j=>
    obtain⟨v,h1,h2⟩:=af.get (i:=j) (d:=d) s (by simpa using e);exact⟨v,by simpa using h1,h2⟩
theorem af.snoc{w:Wn}{o:Ow}{q:Nat}{d:D}{G:List Addr}(r':Rep K H w o q d v G):∀ {ds:List D} {vs:List V} {F:List Addr},af K H w o q ds vs F->(∀ a∈F,a ∉ G)->af K H w o q (ds++[d]) (vs++[v]) (F++G)
 | _,_,_,.nil,_=>by have:af K H w o q [d] [v] (G++[]):=.cons r' .nil (λa _ z=>nomatch z);simpa using this
 | _,_,_,.cons (F:=F) (G:=F') r s ne,k=>by
  rw[ZB];refine .cons r (af.snoc r' s λa m=>k a (Qt _ m)) λa m z=>?_;rcases Q9.mp z with z|z
  .exact ne a m z
  .exact k a (Q2 _ m) z
abbrev OD:=Option (D×Nat)
abbrev a_:=List (OD)
structure Good (K:PySem.W.Frag) (ρ:a_) (σ:St) (H:Hp) (w:Wn) (t:Nat):Prop where
 wl:WL K w H
 ws:∀ a i,w a=some (.s i)->i<σ.length
 wt:∀ a i,w a=some (.t i)->i<t
 len:ρ.length=σ.length
 slot:∀ (i:Nat) d q,ρ[i]? = some (some (d,q))->∃ v F,σ[i]? = some (some v)/\Rep K H w (.s i) q d v F
structure Go (H:Hp) (w:Wn) (H':Hp) (w':Wn):Prop where
 cu:eU H w H' w'
 keep:∀ a o,w a=some o->(∀ i,o ≠ .s i)->H' a=H a/\w' a=some o
theorem Go.refl{w:Wn}:Go H w H w:=⟨λa x h n=>⟨sm h,n⟩,λa o e _=>⟨rfl,e⟩⟩
theorem Go.trans{w w1 w2:Wn}(a:Go H w H1 w1)(b:Go H1 w1 H2 w2):Go H w H2 w2:=
 ⟨a.cu.trans b.cu,λc o e h=>by obtain⟨h1,w1⟩:=a.keep c o e h;obtain⟨h2,w2⟩:=b.keep c o w1 h;exact⟨h2.trans h1,w2⟩⟩
theorem Rep.gone{w w':Wn}{q:Nat}{d:D}(r:Rep K H w (.t i) q d v F)(wl:WL K w H)(g:Go H w H' w'):Rep K H' w' (.t i) q d v F:=
 Rep.go wl g.cu r λa m=>g.keep a _ (r.aY a m) (λ_ z=>nomatch z)
theorem af.gone{w w':Wn}{q:Nat}{d:List D}{v:List V}(r:af K H w (.t i) q d v F)(wl:WL K w H)(g:Go H w H' w'):af K H' w' (.t i) q d v F:=
 af.go wl g.cu r λa m=>g.keep a _ (r.aY a m) (λ_ z=>nomatch z)
def dv (t:Nat)(w:Wn):Wn:=λa=>match w a with
 | some (.t i)=>if t<=i then none else some (.t i)
 | x=>x
theorem By{t:Nat}{w:Wn}(h:w a=none):dv t w a=none:=by unfold dv;rw[h]
theorem U3{t:Nat}{w:Wn}(h:w a=some (.s i)):dv t w a=some (.s i):=by unfold dv;rw[h]
theorem U4{t:Nat}{w:Wn}(h:w a=some .f):dv t w a=some .f:=by unfold dv;rw[h]
theorem U5{t:Nat}{w:Wn}(h:w a=some (.t i))(hi:i<t):dv t w a=some (.t i):=by unfold dv;rw[h];exact Ql (by omega)
theorem U6{t:Nat}{w:Wn}(h:w a=some (.t i))(hi:t<=i):dv t w a=none:=by unfold dv;rw[h];exact Qh hi
theorem DX{t:Nat}{w:Wn}{o:Ow}(h:dv t w a=some o):w a=some o/\∀ i,o=.t i->i<t:=by
 unfold dv at h;cases e:w a with
 | none=>rw[e]at h;cases h
 | some o'=>
  rw[e]at h;cases o' with
  | s i=>cases h;exact⟨rfl,λi z=>nomatch z⟩
  | f=>cases h;exact⟨rfl,λi z=>nomatch z⟩
  | t i=>
   dsimp only at h;split at h
   .cases h
   .cases h;exact⟨rfl,λj z=>by cases z;omega⟩
theorem Good.drop{ρ:a_}{σ:St}{w:Wn}{t:Nat}(g:Good K ρ σ H w t):Good K ρ σ H (dv t' w) t':=by refine⟨⟨λa o e=>g.wl a o (DX e).1,g.wl.tb⟩,λa i e=>g.ws a i (DX e).1,λa i e=>(DX e).2 i rfl,g.len,λi d q e=>?_⟩;obtain⟨v,F,h1,h2⟩:=g.slot i d q e;exact⟨v,F,h1,Rep.go g.wl (λa x h n=>⟨sm h,By n⟩) h2 λa m=>⟨rfl,U3 (h2.aY a m)⟩⟩
theorem Go.drop{w w':Wn}{t:Nat}(g:Go H w H' w')(wt:∀ a i,w a=some (.t i)->i<t):Go H w H' (dv t w'):=
 ⟨λa x h n=>⟨(g.cu a x h n).1,By (g.cu a x h n).2⟩,λa o e h=>by
   obtain⟨h1,h2⟩:=g.keep a o e h;refine⟨h1,?_⟩;cases o with
   | s i=>exact absurd rfl (h i)
   | f=>exact U4 h2
   | t i=>exact U5 h2 (wt a i e)⟩
theorem Rep.drop{w:Wn}{q:Nat}{d:D}{t:Nat}{o:Ow}(r:Rep K H w (.t t) q d v F)(h:t'<=t):Rep K H (dv t' w) o 0 d v []:=
 Rep.freeze (λa n=>By n) r λa m=>U6 (r.aY a m) h
abbrev aN:=a_->Option (D×Nat×a_)
def tD (K:PySem.W.Frag)(f:aN):TE:=λσ H Q=>∃ ρ w t r q am,Good K ρ σ H w t/\f ρ=some (r,q,am)/\∀ v H' w' F,Good K am σ H' w' (t+1)->Go H w H' w'->Rep K H' w' (.t t) q r v F->Q v H'
theorem PE.imp{e:Expr}{t t':TE}(h:PE X e t)(i:∀ σ H Q,t' σ H Q->t σ H Q):PE X e t':=λTk s σ H Q I q=>h Tk s σ H Q I (i σ H Q q)
abbrev PD (X:Cx)(e:Expr)(f:aN):Prop:=PE X e (tD X.K f)
structure QD (X:Cx) (e:Expr) (f:aN):Prop where mk::o:PD X e f
theorem Good.up{ρ:a_}{σ:St}{w:Wn}{t:Nat}(g:Good K ρ σ H w t):Good K ρ σ H w (t+1):=⟨g.wl,g.ws,λa i e=>ZU (g.wt a i e),g.len,g.slot⟩
@[simp] def dP (d:D):Nat:=if d.df then 0 else 9
theorem Rep.m7{w:Wn}{o:Ow}{d:D}(r:Rep K H w o 0 d v []):Rep K H w o (dP d) d v []:=by
 unfold dP;cases e:d.df with
 | true=>exact r
 | false=>exact(r.d_ e).2 9
section
variable {K:PySem.W.Frag}{σ:St}{H:Hp}{ρ am ac ap:a_}{w:Wn}{t:Nat}{Q:VK}
theorem sF{fa fb:aN}{R:V->V->Hp->Prop}(g:Good K ρ σ H w t){d1 d2:D}{q1 q2:Nat}(e1:fa ρ=some (d1,q1,ac))(e2:fb ac=some (d2,q2,ap))
  (k:∀ x y H2 w2 F1 F2,Good K ap σ H2 w2 (t+2)->Go H w H2 w2->Rep K H2 w2 (.t t) q1 d1 x F1->Rep K H2 w2 (.t (t+1)) q2 d2 y F2->R x y H2) :
  tD K fa σ H λx H1=>tD K fb σ H1 λy H2=>R x y H2:=
 ⟨ρ,w,t,d1,q1,ac,g,e1,λx H1 w1 F1 g1 aV r1=>⟨ac,w1,t+1,d2,q2,ap,g1,e2,λy H2 w2 F2 g2 bZ r2=>k x y H2 w2 F1 F2 g2 (aV.trans bZ) (r1.gone g1.wl bZ) r2⟩⟩
theorem qU{r:D}{q:Nat}{w2:Wn}{t2:Nat}(k:∀ v H' w' F,Good K am σ H' w' (t+1)->Go H w H' w'->Rep K H' w' (.t t) q r v F->Q v H')(g:Good K ρ σ H w t)(g2:Good K am σ H2 w2 t2)(go:Go H w H2 w2)
  (rr:Rep K H2 (dv t w2) (.t t) q r v []):Q v H2:=k v H2 (dv t w2) [] g2.drop.up (go.drop g.wt) rr
def pX (p:Addr)(o:Ow)(w:Wn):Wn:=λa=>if a=p then some o else w a
theorem wm{o:Ow}{w:Wn}:pX p o w p=some o:=Qh rfl
theorem m_{o:Ow}{w:Wn}(h:a≠p):pX p o w a=w a:=Ql h
theorem uF{ds:List D}{w1:Wn}(g:Good K ρ σ H1 w1 t)(hp:H1 p=none)(r:af K H1 w1 .f 0 ds vs []) :
  Good K ρ σ (upd H1 p (.lst vs)) (pX p (.t t) w1) (t+1)/\Go H1 w1 (upd H1 p (.lst vs)) (pX p (.t t) w1)/\Rep K (upd H1 p (.lst vs)) (pX p (.t t) w1) (.t t) 1 (.lst ds) (.ref p) [p]:=by
 have ne:∀ a x,H1 a=some x->a≠p:=λa x e=>ju e hp;have nw:∀ a o,w1 a=some o->a≠p:=λa o e=>by obtain⟨vs,q⟩:=g.wl a o e;exact ne a _ q
 have st:eU H1 w1 (upd H1 p (.lst vs)) (pX p (.t t) w1):=λa x e n=>⟨sm (by rw[bV (ne a x e)];exact e),by rw[m_ (ne a x e)];exact n⟩;refine⟨⟨⟨λa o e=>?_,g.wl.tb.upd rfl (.inl hp)⟩,λa i e=>?_,λa i e=>?_,g.len,λi d q e=>?_⟩,⟨st,λa o e _=>⟨bV (nw a o e),(m_ (nw a o e)).trans e⟩⟩,?_⟩
 .by_cases h:a=p
  .subst h;exact⟨.l vs,jh⟩
  .rw[m_ h]at e;obtain⟨us,q⟩:=g.wl a o e;exact⟨us,by rw[bV h];exact q⟩
 .by_cases h:a=p
  .subst h;rw[wm]at e;cases e
  .rw[m_ h]at e;exact g.ws a i e
 .by_cases h:a=p
  .subst h;rw[wm]at e;cases e;exact ZP _
  .rw[m_ h]at e;exact ZU (g.wt a i e)
 .obtain⟨v,F,h1,h2⟩:=g.slot i d q e;exact⟨v,F,h1,Rep.go g.wl st h2 λa m=>⟨bV (nw a _ (h2.aY a m)),(m_ (nw a _ (h2.aY a m))).trans (h2.aY a m)⟩⟩
 .exact .own jh wm (af.go g.wl st r nM) (λz=>nomatch z)
theorem wq{ds:List D}{w1:Wn}(g:Good K ρ σ H1 w1 t)(hp:H1 p=none)(r:af K H1 w1 .f 0 ds vs []) :
  Good K ρ σ (upd H1 p (.tup vs)) w1 (t+1)/\Go H1 w1 (upd H1 p (.tup vs)) w1/\Rep K (upd H1 p (.tup vs)) w1 (.t t) 9 (.tup ds) (.ref p) []:=by
 have ne:∀ a x,H1 a=some x->a≠p:=λa x e=>ju e hp;have nw:∀ a o,w1 a=some o->a≠p:=λa o e=>by obtain⟨vs,q⟩:=g.wl a o e;exact ne a _ q
 have st:eU H1 w1 (upd H1 p (.tup vs)) w1:=λa x e n=>⟨sm (by rw[bV (ne a x e)];exact e),n⟩;refine⟨⟨⟨λa o e=>?_,g.wl.tb.upd rfl (.inl hp)⟩,g.ws,λa i e=>ZU (g.wt a i e),g.len,λi d q e=>?_⟩,⟨st,λa o e _=>⟨bV (nw a o e),e⟩⟩,?_⟩
 .obtain⟨us,q⟩:=g.wl a o e;exact⟨us,by rw[bV (nw a o e)];exact q⟩
 .obtain⟨v,F,h1,h2⟩:=g.slot i d q e;exact⟨v,F,h1,Rep.go g.wl st h2 λa m=>⟨bV (nw a _ (h2.aY a m)),h2.aY a m⟩⟩
 .exact .tup jh (af.go g.wl st r nM)
end
@[simp] def eC (d:D):aN:=λρ=>some (d,9,ρ)
@[simp] def aa (i:Nat):aN:=λρ=>match ρ[i]? with
 | some (some (d,q))=>if d.df=false then some (d,9,ρ)else if q=0 then some (d,0,ρ)else some (d,0,ρ.set i (some (d,0)))
 | _=>none
section
variable {X:Cx}{a b c e:Expr}{fa fb fc f:aN}{pos:Pos}
theorem yl{d:D}(h:PE X e (tC v))(r:∀ K H w o q,Rep K H w o q d v []):PD X e (eC d):=PE.imp h λσ H Q aj=>by obtain⟨ρ,w,t,r',q,am,g,ee,k⟩:=aj;cases ee;exact k v H w [] g.up Go.refl (r _ _ _ _ _)
theorem aM{i j}:QD X (.Constant (.int i) j pos) (eC (.int i)):=⟨yl Hk λ_ _ _ _ _=>.int i⟩
theorem gS{i j}:QD X (.Constant (.bool i) j pos) (eC (.bl i)):=⟨yl Rf λ_ _ _ _ _=>.bl i⟩
theorem Bz{j}:QD X (.Constant .none j pos) (eC .bc):=⟨yl Rg λ_ _ _ _ _=>.bc⟩
theorem oN{x j}:QD X (.Constant (.str x) j pos) (eC (.str x)):=⟨yl AS λ_ _ _ _ _=>.str x⟩
def jx (i:Nat)(w:Wn):Wn:=λa=>if w a=some (.s i)then none else w a
theorem ym{w:Wn}{a:Addr}(h:w a=none):jx i w a=none:=by unfold jx;rw[h];rfl
theorem IC{w:Wn}{a:Addr}(h:w a=some (.s i)):jx i w a=none:=by unfold jx;rw[Qh h]
theorem wu{w:Wn}{a:Addr}{o:Ow}(h:w a=some o)(n:o ≠ .s i):jx i w a=some o:=by unfold jx;rw[Ql (by rw[h];exact λz=>n (QI z))];exact h
theorem qV{w:Wn}{a:Addr}{o:Ow}(h:jx i w a=some o):w a=some o/\o ≠ .s i:=by
 unfold jx at h;split at h
 .cases h
 .rename_i n;exact⟨h,λz=>n (by rw[h,z])⟩
theorem Good.give{ρ:a_}{σ:St}{w:Wn}{t:Nat}{d:D}{q:Nat}(g:Good K ρ σ H w t)(e:ρ[i]? = some (some (d,q))):Good K (ρ.set i (some (d,0))) σ H (jx i w) t/\Go H w H (jx i w):=by
 have st:eU H w H (jx i w):=λa x h n=>⟨sm h,ym n⟩;refine⟨⟨⟨λa o h=>g.wl a o (qV h).1,g.wl.tb⟩,λa j h=>g.ws a j (qV h).1,λa j h=>g.wt a j (qV h).1,by rw[QL];exact g.len,λj d' q' e'=>?_⟩,⟨st,λa o h n=>⟨rfl,wu h (n i)⟩⟩⟩;by_cases hj:i=j
 .subst hj;rw[QN (Qy.mp e).1]at e';cases e';obtain⟨v,F,h1,h2⟩:=g.slot i d q e;exact⟨v,[],h1,Rep.freeze (λa n=>ym n) h2 λa m=>IC (h2.aY a m)⟩
 .rw[QP hj]at e';obtain⟨v,F,h1,h2⟩:=g.slot j d' q' e';exact⟨v,F,h1,Rep.go g.wl st h2 λa m=>⟨rfl,wu (h2.aY a m) (λz=>hj (by cases z;rfl))⟩⟩
theorem aJ{x:Str}(h:QE X (.Name x pos) (lX i)):QD X (.Name x pos) (aa i):=⟨have h:=h.o;PE.imp h λσ H Q aj=>by
 obtain⟨ρ,w,t,r',q,am,g,ee,k⟩:=aj;unfold aa at ee;split at ee;next d q0 e0=>
  obtain⟨v,F,h1,h2⟩:=g.slot i d q0 e0;refine⟨v,h1,?_⟩;split at ee;next hl=>
   cases ee;obtain⟨hF,hr⟩:=h2.d_ hl;exact k v H w [] g.up Go.refl ((hr 9).any g.wl)
  .split at ee;next hq=>
    subst hq;cases ee;have:=h2.zero;subst this;exact k v H w [] g.up Go.refl (h2.any g.wl)
   .cases ee;obtain⟨g',i8⟩:=g.give e0;refine k v H (jx i w) [] g'.up i8 ?_;exact Rep.freeze (λa n=>ym n) h2 λa m=>IC (h2.aY a m)
 .cases ee⟩
def nc:D->Option V
 | .bc=>some .bc
 | .bl b=>some (.bl b)
 | .int i=>some (.int i)
 | .str x=>some (.str x)
 | _=>none
theorem BA{w:Wn}{o:Ow}{q:Nat}{d:D}(h:nc d=some v):Rep K H w o q d v []:=by
 cases d<;>cases h
 .exact .bc
 .exact .bl _
 .exact .int _
 .exact .str _
@[simp] def e2 (g:D->D->Option D)(fa fb:aN):aN:=λρ=>match fa ρ with
 | some (x,_,ac)=>match fb ac with
  | some (y,_,ap)=>match g x y with
   | some d=>some (d,9,ap)
   | none=>none
  | none=>none
 | none=>none
theorem U7{g:D->D->Option D}{ρ am:a_}{r:D}{q:Nat}(h:e2 g fa fb ρ=some (r,q,am)):∃ x q1 ac y q2,fa ρ=some (x,q1,ac)/\fb ac=some (y,q2,am)/\g x y=some r/\q=9:=by
 unfold e2 at h;split at h;next x q1 ac h1=>
  split at h;next y q2 ap h2=>
   split at h;next d hd=>
    cases h;exact⟨x,q1,ac,y,q2,h1,h2,hd,rfl⟩
   .cases h
  .cases h
 .cases h
theorem sG{g:D->D->Option D}(hg:∀ x y d,g x y=some d->∃ v,nc d=some v/\∀ H w o o' q q' u u' F F',Rep K H w o q x u F->Rep K H w o' q' y u' F'->WL K w H->∀ Q:VK,Q v H->r u u' H Q) :
  ∀ σ H Q,tD K (e2 g fa fb) σ H Q->j5 r (tD K fa) (tD K fb) σ H Q:=λσ H Q aj=>by obtain⟨ρ,w,t,r',q,am,gd,ee,k⟩:=aj;obtain⟨x,q1,ac,y,q2,h1,h2,h3,rfl⟩:=U7 ee;obtain⟨v,hv,hr⟩:=hg x y r' h3;exact sF gd h1 h2 λu u' H2 w2 F1 F2 g2 go r1 r2=>hr H2 w2 _ _ _ _ u u' F1 F2 r1 r2 g2.wl Q (qU k gd g2 go (BA hv))
@[simp] def gI (f:Int->Int->Option D):D->D->Option D
 | .int i,.int j=>f i j
 | _,_=>none
theorem sH{f:Int->Int->Option D}{x y d:D}(h:gI f x y=some d):∃ i j,x=.int i/\y=.int j/\f i j=some d:=by
 unfold gI at h;split at h
 .exact⟨_,_,rfl,rfl,h⟩
 .cases h
theorem eV{w:Wn}{o:Ow}{q:Nat}{i:Int}(r:Rep K H w o q (.int i) v F):v=.int i:=r.inv.1
theorem DY{f:Int->Int->Option D}{C:Int->Int->Prop}(hf:∀ i j d,f i j=some d->C i j/\nc d=some (h i j)) :
  ∀ σ H Q,tD K (e2 (gI f) fa fb) σ H Q->j5 (rI C h) (tD K fa) (tD K fb) σ H Q:=
 sG λx y d e=>by obtain⟨i,j,rfl,rfl,e⟩:=sH e;obtain⟨c,s⟩:=hf i j d e;exact⟨_,s,λH w o o' q q' u u' F F' r1 r2 _ Q hq=>⟨i,j,eV r1,eV r2,c,hq⟩⟩
theorem DZ{f:Int->Int->Option D}(hf:∀ i j d,f i j=some d->nc d=some (h i j)) :
  ∀ σ H Q,tD K (e2 (gI f) fa fb) σ H Q->j5 (lZ h) (tD K fa) (tD K fb) σ H Q:=
 sG λx y d e=>by obtain⟨i,j,rfl,rfl,e⟩:=sH e;exact⟨_,hf i j d e,λH w o o' q q' u u' F F' r1 r2 _ Q hq=>⟨i,j,eV r1,eV r2,hq⟩⟩
@[simp] def cC:D->D->Option D:=gI λi j=>some (.int (i+j))
@[simp] def iX:D->D->Option D:=gI λi j=>if(-(2 ^ 64)<i/\i<2 ^ 64)\/(-(2 ^ 64)<j/\j<2 ^ 64)then some (.int (i*j))else none
@[simp] def BB:D->D->Option D:=gI λi j=>if 0<j/\j<1073741824 then some (.int (i / j))else none
@[simp] def uG:D->D->Option D:=gI λi j=>if 0<j then some (.int (i % j))else none
theorem dQ(ha:QD X a fa)(hb:QD X b fb):QD X (.BinOp a .Add b pos) (e2 cC fa fb):=⟨have ha:=ha.o;have hb:=hb.o;PE.imp (sg Sl ha hb) (DZ λi j d h=>by cases h;rfl)⟩
theorem lg(ha:QD X a fa)(hb:QD X b fb):QD X (.BinOp a .Mult b pos) (e2 iX fa fb):=⟨have ha:=ha.o;have hb:=hb.o;PE.imp (sg Sq ha hb) (DY λi j d h=>by
 split at h
 .cases h;exact⟨by assumption,rfl⟩
 .cases h)⟩
theorem D0(ha:QD X a fa)(hb:QD X b fb):QD X (.BinOp a .FloorDiv b pos) (e2 BB fa fb):=⟨have ha:=ha.o;have hb:=hb.o;PE.imp (sg Sr ha hb) (DY λi j d h=>by
 split at h
 .cases h;exact⟨by assumption,rfl⟩
 .cases h)⟩
theorem wx(ha:QD X a fa)(hb:QD X b fb):QD X (.BinOp a .Mod b pos) (e2 uG fa fb):=⟨have ha:=ha.o;have hb:=hb.o;PE.imp (sg Ss ha hb) (DY λi j d h=>by
 split at h
 .cases h;exact⟨by assumption,rfl⟩
 .cases h)⟩
def dJ:D->Int->Option D
 | .lst ds,i=>fK ds i
 | .tup ds,i=>fK ds i
 | _,_=>none
@[simp] def cZ (fa fb:aN):aN:=λρ=>match fa ρ with
 | some (x,_,ac)=>match fb ac with
  | some (.int i,_,ap)=>match dJ x i with
   | some d=>some (d,dP d,ap)
   | none=>none
  | _=>none
 | none=>none
theorem Rep.qW{w:Wn}{o:Ow}{q:Nat}{ds:List D}(r:Rep K H w o q (.lst ds) v F):∃ a vs q' G,v=.ref a/\dE K H a vs/\af K H w o q' ds vs G:=by
 obtain⟨a,vs,e,h⟩:=r.inv;cases q with
 | zero=>exact⟨a,vs,_,_,e,h.1.elim (·.sq) λh=>.inl h.1,h.2.1⟩
 | succ q=>
  obtain⟨G,_,h,_,r,_⟩:=h;exact⟨a,vs,_,G,e,dE.of h,r⟩
theorem Rep.fV{w:Wn}{o:Ow}{ds:List D}(r:Rep K H w o 0 (.lst ds) v F):∃ a vs,v=.ref a/\dE K H a vs/\af K H w o 0 ds vs []:=by obtain⟨a,vs,e,h,r,_⟩:=r.inv;exact⟨a,vs,e,h.elim (·.sq) λh=>.inl h.1,r⟩
theorem Rep.eX{w:Wn}{o:Ow}{q:Nat}{ds:List D}(r:Rep K H w o q (.tup ds) v F):∃ a vs,v=.ref a/\du K H a vs/\af K H w o 0 ds vs []:=by obtain⟨a,vs,e,_,h,r⟩:=r.inv;exact⟨a,vs,e,du.of h,r⟩
theorem Rep.yn{w:Wn}{o:Ow}{q:Nat}{ds:List D}(r:Rep K H w o q (.tup ds) v F):∃ a vs,v=.ref a/\H a=some (.tup vs)/\af K H w o 0 ds vs []:=by obtain⟨a,vs,e,_,h,r⟩:=r.inv;exact⟨a,vs,e,h,r⟩
theorem af.fK{w:Wn}{o:Ow}{ds:List D}{i:Int}{d:D}(r:af K H w o 0 ds vs [])(h:L2.fK ds i=some d):∃ v,L2.fK vs i=some v/\Rep K H w o 0 d v []:=by
 unfold L2.fK at h ⊢;rw[<- r.length];cases e:k9 ds.length i with
 | none=>rw[e]at h;cases h
 | some j=>
  rw[e]at h;exact r.get h
theorem ig(ha:QD X a fa)(hb:QD X b fb)(hs:v8 b:=by exact λ_ _=>rfl):QD X (.Subscript a b pos) (cZ fa fb):=⟨have ha:=ha.o;have hb:=hb.o;PE.imp (xW xX ha hb hs) λσ H Q aj=>by
 obtain⟨ρ,w,t,r',q,am,gd,ee,k⟩:=aj;unfold cZ at ee;split at ee;next x q1 ac h1=>
  split at ee;next i q2 ap h2=>
   split at ee;next d hd=>
    cases ee;refine sF gd h1 h2 λu u' H2 w2 F1 F2 g2 go r1 r2=>?_;have oO:=eV r2;subst oO;have r0:=r1.drop (o:=.t t) (Qj t);cases x with
    | lst ds=>
     obtain⟨p,vs,rfl,hq,rs⟩:=r0.fV;obtain⟨v,hv,rv⟩:=rs.fK hd;exact .inl ⟨p,vs,i,v,rfl,rfl,hq,hv,qU k gd g2 go rv.m7⟩
    | tup ds=>
     obtain⟨p,vs,rfl,hq,rs⟩:=r0.eX;obtain⟨v,hv,rv⟩:=rs.fK hd;exact .inr (.inl ⟨p,vs,i,v,rfl,rfl,hq,hv,qU k gd g2 go rv.m7⟩)
    | _=>cases hd
   .cases ee
  .cases ee
 .cases ee⟩
abbrev cf:=a_->Option (List D×a_)
def BC (K:PySem.W.Frag)(f:cf):TA:=λσ H Q=>∃ ρ w t ds am,Good K ρ σ H w t/\f ρ=some (ds,am)/\∀ vs H' w',Good K am σ H' w' t->Go H w H' w'->af K H' w' .f 0 ds vs []->Q vs H'
abbrev ID (X:Cx)(es:List Expr)(f:cf):Prop:=PA X es (BC X.K f)
structure gy (X:Cx) (e:List Expr) (f:cf):Prop where mk::o:ID X e f
theorem PA.imp{X:Cx}{e:List Expr}{t t':TA}(h:PA X e t)(i:∀ σ H Q,t' σ H Q->t σ H Q):PA X e t':=λpos Tk s σ H Q I q=>h pos Tk s σ H Q I (i σ H Q q)
@[simp] def gJ:cf:=λρ=>some ([],ρ)
@[simp] def fq (f:aN)(g:cf):cf:=λρ=>match f ρ with
 | some (d,_,ac)=>match g ac with
  | some (ds,ap)=>some (d::ds,ap)
  | none=>none
 | none=>none
theorem ah:gy X [] gJ:=⟨PA.imp oG λσ H Q aj=>by obtain⟨ρ,w,t,ds,am,gd,ee,k⟩:=aj;cases ee;exact k [] H w gd Go.refl .nil⟩
theorem ag{g:cf}(ha:QD X e f)(hr:gy X es g)(hs:starEach (e::es) X.env=(false,eval e X.env)::starEach es X.env:=by rfl):gy X (e::es) (fq f g):=⟨have ha:=ha.o;have hr:=hr.o;PA.imp (l0 ha hr hs) λσ H Q aj=>by
 obtain⟨ρ,w,t,ds,am,gd,ee,k⟩:=aj;unfold fq at ee;split at ee;next d q ac h1=>
  split at ee;next m8 ap h2=>
   cases ee;refine⟨ρ,w,t,d,q,ac,gd,h1,λx H1 w1 F1 g1 aV r1=>⟨ac,dv t w1,t,m8,_,g1.drop,h2,λvs H2 w2 g2 bZ r2=>?_⟩⟩;have gl:=(g1.drop (t':=t)).wl;have r0:Rep X.K H2 w2 .f 0 d x []:=Rep.go gl bZ.cu (r1.drop (o:=.f) (Qj t)) nM;exact k (x::vs) H2 w2 g2 ((aV.drop gd.wt).trans bZ) (.cons (F:=[]) (G:=[]) r0 r2 nM)
  .cases ee
 .cases ee⟩
@[simp] def cR (g:cf):aN:=λρ=>match g ρ with
 | some (ds,ac)=>if ds.length<=1000 then some (.lst ds,1,ac)else none
 | none=>none
@[simp] def dF (g:cf):aN:=λρ=>match g ρ with
 | some (ds,ac)=>if ds.length<=1000 then some (.tup ds,9,ac)else none
 | none=>none
theorem sI(h:n<=1000):n<=sizeLine:=Jx (wa h)
theorem eK{g:cf}(h:gy X es g):QD X (.List es pos) (cR g):=⟨have h:=h.o;PE.imp (SQ h) λσ H Q aj=>by
 obtain⟨ρ,w,t,r',q,am,gd,ee,k⟩:=aj;unfold cR at ee;split at ee;next ds ac h1=>
  split at ee;next hl=>
   cases ee;refine⟨ρ,w,t,ds,_,gd,h1,λvs H1 w1 g1 aV r1=>⟨by rw[<- r1.length];exact sI hl,λp hp=>?_⟩⟩;obtain⟨a1,a2,a3⟩:=uF g1 hp r1;exact k _ _ _ _ a1 (aV.trans a2) a3
  .cases ee
 .cases ee⟩
theorem iA{g:cf}{x1}(h:gy X es g):QD X (.Tuple es x1 pos) (dF g):=⟨have h:=h.o;PE.imp (SO h) λσ H Q aj=>by
 obtain⟨ρ,w,t,r',q,am,gd,ee,k⟩:=aj;unfold dF at ee;split at ee;next ds ac h1=>
  split at ee;next hl=>
   cases ee;refine⟨ρ,w,t,ds,_,gd,h1,λvs H1 w1 g1 aV r1=>⟨by rw[<- r1.length];exact sI hl,λp hp=>?_⟩⟩;obtain⟨a1,a2,a3⟩:=wq g1 hp r1;exact k _ _ _ _ a1 (aV.trans a2) a3
  .cases ee
 .cases ee⟩
def ng (K:PySem.W.Frag)(n:Nat)(F:List D->OD):Sp:=λvs H Q _=>vs.length=n/\∃ ds w r q,(∀ a o,w a=some o->o=.f)/\WL K w H/\af K H w .f 0 ds vs []/\F ds=some (r,q) /\
 ∀ v H' w' Fo,Go H w H' w'->WL K w' H'->Rep K H' w' (.t 0) q r v Fo->Q v H'
@[simp] def aG (F:List D->OD)(n:Nat)(g:cf):aN:=λρ=>match g ρ with
 | some (ds,ac)=>if ds.length=n then match F ds with
  | some (r,q)=>some (r,q,ac)
  | none=>none
  else none
 | none=>none
theorem back{ρ:a_}{σ:St}{w w':Wn}{t q:Nat}{d:D}{Fo:List Addr}(g:Good K ρ σ H w t)
  (go:Go H (λa=>(w a).map λ_=>Ow.f) H' w') (yo:WL K w' H') (r:Rep K H' w' (.t 0) q d v Fo) :
  Good K ρ σ H' (λa=>if a∈Fo then some (.t t)else w a) (t+1)/\Go H w H' (λa=>if a∈Fo then some (.t t)else w a)/\Rep K H' (λa=>if a∈Fo then some (.t t)else w a) (.t t) q d v Fo:=by
 have kf:∀ a o,w a=some o->H' a=H a/\w' a=some .f:=λa o e=>go.keep a .f (by show(w a).map _=_;rw[e];rfl) (λ_ z=>nomatch z);have nf:∀ a x,H a=some x->a ∉ Fo:=λa x e m=>by
  have h1:=r.aY a m;cases ew:w a with
  | none=>
   have:=(go.cu a x e (by show(w a).map _=_;rw[ew];rfl)).2;rw[h1]at this;cases this
  | some o=>rw[(kf a o ew).2]at h1;cases h1
 have nw:∀ a o,w a=some o->a ∉ Fo:=λa o e=>by obtain⟨vs,q⟩:=g.wl a o e;exact nf a _ q
 have st:eU H w H' (λa=>if a∈Fo then some (.t t)else w a):=λa x e n=>⟨(go.cu a x e (by show(w a).map _=_;rw[n];rfl)).1,by show(if a∈Fo then _ else _)=_;rw[Ql (nf a x e)];exact n⟩;have wv:∀ a o,(if a∈Fo then some (Ow.t t)else w a)=some o->(a∈Fo/\o=.t t)\/w a=some o:=λa o e=>by
  split at e
  .cases e;exact .inl ⟨by assumption,rfl⟩
  .exact .inr e
 refine⟨⟨⟨λa o e=>?_,yo.tb⟩,λa i e=>?_,λa i e=>?_,g.len,λi d q e=>?_⟩,⟨st,λa o e _=>⟨(kf a o e).1,by show(if a∈Fo then _ else _)=_;rw[Ql (nw a o e)];exact e⟩⟩,?_⟩
 .rcases wv a o e with⟨m,_⟩|z
  .exact yo a _ (r.aY a m)
  .obtain⟨vs,h⟩:=g.wl a o z;exact⟨vs,(kf a o z).1.trans h⟩
 .rcases wv a _ e with⟨_,z⟩|z
  .cases z
  .exact g.ws a i z
 .rcases wv a _ e with⟨_,z⟩|z
  .cases z;exact ZP _
  .exact ZU (g.wt a i z)
 .obtain⟨v,F,h1,h2⟩:=g.slot i d q e;refine⟨v,F,h1,Rep.go g.wl st h2 λa m=>⟨(kf a _ (h2.aY a m)).1,?_⟩⟩;show(if a∈Fo then _ else _)=_;rw[Ql (nw a _ (h2.aY a m))];exact h2.aY a m
 .refine Rep.go yo (λa x e n=>⟨sm e,?_⟩) r λa m=>⟨rfl,Qh m⟩;show(if a∈Fo then _ else _)=_;rw[Ql (λm=>by have:=r.aY a m;rw[n]at this;cases this)];cases ew:w a with
  | none=>rfl
  | some o=>have:=(kf a o ew).2;rw[n]at this;cases this
theorem U8{CX:oH}{k:Nat}{fn:Addr}{x:Str}{p:Pos}{F:List D->OD}{g:cf}(Fk:fz X.prog X.w X.K X.mg X.base CX k fn fd ps (ng X.K n F))(hr:bC k X.A)(hm:X.mg x=some (.ref fn))(hk:W.keepIn X.K (.ref fn)=true)(hb:qK X.K fd ps [])
  (hx:Ba CX X E) (ha:ID X (e::es) g) (hg:Gl X x:=by rfl) (ib:(x==("__debug__":Str))=false:=by decide) (he:starEach (e::es) X.env=(false,eval e X.env)::starEach es X.env:=by rfl) (cE:(backTo pos (starEach es X.env)).any (·.1)=false:=by rfl) :
  PD X (.Call (.Name x p) (e::es) [] pos) (aG F n g):=PE.imp (HE Fk hr hg hm hk hb .nil hx ha ib he cE) λσ H Q aj=>by
 obtain⟨ρ,w,t,r',q,am,gd,ee,k⟩:=aj;unfold aG at ee;split at ee;next ds ac h1=>
  split at ee;next hn=>
   split at ee;next r0 q0 h2=>
    cases ee;refine⟨ρ,w,t,ds,_,gd,h1,λvs H1 w1 g1 aV r1=>?_⟩;show ng X.K n F (vs++[]) H1 Q E;rw[QX];refine⟨by rw[<- r1.length];exact hn,ds,λa=>(w1 a).map λ_=>Ow.f,r',q,λa o e=>?_,⟨λa o e=>?_,g1.wl.tb⟩,?_,h2,λv H2 w2 Fo bZ yq rr=>?_⟩
    .dsimp only at e;cases ew:w1 a with
     | none=>rw[ew]at e;cases e
     | some o'=>rw[ew]at e;cases e;rfl
    .try dsimp only at e
     cases ew:w1 a with
     | none=>rw[ew]at e;cases e
     | some o'=>exact g1.wl a o' ew
    .exact af.freeze (λa n=>by show(w1 a).map _=_;rw[n];rfl) r1 nM
    .obtain⟨b1,b2,b3⟩:=back g1 bZ yq rr;exact k _ _ _ _ b1 (aV.trans b2) b3
   .cases ee
  .cases ee
 .cases ee
end
abbrev cS:=a_->Option (Bool×a_)
def uH (K:PySem.W.Frag)(f:cS):TT:=λσ H Q=>∃ ρ w t b am,Good K ρ σ H w t/\f ρ=some (b,am)/\∀ H' w',Good K am σ H' w' t->Go H w H' w'->Q b H'
theorem PT.imp{e:Expr}{t t':TT}(h:PT X e t)(i:∀ σ H Q,t' σ H Q->t σ H Q):PT X e t':=λTk s σ H Q I q=>h Tk s σ H Q I (i σ H Q q)
theorem PW.imp{e:Expr}{t t':TT}(h:PW X e t)(i:∀ σ H Q,t' σ H Q->t σ H Q):PW X e t':=λwhole Tk s σ H Q I q=>h whole Tk s σ H Q I (i σ H Q q)
abbrev D1 (X:Cx)(e:Expr)(f:cS):Prop:=PT X e (uH X.K f)
structure iY (X:Cx) (e:Expr) (f:cS):Prop where mk::o:D1 X e f
abbrev U9 (X:Cx)(e:Expr)(f:cS):Prop:=PW X e (uH X.K f)
structure uI (X:Cx) (e:Expr) (f:cS):Prop where mk::o:U9 X e f
@[simp] def U_:D->Option Bool
 | .bc=>some false
 | .bl b=>some b
 | .int i=>some (i != 0)
 | .tup ds=>some (!ds.isEmpty)
 | .lst ds=>some (!ds.isEmpty)
 | .str _=>none
 | .iH _ _=>none
 | .exc _=>none
 | .ob _ _ _ _=>none
 | .mp _ _=>none
@[simp] def eL (f:aN):cS:=λρ=>match f ρ with
 | some (d,_,ac)=>match U_ d with
  | some b=>some (b,ac)
  | none=>none
 | none=>none
section
variable {X:Cx}{a b c e:Expr}{fa fb fc f:aN}{ga gb gc:cS}{pos:Pos}
theorem BD{α β:Type}{l:List α}{l':List β}(h:l.length=l'.length):(!l.isEmpty) = !l'.isEmpty:=by cases l<;>cases l'<;>first|rfl|cases h
theorem iI(ha:QD X a fa)(he:∀ whole,isTrue a X.env whole=(do let v <- whole;standAt a.pos;holding [v] (truthy v)):=by exact λ_=>rfl):iY X a (eL fa):=⟨have ha:=ha.o;PT.imp (SG ha he) λσ H Q aj=>by
 obtain⟨ρ,w,t,b,am,gd,ee,k⟩:=aj;unfold eL at ee;split at ee;next d q ac h1=>
  split at ee;next b' hb=>
   cases ee;refine⟨ρ,w,t,d,q,_,gd,h1,λv H1 w1 F g1 aV r1=>⟨b,?_,k H1 (dv t w1) g1.drop (aV.drop gd.wt)⟩⟩;cases r1 with
   | bc=>cases hb;rfl
   | bl x=>cases hb;rfl
   | int i=>cases hb;rfl
   | str x=>cases hb
   | tup h r=>cases hb;exact .inr (.inl ⟨_,du.of h,BD r.length⟩)
   | iH h e r=>cases hb
   | exc h x n=>cases hb
   | ob h1 h2 x r=>cases hb
   | kl h r=>cases hb;exact .inl ⟨_,h.sq,BD r.length⟩
   | shr h _ r=>cases hb;exact .inl ⟨_,.inl h,BD r.length⟩
   | own h _ r _=>cases hb;exact .inl ⟨_,dE.of h,BD r.length⟩
   | sE h _ _ _ _=>cases hb
   | we h _ _ _ _=>cases hb
  .cases ee
 .cases ee⟩
@[simp] def bg (f:aN):cS:=λρ=>match f ρ with
 | some (.bl b,_,ac)=>some (b,ac)
 | _=>none
theorem IE(h:∀ σ H Q,tD K f σ H Q->te σ H Q):∀ σ H Q,uH K (bg f) σ H Q->Dd te σ H Q:=λσ H Q aj=>by
 obtain⟨ρ,w,t,b,am,gd,ee,k⟩:=aj;unfold bg at ee;split at ee;next b' q ac h1=>
  cases ee;refine h σ H _ ⟨ρ,w,t,.bl b,q,_,gd,h1,λv H1 w1 F g1 aV r1=>?_⟩;exact⟨b,r1.inv.1,k H1 (dv t w1) g1.drop (aV.drop gd.wt)⟩
 .cases ee
theorem sJ{g:D->D->Option D}(ho:dy X (compareOp op) r)(hr:∀ σ H Q,tD X.K (e2 g fa fb) σ H Q->j5 r (tD X.K fa) (tD X.K fb) σ H Q)(ha:PD X a fa)(hb:PD X b fb)(hm:behindInMarks op b=false) :
  D1 X (.Compare a [op] [b] pos) (bg (e2 g fa fb)):=PT.imp (Sz ho ha hb hm) (IE hr)
theorem V_{g:D->D->Option D}(ho:dy X (compareOp op) r)(hr:∀ σ H Q,tD X.K (e2 g fa fb) σ H Q->j5 r (tD X.K fa) (tD X.K fb) σ H Q)(ha:PD X a fa)(hb:PD X b fb)(hm:behindInMarks op b=false) :
  PD X (.Compare a [op] [b] pos) (e2 g fa fb):=PE.imp (Sy ho ha hb hm) hr
@[simp] def oP:D->D->Option D:=gI λi j=>some (.bl (decide (i<j)))
@[simp] def wy:D->D->Option D:=gI λi j=>some (.bl (decide (i<=j)))
@[simp] def uJ:D->D->Option D:=gI λi j=>some (.bl (decide (j<i)))
theorem Wa:∀ σ H Q,tD K (e2 oP fa fb) σ H Q->j5 (lZ λi j=>.bl (decide (i<j))) (tD K fa) (tD K fb) σ H Q:=DZ λi j d h=>by cases h;rfl
theorem Wb:∀ σ H Q,tD K (e2 uJ fa fb) σ H Q->j5 (lZ λi j=>.bl (decide (j<i))) (tD K fa) (tD K fb) σ H Q:=DZ λi j d h=>by cases h;rfl
theorem BE(ha:QD X a fa)(hb:QD X b fb):iY X (.Compare a [.Lt] [b] pos) (bg (e2 oP fa fb)):=⟨have ha:=ha.o;have hb:=hb.o;sJ Hx Wa ha hb (ui _)⟩
theorem D2(ha:QD X a fa)(hb:QD X b fb):iY X (.Compare a [.Gt] [b] pos) (bg (e2 uJ fa fb)):=⟨have ha:=ha.o;have hb:=hb.o;sJ Sx Wb ha hb (ui _)⟩
@[simp] def fL (g:cS):cS:=λρ=>match g ρ with
 | some (b,ac)=>some (!b,ac)
 | none=>none
theorem jT(ha:iY X a ga):iY X (.UnaryOp .Not a pos) (fL ga):=⟨have ha:=ha.o;PT.imp (Ro ha) λσ H Q aj=>by
 obtain⟨ρ,w,t,b,am,gd,ee,k⟩:=aj;unfold fL at ee;split at ee;next b' ac h1=>
  cases ee;exact⟨ρ,w,t,b',_,gd,h1,λH1 w1 g1 aV=>k H1 w1 g1 aV⟩
 .cases ee⟩
@[simp] def lh (g h:cS):cS:=λρ=>match g ρ with
 | some (b,ac)=>if b=true then h ac else some (false,ac)
 | none=>none
@[simp] def j8 (g h:cS):cS:=λρ=>match g ρ with
 | some (b,ac)=>if b=true then some (true,ac)else h ac
 | none=>none
variable {rest:List Expr}
theorem uK(ha:iY X a ga):uI X (.BoolOp .And [a] pos) ga:=⟨have ha:=ha.o;Rk ha⟩
theorem oQ(ha:iY X a ga):uI X (.BoolOp .Or [a] pos) ga:=⟨have ha:=ha.o;Rl ha⟩
theorem sL(ha:iY X a ga)(hb:uI X (.BoolOp .And (b::rest) pos) gb):uI X (.BoolOp .And (a::b::rest) pos) (lh ga gb):=⟨have ha:=ha.o;have hb:=hb.o;PW.imp (Rm ha hb) λσ H Q aj=>by
 obtain⟨ρ,w,t,b,am,gd,ee,k⟩:=aj;unfold lh at ee;split at ee;next b' ac h1=>
  refine⟨ρ,w,t,b',ac,gd,h1,λH1 w1 g1 aV=>?_⟩;split at ee
  .rename_i hb;rw[Qh hb]
   exact⟨ac,w1,t,b,am,g1,ee,λH2 w2 g2 bZ=>k H2 w2 g2 (aV.trans bZ)⟩
  .rename_i hb;rw[Ql hb]
   cases ee;exact k H1 w1 g1 aV
 .cases ee⟩
theorem nT(ha:iY X a ga)(hb:uI X (.BoolOp .Or (b::rest) pos) gb):uI X (.BoolOp .Or (a::b::rest) pos) (j8 ga gb):=⟨have ha:=ha.o;have hb:=hb.o;PW.imp (Rn ha hb) λσ H Q aj=>by
 obtain⟨ρ,w,t,b,am,gd,ee,k⟩:=aj;unfold j8 at ee;split at ee;next b' ac h1=>
  refine⟨ρ,w,t,b',ac,gd,h1,λH1 w1 g1 aV=>?_⟩;split at ee
  .rename_i hb;rw[Qh hb]
   cases ee;exact k H1 w1 g1 aV
  .rename_i hb;rw[Ql hb]
   exact⟨ac,w1,t,b,am,g1,ee,λH2 w2 g2 bZ=>k H2 w2 g2 (aV.trans bZ)⟩
 .cases ee⟩
@[simp] def D3 (g:cS)(fa fb:aN):aN:=λρ=>match g ρ with
 | some (b,ac)=>if b=true then fa ac else fb ac
 | none=>none
theorem Wc(hc:iY X c gc)(ha:QD X a fa)(hb:QD X b fb):QD X (.IfExp c a b pos) (D3 gc fa fb):=⟨have hc:=hc.o;have ha:=ha.o;have hb:=hb.o;PE.imp (Rw hc ha hb) λσ H Q aj=>by
 obtain⟨ρ,w,t,r',q,am,gd,ee,k⟩:=aj;unfold D3 at ee;split at ee;next b' ac h1=>
  refine⟨ρ,w,t,b',ac,gd,h1,λH1 w1 g1 aV=>?_⟩;split at ee
  .rename_i hb;rw[Qh hb]
   exact⟨ac,w1,t,r',q,am,g1,ee,λv H2 w2 F g2 bZ=>k v H2 w2 F g2 (aV.trans bZ)⟩
  .rename_i hb;rw[Ql hb]
   exact⟨ac,w1,t,r',q,am,g1,ee,λv H2 w2 F g2 bZ=>k v H2 w2 F g2 (aV.trans bZ)⟩
 .cases ee⟩
end
inductive Out where
 | nx (ρ:a_)|rt (d:D) (q:Nat)|bk (ρ:a_)|ct (ρ:a_)
abbrev aK:=a_->Option Out
def pY (K:PySem.W.Frag)(Dn:Ends)(n:Nat)(H:Hp)(w:Wn):Out->Prop
 | .nx am=>∀ aX H' w',aX.length=n->Good K am aX H' w' 0->Go H w H' w'->Dn.nx aX H'
 | .bk am=>∀ aX H' w',aX.length=n->Good K am aX H' w' 0->Go H w H' w'->Dn.bk aX H'
 | .ct am=>∀ aX H' w',aX.length=n->Good K am aX H' w' 0->Go H w H' w'->Dn.ct aX H'
 | .rt d q=>∀ v H' w' F,WL K w' H'->Go H w H' w'->Rep K H' w' (.t 0) q d v F->Dn.rt v H'
def BF (K:PySem.W.Frag)(f:aK):TS:=λDn σ H=>∃ ρ w o,Good K ρ σ H w 0/\f ρ=some o/\pY K Dn σ.length H w o
theorem PS.imp{e:Stmt}{t t':TS}(h:PS X e t)(i:∀ D σ H,t' D σ H->t D σ H):PS X e t':=λTk s σ H D I q=>h Tk s σ H D I (i D σ H q)
theorem i3.imp{e:List Stmt}{t t':TS}(h:i3 X e t)(i:∀ D σ H,t' D σ H->t D σ H):i3 X e t':=λTk s σ H D I q=>h Tk s σ H D I (i D σ H q)
abbrev Wd (X:Cx)(st:Stmt)(f:aK):Prop:=PS X st (BF X.K f)
structure l_ (X:Cx) (e:Stmt) (f:aK):Prop where mk::o:Wd X e f
abbrev BG (X:Cx)(st:List Stmt)(f:aK):Prop:=i3 X st (BF X.K f)
structure iJ (X:Cx) (e:List Stmt) (f:aK):Prop where mk::o:BG X e f
@[simp] def cU:aK:=λρ=>some (.nx ρ)
@[simp] def aF (f g:aK):aK:=λρ=>match f ρ with
 | some (.nx ac)=>g ac
 | o=>o
theorem pY.trans{Dn:Ends}{w w1:Wn}(go:Go H w H1 w1):∀ {o:Out},pY K Dn n H w o->pY K Dn n H1 w1 o
 | .nx _,h=>λaX H' w' e g i8=>h aX H' w' e g (go.trans i8)
 | .bk _,h=>λaX H' w' e g i8=>h aX H' w' e g (go.trans i8)
 | .ct _,h=>λaX H' w' e g i8=>h aX H' w' e g (go.trans i8)
 | .rt _ _,h=>λv H' w' F wl i8=>h v H' w' F wl (go.trans i8)
section
variable {X:Cx}{a b c e:Expr}{fa fb fc f:aN}{ga gb gc:cS}{pos:Pos}{st:Stmt}{rest sa sb:List Stmt}{s s':aK}
theorem ef:iJ X [] cU:=⟨i3.imp RC λD σ H aj=>by obtain⟨ρ,w,o,g,ee,k⟩:=aj;cases ee;exact k σ H w rfl g Go.refl⟩
theorem aQ(h1:l_ X st s)(h2:iJ X rest s'):iJ X (st::rest) (aF s s'):=⟨have h1:=h1.o;have h2:=h2.o;i3.imp (RD h1 h2) λD σ H aj=>by
 obtain⟨ρ,w,o,g,ee,k⟩:=aj;unfold aF at ee;split at ee;next ac h1=>
  exact⟨ρ,w,.nx ac,g,h1,λaX H' w' e g' i8=>⟨ac,w',o,g',ee,by rw[e];exact k.trans i8⟩⟩
 next eJ=>
  refine⟨ρ,w,o,g,ee,?_⟩;cases o with
  | nx ac=>exact absurd ee (eJ ac)
  | bk ac=>exact k
  | ct ac=>exact k
  | rt d q=>exact k⟩
theorem aO(h1:l_ X st s):iJ X [st] s:=⟨have h1:=h1.o;Hn h1⟩
@[simp] def bu (f:aN):aK:=λρ=>match f ρ with
 | some (d,q,_)=>some (.rt d q)
 | none=>none
theorem bL(h:QD X e f):l_ X (.Return (some e) pos) (bu f):=⟨have h:=h.o;PS.imp (RJ h) λD σ H aj=>by
 obtain⟨ρ,w,o,g,ee,k⟩:=aj;unfold bu at ee;split at ee;next d q ac h1=>
  cases ee;exact⟨ρ,w,0,d,q,ac,g,h1,λv H' w' F g' i8 r=>k v H' w' F g'.wl i8 r⟩
 .cases ee⟩
@[simp] def cL (g:cS)(s s':aK):aK:=λρ=>match g ρ with
 | some (b,ac)=>if b=true then s ac else s' ac
 | none=>none
theorem el(hc:iY X c gc)(ha:iJ X sa s)(hb:iJ X sb s'):l_ X (.If c sa sb pos) (cL gc s s'):=⟨have hc:=hc.o;have ha:=ha.o;have hb:=hb.o;PS.imp (Hq hc ha hb) λD σ H aj=>by
 obtain⟨ρ,w,o,g,ee,k⟩:=aj;unfold cL at ee;split at ee;next b' ac h1=>
  refine⟨ρ,w,0,b',ac,g,h1,λH1 w1 g1 aV=>?_⟩;split at ee
  .rename_i hb;rw[Qh hb]
   exact⟨ac,w1,o,g1,ee,k.trans aV⟩
  .rename_i hb;rw[Ql hb]
   exact⟨ac,w1,o,g1,ee,k.trans aV⟩
 .cases ee⟩
@[simp] def IF:aK:=λρ=>some (.bk ρ)
theorem We:l_ X (.Break pos) IF:=⟨PS.imp RF λD σ H aj=>by obtain⟨ρ,w,o,g,ee,k⟩:=aj;cases ee;exact k σ H w rfl g Go.refl⟩
def nh (t i:Nat)(w:Wn):Wn:=λa=>if w a=some (.t t)then some (.s i)else if w a=some (.s i)then none else w a
theorem Good.set{ρ:a_}{σ:St}{w:Wn}{q:Nat}{d:D}(g:Good K ρ σ H w 1)(hi:i<σ.length)(r:Rep K H w (.t 0) q d v F) :
  Good K (ρ.set i (some (d,q))) (σ.set i (some v)) H (nh 0 i w) 0/\∀ cb qX,Go cb qX H w->(∀ a j,qX a=some (.t j)->j<0)->Go cb qX H (nh 0 i w):=by
 have mN:∀ a,w a=none->nh 0 i w a=none:=λa e=>by unfold nh;rw[e];rfl
 have mT:∀ a,w a=some (.t 0)->nh 0 i w a=some (.s i):=λa e=>by unfold nh;rw[Qh e]
 have mS:∀ a j,w a=some (.s j)->j≠i->nh 0 i w a=some (.s j):=λa j e n=>by unfold nh;rw[Ql (by rw[e];exact λz=>nomatch z),Ql (by rw[e];intro z;cases z;exact n rfl)];exact e
 have mF:∀ a,w a=some .f->nh 0 i w a=some .f:=λa e=>by unfold nh;rw[Ql (by rw[e];exact λz=>nomatch z),Ql (by rw[e];exact λz=>nomatch z)];exact e
 have mI:∀ a o,nh 0 i w a=some o->(w a=some (.t 0)/\o=.s i)\/(w a=some o/\o ≠ .s i/\o ≠ .t 0):=λa o e=>by
  unfold nh at e;split at e
  .cases e;exact .inl ⟨by assumption,rfl⟩
  next n1=>
   split at e
   .cases e
   .rename_i n2;exact .inr ⟨e,λz=>n2 (by rw[e,z]),λz=>n1 (by rw[e,z])⟩
 have st:eU H w H (nh 0 i w):=λa x h n=>⟨sm h,mN a n⟩;refine⟨⟨⟨λa o e=>?_,g.wl.tb⟩,λa j e=>?_,λa j e=>?_,by rw[QL,QL];exact g.len,λj d' q' e'=>?_⟩,λcb qX go hw=>⟨λa x h n=>⟨(go.cu a x h n).1,mN a (go.cu a x h n).2⟩,λa o e n=>?_⟩⟩
 .rcases mI a o e with⟨z,_⟩|⟨z,_⟩
  .exact g.wl a _ z
  .exact g.wl a _ z
 .rw[QL];rcases mI a _ e with⟨_,z⟩|⟨z,_⟩
  .cases z;exact hi
  .exact g.ws a j z
 .rcases mI a _ e with⟨_,z⟩|⟨z,_,n⟩
  .cases z
  .have:=g.wt a j z;have:j=0:=by omega
   subst this;exact absurd rfl n
 .by_cases hj:i=j
  .subst hj;rw[QN (by rw[g.len];exact hi)]at e';cases e';exact⟨v,F,QN hi,Rep.go g.wl st r λa m=>⟨rfl,mT a (r.aY a m)⟩⟩
  .rw[QP hj]at e';obtain⟨v',F',h1,h2⟩:=g.slot j d' q' e';exact⟨v',F',by rw[QP hj];exact h1,Rep.go g.wl st h2 λa m=>⟨rfl,mS a j (h2.aY a m) (λz=>hj z.symm)⟩⟩
 .obtain⟨h1,h2⟩:=go.keep a o e n;refine⟨h1,?_⟩;cases o with
  | s j=>exact absurd rfl (n j)
  | f=>exact mF a h2
  | t j=>exact absurd (hw a j e) (Ze _)
@[simp] def bA (i:Nat)(f:aN):aK:=λρ=>match f ρ with
 | some (d,q,ac)=>some (.nx (ac.set i (some (d,q))))
 | none=>none
theorem IG{D:Ends}{σ:St}(hi:i<σ.length)(he:∀ Q,tD K f σ H Q->te σ H Q)(h:BF K (bA i f) D σ H):te σ H λx H1=>D.nx (σ.set i (some x)) H1:=by
 obtain⟨ρ,w,o,g,ee,k⟩:=h;unfold bA at ee;split at ee;next d q ac h1=>
  cases ee;refine he _ ⟨ρ,w,0,d,q,ac,g,h1,λv H' w' F g' i8 r=>?_⟩;obtain⟨a1,a2⟩:=g'.set hi r;exact k _ _ _ (by rw[QL]) a1 (a2 _ _ i8 g.wt)
 .cases ee
theorem ck{i:Nat}{x:Str}{pos':Pos}(hN:X.N.Nodup)(he:QD X e f)(hs:swapsWith e (some (.Name x pos')) pos.line X.env=pure false:=by rfl)(hf:X.fn x=true\/X.env.scope.names.lookup x=some .local:=by first|exact .inl rfl|exact .inr rfl)(hi:X.N[i]? = some x:=by rfl)(hx:Loc X.env.scope x:=by first|exact Or.inl rfl|exact Or.inr rfl):l_ X (.Assign [.Name x pos'] e pos) (bA i f):=⟨have he:=he.o;by
 intro Tk s σ H D I h;have hl:i<σ.length:=by rw[I.len];exact(Qy.mp hi).1
 exact Hs (te:=tD X.K f) hN hi hx he hs hf Tk s σ H D I (IG hl (λ_ z=>z) h)⟩
@[simp] def fX (f:aN):aK:=λρ=>match f ρ with
 | some (_,_,ac)=>some (.nx ac)
 | none=>none
theorem jy(he:QD X e f)(hs:swapsWith e none pos.line X.env=pure false:=by rfl):l_ X (.Expr e pos) (fX f):=⟨have he:=he.o;PS.imp (Ho he hs) λD σ H aj=>by
 obtain⟨ρ,w,o,g,ee,k⟩:=aj;unfold fX at ee;split at ee;next d q ac h1=>
  cases ee;exact⟨ρ,w,0,d,q,ac,g,h1,λv H' w' F g' i8 r=>k σ H' (dv 0 w') rfl g'.drop (i8.drop g.wt)⟩
 .cases ee⟩
end
structure Mo (K:PySem.W.Frag) (H H':Hp):Prop where
 mo:∀ a o,H a=some o->H' a=some o
 tb:TB K H->TB K H'
theorem Mo.uM:Mo K H H:=⟨λ_ _ e=>e,λt=>t⟩
structure oR (K:PySem.W.Frag) (J:It) (ds:List D) (P:Hp->Wn->Prop):Prop where
 go:∀ i H w,P H w->i<ds.length->J.go i H
 ug:∀ i H w x H' d,P H w->WL K w H->ds[i]? = some d->J.ug i H x H'->Mo K H H'/\Rep K H' w .f 0 d x []/\P H' w
 stop:∀ H w,P H w->J.stop ds.length H
 st:∀ H w H' w',P H w->WL K w H->eU H w H' w'->P H' w'
abbrev ma:=a_->Option (List D×a_)
def BH (K:PySem.W.Frag)(f:ma):TI:=λσ H R=>∃ ρ w t ds am,Good K ρ σ H w t/\f ρ=some (ds,am) /\
 ∀ J P H' w',Good K am σ H' w' t->Go H w H' w'->oR K J ds P->P H' w'->ds.length<sizeLine->R J H'
theorem PI.imp{e:Expr}{t t':TI}(h:PI X tg e t)(i:∀ σ H R,t' σ H R->t σ H R):PI X tg e t':=λTk s σ H R I q=>h Tk s σ H R I (i σ H R q)
abbrev Wf (X:Cx)(tg e:Expr)(f:ma):Prop:=PI X tg e (BH X.K f)
structure wz (X:Cx) (tg e:Expr) (f:ma):Prop where mk::o:Wf X tg e f
theorem It.list{K:PySem.W.Frag}{a:Addr}{vs:List V}{ds:List D}(hl:ds.length=vs.length):oR K (C3 K a) ds λH w=>(KL K a vs\/(Rd H a (.lst vs)/\w a=none))/\af K H w .f 0 ds vs []:=by
 have sq:∀ {H:Hp} {w:Wn},KL K a vs\/(Rd H a (.lst vs)/\w a=none)->dE K H a vs:=λh=>h.elim (λz=>z.sq) λz=>.inl z.1;refine⟨λi H w p hi=>⟨vs,vs[i],sq p.1,by simp[hl ▸ hi]⟩,λi H w x H' d p wl hd y=>?_,λH w p=>⟨vs,sq p.1,by omega⟩,λH w H' w' p wl st=>?_⟩
 .obtain⟨rfl,hx⟩:=y;obtain⟨v,hv,rv⟩:=p.2.get hd;have:=hx vs (sq p.1);rw[hv]at this;cases this;exact⟨Mo.uM,rv,p⟩
 .refine⟨?_,af.go wl st p.2 nM⟩;rcases p.1 with p|⟨p,n⟩
  .exact .inl p
  .exact .inr (Bq.go st n p)
theorem It.tup{K:PySem.W.Frag}{a:Addr}{vs:List V}{ds:List D}(hl:ds.length=vs.length):oR K (C4 K a) ds λH w=>du K H a vs/\af K H w .f 0 ds vs []:=
 ⟨λi H w p hi=>⟨vs,vs[i],p.1,by simp[hl ▸ hi]⟩,λi H w x H' d p wl hd y=>by obtain⟨rfl,hx⟩:=y;obtain⟨v,hv,rv⟩:=p.2.get hd;have:=hx vs p.1;rw[hv]at this;cases this;exact⟨Mo.uM,rv,p⟩,λH w p=>⟨vs,p.1,by omega⟩,λH w H' w' p wl st=>⟨du.go wl st p.1,af.go wl st p.2 nM⟩⟩
def sM (n:Nat):List V:=(range n).map λi=>.int (Int.ofNat i)
def cM (n:Nat):List D:=(range n).map λi=>.int (Int.ofNat i)
theorem fM(n:Nat):(cM n).length=n:=by simp[cM]
theorem IH(n:Nat):(sM n).length=n:=by simp[sM]
theorem It.range:oR K (AW 0 n) (cM n) λ_ _=>True:=by
 refine⟨λi H w _ hi=>by rw[fM]at hi;exact hi,λi H w x H' d _ _ hd y=>?_,λH w _=>by rw[fM];exact Qj _,λ_ _ _ _ _ _ _=>trivial⟩;have hi:i<n:=by have:=(Qy.mp hd).1;rw[fM]at this;exact this
 have e:x=.int (0+(i:Int)):=y.2;have ed:d=.int (Int.ofNat i):=by
  have:(cM n)[i]? = some (.int (Int.ofNat i)):=by simp[cM,hi]
  rw[hd]at this;exact QI this
 obtain⟨rfl,_⟩:=y;subst ed;rw[e,Int.zero_add];exact⟨Mo.uM,.int _,trivial⟩
theorem BI{w:Wn}{o:Ow}:∀ (ns:List Int),af K H w o 0 (ns.map D.int) (ns.map V.int) []
 | []=>.nil
 | n::r=>.cons (F:=[]) (G:=[]) (.int n) (BI r) nM
theorem Wg{w:Wn}{o:Ow}(n:Nat):af K H w o 0 (cM n) (sM n) []:=by have:=BI (K:=K) (H:=H) (w:=w) (o:=o) ((range n).map Int.ofNat);rw[QO,QO]at this;exact this
section
variable {X:Cx}{tg a b c e:Expr}{fa fb fc f:aN}{ga gb gc:cS}{pos p:Pos}
@[simp] def cP (g:cf):ma:=λρ=>match g ρ with
 | some ([.int n],ac)=>if -1000<=n/\n<=1000 then some (cM n.toNat,ac)else none
 | _=>none
theorem gz{g:cf}(hm:X.mg "range" = none)(ha:gy X [a] g)(hg:Gl X "range":=by rfl)(hs:starEach [a] X.env=[(false,eval a X.env)]:=by rfl):wz X tg (.Call (.Name "range" p) [a] [] pos) (cP g):=⟨have ha:=ha.o;PI.imp (Sb hg hm ha hs) λσ H R aj=>by
 obtain⟨ρ,w,t,ds,am,gd,ee,k⟩:=aj;unfold cP at ee;split at ee;next n ac h1=>
  split at ee;next hn=>
   cases ee;refine⟨ρ,w,t,[.int n],_,gd,h1,λvs H1 w1 g1 aV r1=>?_⟩;have hv:vs=[.int n]:=by
    have l:=r1.length
    match vs,l with
    | [v],_=>
     obtain⟨v',h1,h2⟩:=r1.get (i:=0) rfl;cases h1;rw[eV h2]
   subst hv;refine⟨n,rfl,by omega,by omega,k _ _ H1 w1 g1 aV It.range trivial ?_⟩;rw[fM];exact wa (by omega)
  .cases ee
 .cases ee⟩
def Wh (K:PySem.W.Frag)(tl:TE):TI:=λσ H R=>tl σ H λx H1=>∃ a,x=.ref a/\(((∃ xs,dE K H1 a xs)/\R (C3 K a) H1)\/((∃ xs,du K H1 a xs)/\R (C4 K a) H1))
theorem Wi{l:Expr}{tl:TE}(hl:PE X l tl):PI X tg l (Wh X.K tl):=by
 intro Tk s σ H R I h;refine bE (hl Tk s σ H _ I h) λv s1 ⟨x,H1,I1,r1,q1⟩=>?_;obtain⟨a,e,q⟩:=q1;subst e;cases r1;rcases q with⟨⟨xs,hq⟩,q⟩|⟨⟨xs,hq⟩,q⟩
 .obtain⟨ak,rv,p,hz⟩:=I1.list hq;refine Yl p.isList ?_;refine⟨s1.heap.objs.size,[s1.heap.objs.size],_,_,H1,rfl,I1.kept (t':=s1.toks) λb o e=>Qe _ e,R5 a _,⟨_,Qv _ rfl,rfl,rfl⟩,λb hb=>?_,q⟩;have e:b=s1.heap.objs.size:=by simpa using hb
  subst e;exact I1.qI (Qj _) (I1.aP.fresh (Qj _))
 .obtain⟨ak,rv,p,hz⟩:=I1.tuple hq;refine JA (show s1.heap.IsTuple a ak.toArray from p) ?_;refine⟨s1.heap.objs.size,[s1.heap.objs.size],_,_,H1,rfl,I1.kept (t':=s1.toks) λb o e=>Qe _ e,R6 a _,⟨_,Qv _ rfl,rfl,rfl⟩,λb hb=>?_,q⟩;have e:b=s1.heap.objs.size:=by simpa using hb
  subst e;exact I1.qI (Qj _) (I1.aP.fresh (Qj _))
@[simp] def b8 (f:aN):ma:=λρ=>match f ρ with
 | some (.lst ds,_,ac)=>if ds.length<=1000 then some (ds,ac)else none
 | some (.tup ds,_,ac)=>if ds.length<=1000 then some (ds,ac)else none
 | _=>none
theorem eY(ha:QD X a fa):wz X tg a (b8 fa):=⟨have ha:=ha.o;PI.imp (Wi ha) λσ H R aj=>by
 obtain⟨ρ,w,t,ds,am,gd,ee,k⟩:=aj;unfold b8 at ee;split at ee;next m8 q ac h1=>
  split at ee;next hl=>
   cases ee;refine⟨ρ,w,t,.lst ds,q,am,gd,h1,λv H1 w1 F g1 aV r1=>?_⟩;obtain⟨a,vs,e,h,r,_⟩:=(r1.drop (o:=.f) (Qj t)).inv;exact⟨a,e,.inl ⟨⟨_,h.elim (·.sq) λh=>.inl h.1⟩,k _ _ H1 (dv t w1) g1.drop (aV.drop gd.wt) (It.list r.length) ⟨h,r⟩ (wa hl)⟩⟩
  .cases ee
 next m8 q ac h1=>
  split at ee;next hl=>
   cases ee;refine⟨ρ,w,t,.tup ds,q,am,gd,h1,λv H1 w1 F g1 aV r1=>?_⟩;obtain⟨a,vs,e,h,r⟩:=(r1.drop (o:=.f) (Qj t)).eX;exact⟨a,e,.inr ⟨⟨_,h⟩,k _ _ H1 (dv t w1) g1.drop (aV.drop gd.wt) (It.tup r.length) ⟨h,r⟩ (wa hl)⟩⟩
  .cases ee
 .cases ee⟩
end
abbrev iB:=D->a_->Option a_
def BJ (K:PySem.W.Frag)(b:Nat)(pt:iB):TG:=λv σ H Q=>∃ d ρ w t am,Good K ρ σ H w t/\Rep K H w .f 0 d v []/\pt d ρ=some am/\∀ aX H' w',aX.length=σ.length->(∀ i,i<b->aX[i]? = σ[i]?)->Good K am aX H' w' t->Go H w H' w'->Q aX H'
theorem PG.imp{t t':TG}(h:PG X tg t)(i:∀ v σ H Q,t' v σ H Q->t v σ H Q):PG X tg t':=λTk s σ H v u Q I r q=>h Tk s σ H v u Q I r (i v σ H Q q)
abbrev Wj (X:Cx)(b:Nat)(tg:Expr)(pt:iB):Prop:=PG X tg (BJ X.K b pt)
structure wA (X:Cx) (b:Nat) (e:Expr) (f:iB):Prop where mk::o:Wj X b e f
@[simp] def av (i:Nat):iB:=λd ρ=>if i<ρ.length then some (ρ.set i (some (d,dP d)))else none
theorem Good.oS{ρ:a_}{σ:St}{w:Wn}{t:Nat}{d:D}(g:Good K ρ σ H w t)(hi:i<σ.length)(r:Rep K H w .f 0 d v []) :
  Good K (ρ.set i (some (d,dP d))) (σ.set i (some v)) H (jx i w) t/\Go H w H (jx i w):=by
 have st:eU H w H (jx i w):=λa x h n=>⟨sm h,ym n⟩;refine⟨⟨⟨λa o h=>g.wl a o (qV h).1,g.wl.tb⟩,λa j h=>by rw[QL];exact g.ws a j (qV h).1,λa j h=>g.wt a j (qV h).1,by rw[QL,QL];exact g.len,λj d' q' e'=>?_⟩,⟨st,λa o h n=>⟨rfl,wu h (n i)⟩⟩⟩;by_cases hj:i=j
 .subst hj;rw[QN (by rw[g.len];exact hi)]at e';cases e';exact⟨v,[],QN hi,(Rep.go g.wl st r nM:Rep K H (jx i w) (.s i) 0 d v []).m7⟩
 .rw[QP hj]at e';obtain⟨v',F,h1,h2⟩:=g.slot j d' q' e';exact⟨v',F,by rw[QP hj];exact h1,Rep.go g.wl st h2 λa m=>⟨rfl,wu (h2.aY a m) (λz=>hj (by cases z;rfl))⟩⟩
theorem bG{b i:Nat}{x:Str}{pos:Pos}(hN:X.N.Nodup)(hf:X.fn x=true\/X.env.scope.names.lookup x=some .local:=by first|exact .inl rfl|exact .inr rfl)(hb:b<=i:=by exact Nat.le_of_ble_eq_true rfl)(hi:X.N[i]? = some x:=by rfl)(hx:Loc X.env.scope x:=by first|exact Or.inl rfl|exact Or.inr rfl):wA X b (.Name x pos) (av i):=⟨PG.imp (RO hN hi hx hf) λv σ H Q aj=>by
 obtain⟨d,ρ,w,t,am,g,r,e,k⟩:=aj;unfold av at e;split at e;next hl=>
  cases e;obtain⟨a1,a2⟩:=g.oS (by rw[<- g.len];exact hl) r;exact k _ _ _ (by rw[QL]) (λj hj=>QP (by omega)) a1 a2
 .cases e⟩
def fY (pt:iB)(body:aK):List D->a_->Option Out
 | [],ρ=>some (.nx ρ)
 | d::ds,ρ=>match pt d ρ with
  | none=>none
  | some ac=>match body ac with
   | some (.nx ap)=>fY pt body ds ap
   | some (.ct ap)=>fY pt body ds ap
   | some (.bk ap)=>some (.nx ap)
   | o=>o
@[simp] def eP (it:ma)(pt:iB)(body:aK):aK:=λρ=>match it ρ with
 | some (ds,ac)=>fY pt body ds ac
 | none=>none
theorem af.lj{w w':Wn}{ds:List D}(r:af K H w .f 0 ds vs [])(wl:WL K w H)(st:eU H w H' w'):af K H' w' .f 0 ds vs []:=af.go wl st r nM
theorem Rep.lj{w w':Wn}{ds:D}{vs:V}(r:Rep K H w .f 0 ds vs [])(wl:WL K w H)(st:eU H w H' w'):Rep K H' w' .f 0 ds vs []:=Rep.go wl st r nM
theorem af.sN{w:Wn}:∀ {ds:List D} {vs:List V} (i:Nat),af K H w .f 0 ds vs []->af K H w .f 0 (ds.drop i) (vs.drop i) []
 | _,_,0,r=>r
 | ds,vs,i+1,r=>by
  generalize hF:([]:List Addr)=F at r;cases r with
  | nil=>exact .nil
  | cons r s _=>
   have h2:=s.zero;have h1:=r.zero;subst h2;subst h1;exact af.sN i s
theorem Good.more{ρ:a_}{σ:St}{w:Wn}{t:Nat}(g:Good K ρ σ H w t)(hm:Mo K H H'):Good K ρ σ H' w t/\Go H w H' w:=by
 have h:=hm.mo;have st:eU H w H' w:=λa x e n=>⟨sm (h a x e),n⟩;have kp:∀ a o,w a=some o->H' a=H a:=λa o e=>by obtain⟨vs,q⟩:=g.wl a o e;rw[q,h a _ q]
 refine⟨⟨⟨λa o e=>?_,hm.tb g.wl.tb⟩,g.ws,g.wt,g.len,λi d q e=>?_⟩,st,λa o e _=>⟨kp a o e,e⟩⟩
 .obtain⟨vs,q⟩:=g.wl a o e;exact⟨vs,h a _ q⟩
 .obtain⟨v,F,h1,h2⟩:=g.slot i d q e;exact⟨v,F,h1,Rep.go g.wl st h2 λa m=>⟨kp a _ (h2.aY a m),h2.aY a m⟩⟩
theorem ij{iter:Expr}{body:List Stmt}{it:ma}{pt:iB}{s:aK}{pos:Pos}(hp:PassesOwn (model X.prog X.w) X.A X.env X.xe)(hc:X.calm=true)(hi:wz X tg iter it)(hg:wA X 0 tg pt)(hb:iJ X body s)(hs:∀ x,foldedSetIterable iter X.env x=pure x:=by intro _;rfl):l_ X (.For tg iter body [] pos) (eP it pt s):=⟨have hi:=hi.o;have hg:=hg.o;have hb:=hb.o;PS.imp (Se hp hc hi hg hb hs) λD σ H aj=>by
 obtain⟨ρ,w,o,g,ee,k⟩:=aj;unfold eP at ee;split at ee;next ds ac h1=>
  refine⟨ρ,w,0,ds,ac,g,h1,λJ P H1 w1 g1 aV ok p1 hl=>?_⟩;refine⟨λi m aX H'=>m=ds.length-i/\i<=ds.length/\aX.length=σ.length/\∃ am w',Good X.K am aX H' w' 0/\P H' w'/\fY pt s (ds.drop i) am=some o/\pY X.K D σ.length H' w' o,
   ⟨ds.length,by simp,Q1 _,rfl,ac,w1,g1,p1,ee,k.trans aV⟩,?_⟩
  rintro i m aX H' ⟨rfl,uN,jz,am,w',g',p',e',k'⟩;by_cases dz:i<ds.length
  .refine .inr ⟨ok.go i H' w' p' dz,λoE H2=>ds.length-(i+1)=ds.length-(i+1)/\i+1<=ds.length/\oE.length=σ.length/\∃ ap w2,Good X.K ap oE H2 w2 0/\P H2 w2/\fY pt s (ds.drop (i+1)) ap=some o/\pY X.K D σ.length H2 w2 o,
    λoE H2 n2=>⟨ds.length-(i+1),by omega,n2⟩,λx H2 hy=>?_⟩
   obtain⟨mo,rx,p2⟩:=ok.ug i H' w' x H2 ds[i] p' g'.wl (Qc dz) hy;obtain⟨g2,bZ⟩:=g'.more mo;have ed:ds.drop i=ds[i]::ds.drop (i+1):=Vf dz;rw[ed]at e';unfold fY at e';split at e'
   .cases e'
   next gT h3=>
    refine⟨ds[i],am,w',0,gT,g2,rx,h3,λwc H4 w4 l4 _ g4 oT=>?_⟩;have p4:=ok.st _ _ _ _ p2 g2.wl oT.cu;have nx:∀ {jU:a_},fY pt s (ds.drop (i+1)) jU=some o->∀ lq H5 w5,lq.length=wc.length->Good X.K jU lq H5 w5 0->Go H4 w4 H5 w5->ds.length-(i+1)=ds.length-(i+1)/\i+1<=ds.length/\lq.length=σ.length/\∃ ap w2,Good X.K ap lq H5 w2 0/\P H5 w2/\fY pt s (ds.drop (i+1)) ap=some o/\pY X.K D σ.length H5 w2 o:=λ{jU} e5 lq H5 w5 l5 g5 jA=>
     ⟨rfl,dz,by rw[l5,l4,jz],jU,w5,g5,ok.st _ _ _ _ p4 g4.wl jA.cu,e5,k'.trans ((bZ.trans oT).trans jA)⟩
    cases h6:s gT with
    | none=>rw[h6]at e';cases e'
    | some o6=>
     rw[h6]at e';refine⟨gT,w4,o6,g4,h6,?_⟩;cases o6 with
     | nx jU=>exact nx e'
     | ct jU=>exact nx e'
     | bk jU=>
      cases e';exact λlq H5 w5 l5 g5 jA=>k' lq H5 w5 (by rw[l5,l4,jz]) g5 ((bZ.trans oT).trans jA)
     | rt d q=>
      cases e';exact λv H5 w5 F D4 jA r5=>k' v H5 w5 F D4 ((bZ.trans oT).trans jA) r5
  .have bW:i=ds.length:=Nat.le_antisymm uN (Nat.not_lt.mp dz);subst bW;refine .inl ⟨ok.stop H' w' p',?_⟩;have ed:ds.drop ds.length=[]:=by simp
   rw[ed]at e';cases e';exact k' aX H' w' jz g' Go.refl
 .cases ee⟩
@[simp] def nU (n:Nat)(ds:List D):a_:=ds.map (λd=>some (d,dP d))++replicate (n-ds.length) none
@[simp] def bX (n:Nat)(body:aK):List D->OD:=λds=>match body (nU n ds)with
 | some (.rt d q)=>some (d,q)
 | some (.nx _)=>some (.bc,9)
 | _=>none
theorem D5{w:Wn}{ds:List D}(hw:∀ a o,w a=some o->o=.f)(wl:WL K w H)(r:af K H w .f 0 ds vs []):Good K (nU N.length ds) (start N vs) H w 0:=by
 refine⟨wl,(λa i e=>by cases (hw a _ e)),(λa i e=>by cases (hw a _ e)),?_,λi d q e=>?_⟩
 .unfold nU L2.start;rw[Qk,Qk,Qb,Qb,ZL,ZL,r.length]
 .unfold nU at e;by_cases hi:i<ds.length
  .rw[QU (by simpa using hi),Qp]at e;cases h:ds[i]? with
   | none=>rw[h]at e;cases e
   | some d'=>
    rw[h]at e;cases e;obtain⟨v,hv,rv⟩:=r.get h;refine⟨v,[],?_,(rv.any wl:Rep K H w (.s i) 0 d v []).m7⟩;unfold L2.start;rw[QU (by rw[Qb,<- r.length];exact hi),Qp,hv];rfl
  .rw[Zk (by simpa using hi),Z3]at e;split at e<;>cases e
theorem Wk{body:aK}{Q:VK}(h:ng K n (bX N.length body) vs H Q E):BF K body { nx:=λ_ H'=>Q .bc H',rt:=Q } (start N vs) H:=by
 obtain⟨hn,ds,w,r,q,hw,wl,rs,e,k⟩:=h;unfold bX at e;split at e;next d q' h1=>
  cases e;exact⟨_,w,_,D5 hw wl rs,h1,λv H' w' F yo i8 r'=>k v H' w' F i8 yo r'⟩
 next am h1=>
  cases e;exact⟨_,w,_,D5 hw wl rs,h1,λaX H' w' _ g' i8=>k .bc H' w' [] i8 g'.wl .bc⟩
 .cases e
theorem II{P:Program}{wd:World}{mg:Str->Option Value}{base:Heap}{x qual:Str}{st:Stmt}{f:Addr}{k:Nat}{body:aK}(F:oM K x qual st f fd)(S:ae N ps (bw st))
  (h:∀ (cB:Value) (A:Around) (outer:List Env) (s:Shared) (H:Hp) (E:XK),bC k (A.deeper (envOfC qual (bw st) s.heap.objs.size f cB))->BG (nP kJ P wd K mg base N qual (bw st) f cB A outer s H E).j4 (kI st) body) :
  fz P wd K mg base kJ (k+1) f fd ps (ng K ps.length (bX N.length body)):=
 F.ok S (λvs H Q E h=>h.1) λcB A outer s H vs Q E hr k8=>⟨_,h cB A outer s H E hr,Wk k8⟩
def j9 (k:Nat)(pt:iB)(tt:cS)(te:aN)(deep:Bool):List D->a_->Option (List D×a_)
 | [],ρ=>some ([],ρ)
 | d::ds,ρ=>match pt d (ρ++replicate k none)with
  | none=>none
  | some ac=>match tt ac with
   | none=>none
   | some (b,ap)=>if b=true then(match te ap with
     | none=>none
     | some (v,q,gT)=>if deep=true/\v.df=true/\q≠1 then none else match j9 k pt tt te deep ds (gT.take ρ.length)with
      | none=>none
      | some (vs,BK)=>some (v::vs,BK))
    else j9 k pt tt te deep ds (ap.take ρ.length)
@[simp] def cQ (k:Nat)(it:ma)(pt:iB)(tt:cS)(te:aN)(deep:Bool):aN:=λρ=>match it ρ with
 | some (ds,ac)=>match j9 k pt tt te deep ds ac with
  | some (vs,ap)=>some (.lst vs,if deep=true then 2 else 1,ap)
  | none=>none
 | none=>none
@[simp] def cN:cS:=λρ=>some (true,ρ)
theorem Good.ext{ρ:a_}{σ:St}{w:Wn}{t:Nat}(g:Good K ρ σ H w t)(k:Nat):Good K (ρ++replicate k none) (σ++replicate k none) H w t:=by
 refine⟨g.wl,λa i e=>by rw[Qk];exact Qx (g.ws a i e) (Z0 _ _),g.wt,by rw[Qk,Qk,ZL,ZL,g.len],λi d q e=>?_⟩;by_cases hi:i<ρ.length
 .rw[QU hi]at e;obtain⟨v,F,h1,h2⟩:=g.slot i d q e;exact⟨v,F,by rw[QU (by rw[<- g.len];exact hi)];exact h1,h2⟩
 .rw[Zk (by omega),Z3]at e;split at e<;>cases e
def oU (n:Nat)(w:Wn):Wn:=λa=>match w a with
 | some (.s i)=>if n<=i then none else some (.s i)
 | x=>x
theorem Wl{w:Wn}(h:w a=none):oU n w a=none:=by unfold oU;rw[h]
theorem Wm{w:Wn}(h:w a=some (.s i))(hi:i<n):oU n w a=some (.s i):=by unfold oU;rw[h];exact Ql (by omega)
theorem Wo{w:Wn}{o:Ow}(h:w a=some o)(hn:∀ i,o ≠ .s i):oU n w a=some o:=by
 unfold oU;rw[h];cases o with
 | s i=>exact absurd rfl (hn i)
 | t i=>rfl
 | f=>rfl
theorem D6{w:Wn}{o:Ow}(h:oU n w a=some o):w a=some o/\∀ i,o=.s i->i<n:=by
 unfold oU at h;cases e:w a with
 | none=>rw[e]at h;cases h
 | some o'=>
  rw[e]at h;cases o' with
  | t i=>cases h;exact⟨rfl,λi z=>nomatch z⟩
  | f=>cases h;exact⟨rfl,λi z=>nomatch z⟩
  | s i=>
   dsimp only at h;split at h
   .cases h
   .cases h;exact⟨rfl,λj z=>by cases z;omega⟩
theorem Good.cut{ρ:a_}{σ τ:St}{w:Wn}{t:Nat}(g:Good K ρ (σ++τ) H w t):Good K (ρ.take σ.length) σ H (oU σ.length w) t/\Go H w H (oU σ.length w):=by
 have st:eU H w H (oU σ.length w):=λa x h n=>⟨sm h,Wl n⟩;refine⟨⟨⟨λa o e=>g.wl a o (D6 e).1,g.wl.tb⟩,λa i e=>(D6 e).2 i rfl,λa i e=>g.wt a i (D6 e).1,?_,λi d q e=>?_⟩,⟨st,λa o e n=>⟨rfl,Wo e n⟩⟩⟩
 .rw[Zg,g.len,Qk];omega
 .by_cases hi:i<σ.length
  .rw[Z2 hi]at e;obtain⟨v,F,h1,h2⟩:=g.slot i d q e;rw[QU hi]at h1;exact⟨v,F,h1,Rep.go g.wl st h2 λa m=>⟨rfl,Wm (h2.aY a m) hi⟩⟩
  .rw[Y6 (by omega)]at e;cases e
theorem Wp{σ aX τ:St}(l:aX.length=(σ++τ).length)(h:∀ i,i<σ.length->aX[i]? = (σ++τ)[i]?):∃ IJ,aX=σ++IJ/\IJ.length=τ.length:=by
 refine⟨aX.drop σ.length,?_,by rw[ZZ,l,Qk];omega⟩;have e:aX.take σ.length=σ:=by
  apply Zp;intro i;by_cases hi:i<σ.length
  .rw[Z2 hi,h i hi,QU hi]
  .rw[Y6 (by omega),Qz (by omega)]
 conv=>lhs;rw[<- Jh σ.length aX,e]
def dq (deep:Bool):Nat:=if deep=true then 1 else 0
def kL (deep:Bool)(t:Nat)(w:Wn):Wn:=λa=>if w a=some (.t (t+1))then(if deep=true then some (.t t)else none)else w a
theorem Wq{ρ:a_}{σ:St}{w:Wn}{t q:Nat}{d:D}(g:Good K ρ σ H w (t+2))(r:Rep K H w (.t (t+1)) q d v F)(hq:¬ (deep=true/\d.df=true/\q≠1)) :
  Good K ρ σ H (kL deep t w) (t+1)/\(∃ F',Rep K H (kL deep t w) (.t t) (dq deep) d v F'/\∀ a∈F',w a=some (.t (t+1)))/\eU H w H (kL deep t w)/\(∀ a o,w a=some o->o ≠ .t (t+1)->kL deep t w a=some o):=by
 have hN:∀ a,w a=none->kL deep t w a=none:=λa e=>by unfold kL;rw[e];rfl
 have hO:∀ a o,w a=some o->o ≠ .t (t+1)->kL deep t w a=some o:=λa o e n=>by unfold kL;rw[Ql (by rw[e];exact λz=>n (QI z))];exact e
 have hI:∀ a o,kL deep t w a=some o->(w a=some (.t (t+1))/\o=.t t)\/(w a=some o/\o ≠ .t (t+1)):=λa o e=>by
  unfold kL at e;split at e
  .split at e
   .cases e;exact .inl ⟨by assumption,rfl⟩
   .cases e
  .rename_i n;exact .inr ⟨e,λz=>n (by rw[e,z])⟩
 have st:eU H w H (kL deep t w):=λa x h n=>⟨sm h,hN a n⟩;refine⟨⟨⟨λa o e=>?_,g.wl.tb⟩,λa i e=>?_,λa i e=>?_,g.len,λi d' q' e'=>?_⟩,?_,st,hO⟩
 .rcases hI a o e with⟨z,_⟩|⟨z,_⟩<;>exact g.wl a _ z
 .rcases hI a _ e with⟨_,z⟩|⟨z,_⟩
  .cases z
  .exact g.ws a i z
 .rcases hI a _ e with⟨_,z⟩|⟨z,n⟩
  .cases z;exact ZP _
  .have:=g.wt a i z;have:i≠t+1:=λz=>n (by rw[z]);omega
 .obtain⟨v',F',h1,h2⟩:=g.slot i d' q' e';exact⟨v',F',h1,Rep.go g.wl st h2 λa m=>⟨rfl,hO a _ (h2.aY a m) (λz=>nomatch z)⟩⟩
 .cases deep with
  | false=>
   refine⟨[],Rep.freeze hN r λa m=>?_,λ_ z=>nomatch z⟩;unfold kL;rw[Qh (r.aY a m)];rfl
  | true=>
   have hT:∀ a,w a=some (.t (t+1))->kL true t w a=some (.t t):=λa e=>by unfold kL;rw[Qh e];rfl
   cases hl:d.df with
   | false=>
    obtain⟨_,hr⟩:=r.d_ hl;exact⟨[],Rep.go g.wl st (hr 1) nM,λ_ z=>nomatch z⟩
   | true=>
    have:q=1:=by
     by_cases h:q=1
     .exact h
     .exact absurd ⟨rfl,hl,h⟩ hq
    subst this;exact⟨F,Rep.go g.wl st r λa m=>⟨rfl,hT a (r.aY a m)⟩,r.aY⟩
theorem Wr{ρ:a_}{σ:St}{w1:Wn}{t q:Nat}{ds:List D}(g:Good K ρ σ H1 w1 (t+1))(hp:H1 p=none)(r:af K H1 w1 (.t t) q ds vs F) :
  Good K ρ σ (upd H1 p (.lst vs)) (pX p (.t t) w1) (t+1)/\Go H1 w1 (upd H1 p (.lst vs)) (pX p (.t t) w1)/\Rep K (upd H1 p (.lst vs)) (pX p (.t t) w1) (.t t) (q+1) (.lst ds) (.ref p) (p::F):=by
 have ne:∀ a x,H1 a=some x->a≠p:=λa x e=>ju e hp;have nw:∀ a o,w1 a=some o->a≠p:=λa o e=>by obtain⟨vs,q⟩:=g.wl a o e;exact ne a _ q
 have st:eU H1 w1 (upd H1 p (.lst vs)) (pX p (.t t) w1):=λa x e n=>⟨sm (by rw[bV (ne a x e)];exact e),by rw[m_ (ne a x e)];exact n⟩;refine⟨⟨⟨λa o e=>?_,g.wl.tb.upd rfl (.inl hp)⟩,λa i e=>?_,λa i e=>?_,g.len,λi d q e=>?_⟩,⟨st,λa o e _=>⟨bV (nw a o e),(m_ (nw a o e)).trans e⟩⟩,?_⟩
 .by_cases h:a=p
  .subst h;exact⟨.l vs,jh⟩
  .rw[m_ h]at e;obtain⟨us,q⟩:=g.wl a o e;exact⟨us,by rw[bV h];exact q⟩
 .by_cases h:a=p
  .subst h;rw[wm]at e;cases e
  .rw[m_ h]at e;exact g.ws a i e
 .by_cases h:a=p
  .subst h;rw[wm]at e;cases e;exact ZP _
  .rw[m_ h]at e;exact g.wt a i e
 .obtain⟨v,F,h1,h2⟩:=g.slot i d q e;exact⟨v,F,h1,Rep.go g.wl st h2 λa m=>⟨bV (nw a _ (h2.aY a m)),(m_ (nw a _ (h2.aY a m))).trans (h2.aY a m)⟩⟩
 .exact .own jh wm (af.go g.wl st r λa m=>⟨bV (nw a _ (r.aY a m)),(m_ (nw a _ (r.aY a m))).trans (r.aY a m)⟩) λm=>absurd rfl (nw p _ (r.aY p m))
theorem IK{k:Nat}{it:ma}{pt:iB}{tt:cS}{te:aN}:∀ σ H Q,tD K (cQ k it pt tt te deep) σ H Q->Bm k (BH K it) (BJ K σ.length pt) (uH K tt) (tD K te) σ H Q:=λσ H Q aj=>by
 obtain⟨ρ,w,t,r',q,am,g,ee,kk⟩:=aj;unfold cQ at ee;split at ee;next ds ac h1=>
  split at ee;next all ap h2=>
   cases ee;refine⟨ρ,w,t,ds,ac,g,h1,λJ P H1 w1 g1 aV ok p1 hl=>?_⟩;refine⟨λi m ys H'=>m=ds.length-i/\i<=ds.length/\ys.length<=i/\∃ gT w3 zs F rest,Good K gT σ H' w3 (t+1)/\Go H w H' w3/\P H' w3/\af K H' w3 (.t t) (dq deep) zs ys F /\
     j9 k pt tt te deep (ds.drop i) gT=some (rest,am)/\zs++rest=all,
    ⟨ds.length,by simp,Q1 _,Qj _,ac,w1,[],[],all,g1.up,aV,p1,.nil,h2,rfl⟩,?_⟩
   rintro i m ys H' ⟨rfl,uN,hys,gT,w3,zs,F,rest,g0,lj,p0,IL,e3,ez⟩;have hsz:ys.length<sizeLine:=by omega
   refine⟨Jx hsz,?_⟩;by_cases dz:i<ds.length
   .refine .inr ⟨ok.go i H' w3 p0 dz,hsz,λx H2 hy=>?_⟩;obtain⟨mo,rx,p3⟩:=ok.ug i H' w3 x H2 ds[i] p0 g0.wl (Qc dz) hy;obtain⟨g3,bZ⟩:=g0.more mo;have j_:=lj.trans bZ;have rz:=IL.gone g0.wl bZ;have ed:ds.drop i=ds[i]::ds.drop (i+1):=Vf dz;rw[ed]at e3;unfold j9 at e3;split at e3
    .cases e3
    next BK h4=>
     split at e3
     .cases e3
     next b jU h5=>
      have gx:=g3.ext k;have IM:gT.length=σ.length:=g3.len;refine⟨ds[i],_,w3,t+1,BK,gx,rx,h4,λwc H4 w4 l4 s4 g4 oT=>?_⟩;obtain⟨τ,rfl,Ws⟩:=Wp l4 s4;refine⟨⟨τ,rfl,by rw[Ws,ZL]⟩,BK,w4,t+1,b,jU,g4,h5,λH5 w5 g5 jA=>?_⟩;have p5:=ok.st _ _ _ _ (ok.st _ _ _ _ p3 g3.wl oT.cu) g4.wl jA.cu;have z5:af K H5 w5 (.t t) (dq deep) zs ys F:=(rz.gone g3.wl oT).gone g4.wl jA;cases b with
      | false=>
       rw[Ql (by decide)]at e3;dsimp only;rw[Ql (by decide)];obtain⟨gc,uO⟩:=g5.cut;rw[IM]at e3;refine⟨ds.length-(i+1),by omega,rfl,dz,by omega,_,_,zs,F,rest,gc,(j_.trans oT).trans (jA.trans uO),ok.st _ _ _ _ p5 g5.wl uO.cu,z5.gone g5.wl uO,e3,ez⟩
      | true=>
       rw[Qh rfl]at e3;dsimp only;rw[Qh rfl];split at e3
       .cases e3
       next d6 q6 Wt h6=>
        split at e3
        .cases e3
        next Wu=>
         split at e3
         .cases e3
         next Wv bd h7=>
          cases e3;refine⟨jU,w5,t+1,d6,q6,Wt,g5,h6,λv H6 w6 F6 g6 D7 r6=>?_⟩;obtain⟨gs,⟨F',rs,Ww⟩,D8,IP⟩:=Wq g6 r6 Wu;obtain⟨gc,uO⟩:=gs.cut;rw[IM]at h7;have IQ:=z5.gone g5.wl D7;have zF:∀ a∈F,w6 a=some (.t t):=IQ.aY;have Wx:af K H6 (kL deep t w6) (.t t) (dq deep) zs ys F:=af.go g6.wl D8 IQ λa m=>⟨rfl,IP a _ (zF a m) (by intro z;cases z)⟩;have Wz:Go H w H6 (kL deep t w6):=by have go:Go H w H6 w6:=(j_.trans oT).trans (jA.trans D7);refine⟨go.cu.trans D8,λa o h n=>⟨(go.keep a o h n).1,IP a o (go.keep a o h n).2 λz=>?_⟩⟩;subst z;have:=g.wt a _ h;omega
          refine⟨ds.length-(i+1),by omega,rfl,dz,by rw[Qk];simp;omega,_,_,zs++[d6],F++F',Wv,gc,Wz.trans uO,ok.st _ _ _ _ (ok.st _ _ _ _ p5 g5.wl D7.cu |> λq=>ok.st _ _ _ _ q g6.wl D8) gs.wl uO.cu,
           ?_,h7,by rw[ZB];exact ez⟩
          refine(af.snoc rs Wx λa m m'=>?_).gone gs.wl uO;have h1:=zF a m;rw[Ww a m']at h1;cases h1
   .have bW:i=ds.length:=Nat.le_antisymm uN (Nat.not_lt.mp dz);subst bW;refine .inl ⟨ok.stop H' w3 p0,λp hp=>?_⟩;have ed:ds.drop ds.length=[]:=by simp
    rw[ed]at e3;cases e3;rw[QX]at ez;subst ez;obtain⟨a1,a2,a3⟩:=Wr g0 hp IL;refine kk _ _ _ (p::F) a1 (lj.trans a2) ?_;cases deep<;>exact a3
  .cases ee
 .cases ee
section
variable {X:Cx}{k:Nat}{N':List Str}{scope:Scope}{elt tg iter:Expr}{ifs:List Expr}{pos:Pos}{it:ma}{pt:iB}{tt:cS}{te:aN}
abbrev WA (X:Cx)(ifs:List Expr)(f:cS):Prop:=wb X ifs (uH X.K f)
structure qY (X:Cx) (e:List Expr) (f:cS):Prop where mk::o:WA X e f
theorem iC:qY X [] cN:=⟨λTk s σ H Q I aj=>by obtain⟨ρ,w,t,b,am,gd,ee,k⟩:=aj;cases ee;exact Ut Tk s σ H Q I (k H w gd Go.refl)⟩
theorem me{c:Expr}{g:cS}(h:iY X c g):qY X [c] g:=⟨have h:=h.o;Uu h⟩
theorem gU(deep:Bool)(hc:X.calm=true)(hi:wz X tg iter it)(hg:∀ C s H fp,wA (iG X N' scope C s H fp) X.N.length tg pt)(ht:∀ C s H fp,qY (iG X N' scope C s H fp) ifs tt)(he:∀ C s H fp,QD (iG X N' scope C s H fp) elt te)(hs:∀ x,foldedSetIterable iter X.env x=pure x:=by intro _;rfl)(S:cO X k N' scope:=by exact⟨rfl,by decide +kernel,rfl,rfl,rfl⟩):QD X (.ListComp elt [⟨tg,iter,ifs,0⟩] scope pos) (cQ k it pt tt te deep):=⟨have hi:=hi.o;have hg:=λC s H fp=>(hg C s H fp).o;have ht:=λC s H fp=>(ht C s H fp).o;have he:=λC s H fp=>(he C s H fp).o;by intro Tk s σ H Q I h;have:=IK σ H Q h;rw[I.len]at this;exact UG (N':=N') hc S hi hg ht he hs Tk s σ H Q I this⟩
theorem nV{i:Nat}{y:Str}{py j6:Pos}(deep:Bool)(hN:X.N.Nodup)(uD:swapsWith (.ListComp elt [⟨tg,iter,ifs,0⟩] scope pos) (some (.Name y py)) j6.line X.env=pure true)(hc:X.calm=true)(hi:wz X tg iter it)(hg:∀ C s H fp,wA (iG X N' scope C s H fp) X.N.length tg pt)(ht:∀ C s H fp,qY (iG X N' scope C s H fp) ifs tt)(he:∀ C s H fp,QD (iG X N' scope C s H fp) elt te)(hs:∀ x,foldedSetIterable iter X.env x=pure x:=by intro _;rfl)(hf:X.fn y=true\/X.env.scope.names.lookup y=some .local:=by first|exact .inl rfl|exact .inr rfl|assumption)(hy:X.N[i]? = some y:=by rfl)(hx:Loc X.env.scope y:=by first|exact Or.inl rfl|exact Or.inr rfl)(S:cO X k N' scope:=by exact⟨rfl,by decide +kernel,rfl,rfl,rfl⟩):l_ X (.Assign [.Name y py] (.ListComp elt [⟨tg,iter,ifs,0⟩] scope pos) j6) (bA i (cQ k it pt tt te deep)):=⟨have hi:=hi.o;have hg:=λC s H fp=>(hg C s H fp).o;have ht:=λC s H fp=>(ht C s H fp).o;have he:=λC s H fp=>(he C s H fp).o;by
 intro Tk s σ H D I h;have hl:i<σ.length:=by rw[I.len];exact(Qy.mp hy).1
 refine UH (N':=N') (te:=tD X.K te) (tt:=uH X.K tt) (g:=BJ X.K X.N.length pt) (wi:=BH X.K it) hN hy hx uD hc S hi hg ht he hs hf Tk s σ H D I ?_;have z:=IG (te:=Bm k (BH X.K it) (BJ X.K σ.length pt) (uH X.K tt) (tD X.K te)) hl (λQ q=>IK σ H Q q) h;rw[I.len]at z;exact z⟩
end
mutual
def b6:D->PyData
 | .bc=>.none
 | .bl b=>.bool b
 | .int i=>.int i
 | .str x=>.str x
 | .tup ds=>.tuple (eG ds)
 | .lst ds=>.list (eG ds)
 | .iH _ _=>.none
 | .exc _=>.none
 | .ob _ _ _ _=>.none
 | .mp _ _=>.none
def eG:List D->List PyData
 | []=>[]
 | d::ds=>b6 d::eG ds
end
mutual
def mf:D->Bool
 | .iH _ _=>false
 | .exc _=>false
 | .ob _ _ _ _=>false
 | .mp _ _=>false
 | .tup ds=>uP ds
 | .lst ds=>uP ds
 | _=>true
def uP:List D->Bool
 | []=>true
 | d::ds=>mf d&&uP ds
end
def eS (d:D):Bool:=mf d&&SeqAt.shaped (b6 d)
theorem mh{d:D}(h:eS d=true):mf d=true:=(ZF.mp h).1
theorem mi{d:D}(h:eS d=true):SeqAt.shaped (b6 d)=true:=(ZF.mp h).2
def pZ (d e:D):Bool:=PyData.eqv (b6 d) (b6 e)
section
variable {X:Cx}{Tk:List (Addr×Obj)}{σ:St}{H:Hp}{s:Shared}
theorem Rep.reads(I:Inv X Tk σ H s){w:Wn}{o:Ow}:∀ {q:Nat} {d:D} {v:V} {F:List Addr} {u:Value},Rep X.K H w o q d v F->cn v u->mf d=true->∃ as,Reads s.heap u (b6 d) as:=by
 intro q d v F u r;refine(Rep.rec (motive_1:=λq d v F _=>∀ u,cn v u->mf d=true->∃ as,Reads s.heap u (b6 d) as) (motive_2:=λq ds vs F _=>∀ us,bK vs us->uP ds=true->∃ as,ReadsAll s.heap us (eG ds) as) ?_ ?_ ?_ ?_ ?_ ?_ ?_ ?_ ?_ ?_ ?_ ?_ ?_ ?_ ?_ r:∀ u,cn v u->mf d=true->∃ as,Reads s.heap u (b6 d) as) u
 .intro q u ru hn;cases ru;exact⟨_,by unfold b6;exact .none⟩
 .intro q b u ru hn;cases ru;exact⟨_,by unfold b6;exact .bool b⟩
 .intro q i u ru hn;obtain⟨t,rfl⟩:=ru;exact⟨_,by unfold b6;exact .int i t⟩
 .intro q x u ru hn;obtain⟨t,rfl⟩:=ru;exact⟨_,by unfold b6;exact .str x t⟩
 .intro q a vs ds h r ih u ru hn;cases ru;obtain⟨ak,rv,p,hz⟩:=I.tuple (du.of h);obtain⟨as,ra⟩:=ih ak rv (by unfold mf at hn;exact hn);obtain⟨ob,ho,hc,n,hd⟩:=p;exact⟨_,by unfold b6;exact .tuple ho hc hd ra⟩
 .intro q a ks vs ds h e r ih u ru hn;cases hn
 .intro q a nm ob v h x n u ru hn;cases hn
 .intro q f c fo oc u1 u2 vs ds h1 h2 x r ih u ru hn;cases hn
 .intro a vs ds h r ih u ru hn;cases ru;obtain⟨ak,rv,p,hz⟩:=I.list h.sq;obtain⟨as,ra⟩:=ih ak rv (by unfold mf at hn;exact hn);obtain⟨ob,ho,hc,n,hd⟩:=p.isList;exact⟨_,by unfold b6;exact .list ho hc hd ra⟩
 .intro a vs ds h n0 r ih u ru hn;cases ru;obtain⟨ak,rv,p,hz⟩:=I.list (.inl h);obtain⟨as,ra⟩:=ih ak rv (by unfold mf at hn;exact hn);obtain⟨ob,ho,hc,n,hd⟩:=p.isList;exact⟨_,by unfold b6;exact .list ho hc hd ra⟩
 .intro q a vs ds F h e r ne ih u ru hn;cases ru;obtain⟨ak,rv,p,hz⟩:=I.list (dE.of h);obtain⟨as,ra⟩:=ih ak rv (by unfold mf at hn;exact hn);obtain⟨ob,ho,hc,n,hd⟩:=p.isList;exact⟨_,by unfold b6;exact .list ho hc hd ra⟩
 .intro a vs ds k x h i e l r ih u ru hn;cases hn
 .intro q a vs ds k x h i e l r ih u ru hn;cases hn
 .intro q us ru hn;cases ru;exact⟨_,by unfold eG;exact .nil⟩
 .intro q d v ds vs F G r s' ne qR qS us ru hn;cases ru with
  | cons rv WB=>
   unfold uP at hn;obtain⟨as,ra⟩:=qR _ rv (ZF.mp hn).1;obtain⟨bs,rb⟩:=qS _ WB (ZF.mp hn).2;exact⟨_,by unfold eG;exact .cons ra rb⟩
end
def Is (K:PySem.W.Frag)(H:Hp)(d:D)(v:V):Prop:=∃ w o q F,Rep K H w o q d v F
def IS (K:PySem.W.Frag):R2:=λx y H Q=>∃ d e,Is K H d x/\Is K H e y/\eS d=true/\eS e=true/\Q (.bl (pZ d e)) H
def IU (K:PySem.W.Frag):R2:=λx y H Q=>∃ d e,Is K H d x/\Is K H e y/\eS d=true/\eS e=true/\Q (.bl (!pZ d e)) H
def inD (d:D):D->Option Bool
 | .lst ds=>some ((eG ds).any λy=>PyData.eqv y (b6 d))
 | .tup ds=>some ((eG ds).any λy=>PyData.eqv y (b6 d))
 | _=>none
def BL (K:PySem.W.Frag)(neg:Bool):R2:=λx y H Q=>∃ d e b,Is K H d x/\Is K H e y/\eS d=true/\eS e=true/\inD d e=some b/\Q (.bl (if neg then !b else b)) H
section
variable {X:Cx}{a b c e:Expr}{fa fb fc f:aN}{pos:Pos}
theorem IV(hu:X.A.units+64<cLine):dy X (compareOp .Eq) (IS X.K):=by intro Tk s σ H x y v u Q I rx ry ⟨d,e,⟨w,o,q,F,h1⟩,⟨w',o',q',F',h2⟩,k1,k2,hq⟩;obtain⟨as,ra⟩:=h1.reads I rx (mh k1);obtain⟨bs,rb⟩:=h2.reads I ry (mh k2);exact eq_dataH ra rb (mi k1) (mi k2) hu ⟨.bl _,H,I,rfl,hq⟩
theorem WC(hu:X.A.units+64<cLine):dy X (compareOp .NotEq) (IU X.K):=by intro Tk s σ H x y v u Q I rx ry ⟨d,e,⟨w,o,q,F,h1⟩,⟨w',o',q',F',h2⟩,k1,k2,hq⟩;obtain⟨as,ra⟩:=h1.reads I rx (mh k1);obtain⟨bs,rb⟩:=h2.reads I ry (mh k2);exact ne_dataH ra rb (mi k1) (mi k2) hu ⟨.bl _,H,I,rfl,hq⟩
theorem WD(hu:X.A.units+65<cLine):dy X (compareOp .In) (BL X.K false):=by
 intro Tk s σ H x y v u Q I rx ry ⟨d,e,b,⟨w,o,q,F,h1⟩,⟨w',o',q',F',h2⟩,k1,k2,hb,hq⟩;obtain⟨as,ra⟩:=h1.reads I rx (mh k1);obtain⟨bs,rb⟩:=h2.reads I ry (mh k2);replace k1:=mi k1;replace k2:=mi k2;cases e with
 | lst ds=>
  cases hb;unfold b6 at rb k2;exact SeqAt.in_list_reads rb ra (QT k2) (QT k1) (Jw k1 hu) ⟨.bl _,H,I,rfl,hq⟩
 | tup ds=>
  cases hb;unfold b6 at rb k2;exact SeqAt.in_tuple_reads rb ra (QT k2) (QT k1) (Jw k1 hu) ⟨.bl _,H,I,rfl,hq⟩
 | _=>cases hb
theorem WE(hu:X.A.units+65<cLine):dy X (compareOp .NotIn) (BL X.K true):=by
 intro Tk s σ H x y v u Q I rx ry ⟨d,e,b,⟨w,o,q,F,h1⟩,⟨w',o',q',F',h2⟩,k1,k2,hb,hq⟩;obtain⟨as,ra⟩:=h1.reads I rx (mh k1);obtain⟨bs,rb⟩:=h2.reads I ry (mh k2);replace k1:=mi k1;replace k2:=mi k2;cases e with
 | lst ds=>
  cases hb;unfold b6 at rb k2;exact SeqAt.notIn_list_reads rb ra (QT k2) (QT k1) (Jw k1 hu) ⟨.bl _,H,I,rfl,hq⟩
 | tup ds=>
  cases hb;unfold b6 at rb k2;exact SeqAt.notIn_tuple_reads rb ra (QT k2) (QT k1) (Jw k1 hu) ⟨.bl _,H,I,rfl,hq⟩
 | _=>cases hb
def dG (x y:D):Option D:=if eS x=true/\eS y=true then some (.bl (pZ x y))else none
def cH (x y:D):Option D:=if eS x=true/\eS y=true then some (.bl (!pZ x y))else none
def sO (x y:D):Option D:=if eS x=true/\eS y=true then(inD x y).map λb=>.bl b else none
def qZ (x y:D):Option D:=if eS x=true/\eS y=true then(inD x y).map λb=>.bl (!b)else none
theorem IW:∀ σ H Q,tD K (e2 dG fa fb) σ H Q->j5 (IS K) (tD K fa) (tD K fb) σ H Q:=sG λx y d h=>by
 unfold dG at h;split at h;next hk=>
  cases h;exact⟨_,rfl,λH w o o' q q' u u' F F' r1 r2 _ Q hq=>⟨x,y,⟨_,_,_,_,r1⟩,⟨_,_,_,_,r2⟩,hk.1,hk.2,hq⟩⟩
 .cases h
theorem WG:∀ σ H Q,tD K (e2 cH fa fb) σ H Q->j5 (IU K) (tD K fa) (tD K fb) σ H Q:=sG λx y d h=>by
 unfold cH at h;split at h;next hk=>
  cases h;exact⟨_,rfl,λH w o o' q q' u u' F F' r1 r2 _ Q hq=>⟨x,y,⟨_,_,_,_,r1⟩,⟨_,_,_,_,r2⟩,hk.1,hk.2,hq⟩⟩
 .cases h
theorem hIn:∀ σ H Q,tD K (e2 sO fa fb) σ H Q->j5 (BL K false) (tD K fa) (tD K fb) σ H Q:=sG λx y d h=>by
 unfold sO at h;split at h;next hk=>
  cases hi:inD x y with
  | none=>rw[hi]at h;cases h
  | some b=>
   rw[hi]at h;cases h;exact⟨_,rfl,λH w o o' q q' u u' F F' r1 r2 _ Q hq=>⟨x,y,b,⟨_,_,_,_,r1⟩,⟨_,_,_,_,r2⟩,hk.1,hk.2,hi,hq⟩⟩
 .cases h
theorem WH:∀ σ H Q,tD K (e2 qZ fa fb) σ H Q->j5 (BL K true) (tD K fa) (tD K fb) σ H Q:=sG λx y d h=>by
 unfold qZ at h;split at h;next hk=>
  cases hi:inD x y with
  | none=>rw[hi]at h;cases h
  | some b=>
   rw[hi]at h;cases h;exact⟨_,rfl,λH w o o' q q' u u' F F' r1 r2 _ Q hq=>⟨x,y,b,⟨_,_,_,_,r1⟩,⟨_,_,_,_,r2⟩,hk.1,hk.2,hi,hq⟩⟩
 .cases h
theorem IX{k:Nat}(hr:bC k X.A)(ha:QD X a fa)(hb:QD X b fb):QD X (.Compare a [.Eq] [b] pos) (e2 dG fa fb):=⟨have ha:=ha.o;have hb:=hb.o;V_ (IV hr.units) IW ha hb (ui _)⟩
theorem kM{k:Nat}(hr:bC k X.A)(ha:QD X a fa)(hb:QD X b fb):iY X (.Compare a [.Eq] [b] pos) (bg (e2 dG fa fb)):=⟨have ha:=ha.o;have hb:=hb.o;sJ (IV hr.units) IW ha hb (ui _)⟩
theorem il{k:Nat}(hr:bC k X.A)(ha:QD X a fa)(hb:QD X b fb):iY X (.Compare a [.NotEq] [b] pos) (bg (e2 cH fa fb)):=⟨have ha:=ha.o;have hb:=hb.o;sJ (WC hr.units) WG ha hb (ui _)⟩
theorem yr{k:Nat}(r:bC k A):A.units+65<cLine:=by have:=r.un;omega
theorem IY{k:Nat}(hr:bC k X.A)(ha:QD X a fa)(hb:QD X b fb)(hm:behindInMarks .In b=false:=by with_unfolding_all rfl):iY X (.Compare a [.In] [b] pos) (bg (e2 sO fa fb)):=⟨have ha:=ha.o;have hb:=hb.o;sJ (WD (yr hr)) hIn ha hb hm⟩
theorem IZ{k:Nat}(hr:bC k X.A)(ha:QD X a fa)(hb:QD X b fb)(hm:behindInMarks .NotIn b=false:=by with_unfolding_all rfl):iY X (.Compare a [.NotIn] [b] pos) (bg (e2 qZ fa fb)):=⟨have ha:=ha.o;have hb:=hb.o;sJ (WE (yr hr)) WH ha hb hm⟩
end
@[simp] def eB (h:List D->Option D)(g:cf):aN:=λρ=>match g ρ with
 | some (ds,ac)=>match h ds with
  | some d=>some (d,9,ac)
  | none=>none
 | none=>none
section
variable {X:Cx}{a b c e:Expr}{es:List Expr}{fa fb fc f:aN}{g:cf}{pos p p1 p2:Pos}
theorem BM{h:List D->Option D}{r:List V->Hp->VK->Prop}(hh:∀ ds d,h ds=some d->∃ v,nc d=some v/\∀ H w vs,WL K w H->af K H w .f 0 ds vs []->∀ Q:VK,Q v H->r vs H Q) :
  ∀ σ H Q,tD K (eB h g) σ H Q->Bb r (BC K g) σ H Q:=λσ H Q aj=>by
 obtain⟨ρ,w,t,r',q,am,gd,ee,k⟩:=aj;unfold eB at ee;split at ee;next ds ac h1=>
  split at ee;next d hd=>
   cases ee;obtain⟨v,hv,hr⟩:=hh ds _ hd;exact⟨ρ,w,t,ds,_,gd,h1,λvs H1 w1 g1 aV r1=>hr H1 w1 vs g1.wl r1 Q (k v H1 w1 [] g1.up aV (BA hv))⟩
  .cases ee
 .cases ee
theorem one{w:Wn}{o:Ow}{d:D}(r:af K H w o 0 [d] vs []):∃ v,vs=[v]/\Rep K H w o 0 d v []:=by
 have l:=r.length
 match vs,l with
 | [v],_=>
  obtain⟨v',h1,h2⟩:=r.get (i:=0) rfl;cases h1;exact⟨v,rfl,h2⟩
theorem two{w:Wn}{o:Ow}{d d':D}(r:af K H w o 0 [d,d'] vs []):∃ v v',vs=[v,v']/\Rep K H w o 0 d v []/\Rep K H w o 0 d' v' []:=by
 have l:=r.length
 match vs,l with
 | [v,v'],_=>
  obtain⟨u,h1,h2⟩:=r.get (i:=0) rfl;obtain⟨u',h3,h4⟩:=r.get (i:=1) rfl;cases h1;cases h3;exact⟨v,v',rfl,h2,h4⟩
def ip:D->Option Nat
 | .lst ds=>some ds.length
 | .tup ds=>some ds.length
 | _=>none
@[simp] def sP:List D->Option D
 | [d]=>(ip d).map λn=>.int (Int.ofNat n)
 | _=>none
theorem Rep.len{w:Wn}{o:Ow}{q:Nat}{d:D}(r:Rep K H w o q d v F)(h:ip d=some n):∃ p ys,v=.ref p/\(dE K H p ys\/du K H p ys)/\ys.length=n:=by
 cases d with
 | lst ds=>
  cases h;obtain⟨p,vs,q',G,rfl,hq,rs⟩:=r.qW;exact⟨p,vs,rfl,.inl hq,rs.length.symm⟩
 | tup ds=>
  cases h;obtain⟨p,vs,rfl,hq,rs⟩:=r.eX;exact⟨p,vs,rfl,.inr hq,rs.length.symm⟩
 | _=>cases h
theorem D9(hm:X.mg "len" = none)(ha:gy X [a] g)(hg:Gl X "len":=by rfl)(he:starEach [a] X.env=(false,eval a X.env)::starEach [] X.env:=by rfl)(cE:(backTo pos (starEach [] X.env)).any (·.1)=false:=by rfl):QD X (.Call (.Name "len" p) [a] [] pos) (eB sP g):=⟨have ha:=ha.o;PE.imp (qL Dk hg hm V4 ha (by decide) (by decide) he cE) (BM λds d h=>by
  match ds,h with
  | [d0],h=>
   cases hl:ip d0 with
   | none=>simp only[sP,hl,Option.map_none]at h;cases h
   | some n=>
    simp only[sP,hl,ZY,Option.some.injEq]at h;subst h;refine⟨_,rfl,λH w vs wl r Q hq=>?_⟩;obtain⟨v,rfl,rv⟩:=one r;obtain⟨p,ys,rfl,hs,hn⟩:=rv.len hl;exact⟨p,ys,rfl,hs,by rw[hn];exact hq⟩)⟩
@[simp] def cj (i:Nat):aN:=λρ=>match ρ[i]? with
 | some (some (d,_))=>match ip d with
  | some n=>some (.int (Int.ofNat n),9,ρ)
  | none=>none
 | _=>none
theorem dX{x:Str}(hm:X.mg "len" = none)(h:QE X (.Name x p1) (lX i))(hg:Gl X "len":=by rfl)(he:starEach [.Name x p1] X.env=(false,eval (.Name x p1) X.env)::starEach [] X.env:=by rfl)(cE:(backTo pos (starEach [] X.env)).any (·.1)=false:=by rfl):QD X (.Call (.Name "len" p) [.Name x p1] [] pos) (cj i):=⟨have h:=h.o;PE.imp (qL Dk hg hm V4 (l0 h oG he) (by decide) (by decide) he cE) λσ H Q aj=>by
 obtain⟨ρ,w,t,r',q,am,gd,ee,k⟩:=aj;unfold cj at ee;split at ee;next d q0 e0=>
  split at ee;next n hn=>
   cases ee;obtain⟨v,F,h1,h2⟩:=gd.slot i d q0 e0;obtain⟨p,ys,rfl,hs,hl⟩:=h2.len hn;exact⟨_,h1,p,ys,rfl,hs,by rw[hl];exact k _ H w [] gd.up Go.refl (.int _)⟩
  .cases ee
 .cases ee⟩
@[simp] def BN:List D->Option D
 | [.int i,.int j]=>some (.int (if j > i then j else i))
 | _=>none
theorem I0(hc:X.calm=true)(hm:X.mg "max" = none)(hb:bootBuiltins "max" = some (.builtin "max"))(ha:gy X (a::es) g)(hg:Gl X "max":=by rfl)(he:starEach (a::es) X.env=(false,eval a X.env)::starEach es X.env:=by rfl)(cE:(backTo pos (starEach es X.env)).any (·.1)=false:=by rfl):QD X (.Call (.Name "max" p) (a::es) [] pos) (eB BN g):=⟨have ha:=ha.o;PE.imp (qL (SH hc) hg hm hb ha (by decide) (by decide) he cE) (BM λds d h=>by
  unfold BN at h;split at h;next i j=>
   cases h;refine⟨_,rfl,λH w vs wl r Q hq=>?_⟩;obtain⟨v,v',rfl,r1,r2⟩:=two r;exact⟨i,j,by rw[eV r1,eV r2],hq⟩
  .cases h)⟩
@[simp] def yt (g:cf):aN:=λρ=>match g ρ with
 | some ([.lst ds],ac)=>some (.lst ds,1,ac)
 | some ([.tup ds],ac)=>some (.lst ds,1,ac)
 | _=>none
theorem WI(hm:X.mg "list" = none)(hb:bootBuiltins "list" = some (.type "list"))(ha:gy X [a] g)(hg:Gl X "list":=by rfl)(he:starEach [a] X.env=(false,eval a X.env)::starEach [] X.env:=by rfl)(cE:(backTo pos (starEach [] X.env)).any (·.1)=false:=by rfl):QD X (.Call (.Name "list" p) [a] [] pos) (yt g):=⟨have ha:=ha.o;PE.imp (v7 Tr hg hm hb ha (by decide) (by decide) he cE) λσ H Q aj=>by
 obtain⟨ρ,w,t,r',q,am,gd,ee,k⟩:=aj;unfold yt at ee;split at ee;next ds ac h1=>
  cases ee;refine⟨ρ,w,t,_,_,gd,h1,λvs H1 w1 g1 aV r1=>?_⟩;obtain⟨v,rfl,rv⟩:=one r1;obtain⟨p,ys,rfl,hs,rs⟩:=rv.fV;refine⟨p,ys,rfl,.inl hs,λl hl=>?_⟩;obtain⟨a1,a2,a3⟩:=uF g1 hl rs;exact k _ _ _ _ a1 (aV.trans a2) a3
 next ds ac h1=>
  cases ee;refine⟨ρ,w,t,_,_,gd,h1,λvs H1 w1 g1 aV r1=>?_⟩;obtain⟨v,rfl,rv⟩:=one r1;obtain⟨p,ys,rfl,hs,rs⟩:=rv.eX;refine⟨p,ys,rfl,.inr hs,λl hl=>?_⟩;obtain⟨a1,a2,a3⟩:=uF g1 hl rs;exact k _ _ _ _ a1 (aV.trans a2) a3
 .cases ee⟩
@[simp] def iE (g:cf):aN:=λρ=>match g ρ with
 | some ([.lst ds],ac)=>some (.tup ds,9,ac)
 | some ([.tup ds],ac)=>some (.tup ds,9,ac)
 | _=>none
theorem ls(hm:X.mg "tuple" = none)(hb:bootBuiltins "tuple" = some (.type "tuple"))(ha:gy X [a] g)(hg:Gl X "tuple":=by rfl)(he:starEach [a] X.env=(false,eval a X.env)::starEach [] X.env:=by rfl)(cE:(backTo pos (starEach [] X.env)).any (·.1)=false:=by rfl):QD X (.Call (.Name "tuple" p) [a] [] pos) (iE g):=⟨have ha:=ha.o;PE.imp (v7 Ts hg hm hb ha (by decide) (by decide) he cE) λσ H Q aj=>by
 obtain⟨ρ,w,t,r',q,am,gd,ee,k⟩:=aj;unfold iE at ee;split at ee;next ds ac h1=>
  cases ee;refine⟨ρ,w,t,_,_,gd,h1,λvs H1 w1 g1 aV r1=>?_⟩;obtain⟨v,rfl,rv⟩:=one r1;obtain⟨p,ys,rfl,hs,rs⟩:=rv.fV;refine⟨p,ys,rfl,.inl ⟨hs,λl hl=>?_⟩⟩;obtain⟨a1,a2,a3⟩:=wq g1 hl rs;exact k _ _ _ _ a1 (aV.trans a2) a3
 next ds ac h1=>
  cases ee;refine⟨ρ,w,t,_,_,gd,h1,λvs H1 w1 g1 aV r1=>?_⟩;obtain⟨v,rfl,rv⟩:=one r1;have rr:=rv;obtain⟨p,ys,rfl,hs,rs⟩:=rv.eX;refine⟨p,ys,rfl,.inr ⟨hs,?_⟩⟩;exact k _ H1 w1 [] g1.up aV (((rr.d_ rfl).2 9).any g1.wl)
 .cases ee⟩
def I_ (ta:TA):TE:=λσ H Q=>ta σ H λvs H1=>∃ j:Int,vs=[.int j] /\ -(2 ^ 62)<=j/\j<2 ^ 62/\∀ p,H1 p=none->Q (.ref p) (upd H1 p (.nO 0 j))
theorem J_{ta:TA}(hg:Gl X "range")(hm:X.mg "range" = none)(ha:PA X [a] ta)(hs:starEach [a] X.env=[(false,eval a X.env)]:=by rfl):PE X (.Call (.Name "range" p) [a] [] pos) (I_ ta):=by
 intro Tk s σ H Q I h;refine Call_ (vY I hg hm boot_range (Ja (bE (ha pos Tk s σ H _ I h) λus s1 ⟨vs,H1,I1,r1,q1⟩=>?_) hs rfl));obtain⟨j,e,q1,q2,q⟩:=q1;subst e;cases r1 with
 | cons r rr=>
  cases rr;obtain⟨t,rfl⟩:=r;refine call_range_1 ?_;exact⟨.ref s1.heap.objs.size,upd H1 s1.heap.objs.size (.nO 0 j),I1.laid (λb u e=>Qe _ e) (Qj _) ⟨_,_,_,Qv _ rfl⟩,rfl,q _ (I1.aP.fresh (Qj _))⟩
end
theorem Ka{j:Int}(h1:-(2 ^ 62)<=j)(h2:j<2 ^ 62):Builtin.Range.small 0 j 1=true:=by
 have hs:Builtin.Range.rangeSize 0 j 1=((j.toNat:Nat):Int):=by simp[Builtin.Range.rangeSize]<;>split<;>omega
 simp only[Builtin.Range.small,hs,Builtin.Range.rangeFitsLong];simp;omega
theorem Kb(j:Int):Builtin.Range.rangeSize 0 j 1=((j.toNat:Nat):Int):=by simp[Builtin.Range.rangeSize]<;>split<;>omega
theorem Kc{acc:Array Value}(h:ItemsOf (λi v=>∃ t,v=Value.int (0+(i:Nat)*1) t) acc n):bK (sM n) acc.toList:=by
 have key:∀ (us:List Value) (k:Nat),(∀ j v,us[j]? = some v->∃ t,v=Value.int (((k+j:Nat)):Int) t)->bK ((List.range' k us.length).map λi=>V.int (Int.ofNat i)) us:=by
  intro us;induction us with
  | nil=>intro k _;exact .nil
  | cons u r ih=>
   intro k hk;obtain⟨t,e⟩:=hk 0 u rfl;refine .cons ⟨t,by rw[e];rfl⟩ (ih (k+1) λj v hv=>?_);obtain⟨t',e'⟩:=hk (j+1) v (by simpa using hv);exact⟨t',by rw[e'];congr 2;omega⟩
 have:=key acc.toList 0 λj v hv=>by obtain⟨t,e⟩:=h.2 j v (by simpa using hv);exact⟨t,by rw[e];congr 1;omega⟩
 have hl:acc.toList.length=n:=by simpa using h.1
 rw[hl]at this;unfold sM;rw[V5];exact this
section
variable {prog:Program}{w:World}{A:Around}{E:Tl}{s:Shared}
open AutoSeq1 (wpAny_loadPart')
theorem WJ{Q:List Value->Shared->Prop}{r:Addr}{a:Int}{t v:Tok}(hh:A.handled=none)(hr:IsRange s.heap r a b c t u v)(iK:Builtin.Range.small a b c=true)(hn:Builtin.Range.rangeSize a b c=n)(hlen:n<=2 ^ 24)
  (hQ:∀ h' tk bN,(∀ b o',s.heap.get? b=some o'->h'.get? b=some o')->ItemsOf (λi v=>∃ t,v=.int (a+i*c) t) bN n->Q bN.toList { s with heap:=h',toks:=tk }) :
  wpAny (model prog w) A (collect (.ref r)) Q E s:=by
 unfold collect;refine Qa (wpAny_runValue (Z7 F.entry_proto_collect ?_));rw[Jo F.plain_proto_collect _];show wpAny _ A.in1 (newList [] >>= λl=>again (.builtin "list.__iadd__" ⟨[l,.ref r],[]⟩)) _ _ s;refine Qa (Zj ?_);refine Qd ⟨plainId_quiet F.plain_list_iadd _,Z7 F.entry_list_iadd ?_⟩;rw[Jo F.plain_list_iadd _];show wpAny _ A.in1 (Builtin.List.listExtendWith (.ref s.heap.objs.size) (.ref r) (.ref s.heap.objs.size)) _ _ _;have hS:(s.heap.push { cls:=.type "list",data:=.seq ([]:List Value).toArray }).get? s.heap.objs.size=some { cls:=.type "list",data:=.seq #[] 0 }:=Qv _ rfl;have yu:∀ (h':Heap) (tk:Nat) (bN:Array Value) (c':Nat),(∀ b o,b≠s.heap.objs.size->(s.heap.push { cls:=.type "list",data:=.seq ([]:List Value).toArray }).get? b=some o->h'.get? b=some o)->
   h'.get? s.heap.objs.size=some { cls:=.type "list",dict:=none,data:=.seq bN c',slots:=#[] }->ItemsOf (λi v=>∃ t,v=.int (a+i*c) t) bN n->wpAny (model prog w) A (match Value.ref s.heap.objs.size with
   | Value.ref a=>do
    match (<- load a).data with
     | Data.seq xs _=>pure xs.toList
     | _=>unsupported "internal:collect"
   | _=>unsupported "internal:collect") Q E { s with heap:=h',toks:=tk }:=λh' tk bN c' hk q8 eA=>by show wpAny _ A (load s.heap.objs.size >>= _) _ _ _;refine Qa (wpAny_load q8 ?_);refine Qd (hQ h' tk bN (λb o' hb=>?_) eA);exact hk b o' (QS (Qq hb)) (Qe _ hb)
 refine ZN (wpAny_extend_range (A:=A) (R:=λrs s'=>rs=.ok (.ret (.ref s.heap.objs.size))/\∃ h' tk bN c',s'={ s with heap:=h',toks:=tk }/\(∀ b o,b≠s.heap.objs.size->(s.heap.push { cls:=.type "list",data:=.seq ([]:List Value).toArray }).get? b=some o->h'.get? b=some o) /\
   h'.get? s.heap.objs.size=some { cls:=.type "list",dict:=none,data:=.seq bN c',slots:=#[] }/\ItemsOf (λi v=>∃ t,v=.int (a+i*c) t) bN n)
  (s:={ s with heap:=s.heap.push { cls:=.type "list",data:=.seq ([]:List Value).toArray } }) hh (Qe _ hr) iK hn hlen s.heap.objs.size (.ref s.heap.objs.size) 0 hS (λh' tk bN c' hk q8 eA=>⟨rfl,h',tk,bN,c',rfl,hk,q8,eA⟩)) (λfin s' h=>?_) (λe s' h=>?_)
 .cases fin with
  | done f=>
   obtain⟨e,h',tk,bN,c',rfl,hk,q8,eA⟩:=h;cases e;exact yu h' tk bN c' hk q8 eA
  | again c'=>exact⟨h.1,JQ h.2 λr sj hr=>by obtain⟨rfl,h',tk,bN,c',rfl,hk,q8,eA⟩:=hr;exact yu h' tk bN c' hk q8 eA⟩
 .exact absurd h.1 (by simp)
end
theorem WK(r:Addr)(a b c:Int)(t u v:Tok)(n:Nat)(iK:Builtin.Range.small a b c=true)(hn:Builtin.Range.rangeSize a b c=n)(hlen:n<=2 ^ 24) :
  Meets (Builtin.«tuple.__new__» ⟨[.type "tuple",.ref r],[]⟩)
   (λA R s=>A.handled=none/\IsRange s.heap r a b c t u v/\∀ (h':Heap) tk bN,(∀ b o',s.heap.get? b=some o'->h'.get? b=some o')->ItemsOf (λi v=>∃ t,v=.int (a+i*c) t) bN n->R (.ok (.ret (.ref h'.objs.size))) { s with heap:=h'.push { cls:=.type "tuple",data:=.seq bN },toks:=tk }):=
 .of_wp λprog w A R s h=>by
  obtain⟨hp,g,d,tk,os⟩:=s;obtain⟨hh,hr,h⟩:=h;have dO:=sub_tuple_self;have Kd:=init_tuple_lookup;have hmh:=madeHere_tuple;have hT:Shared.TypeIs ⟨hp,g,d,tk,os⟩ (.ref r) "range":=⟨_,hr,rfl⟩;have D_:A.in1.handled=none:=hh;wp_walk using AutoSeq1.wpAny_loadPart' hr,Yj hT,WJ D_ hr iK hn hlen
  intro h' wB bN hk eA;show wpAny _ _ (Builtin.Tuple.tupleExact bN.toList.toArray >>= λv=>ret v) _ _ _;unfold Builtin.Tuple.tupleExact;have hsz:bN.size<=sizeLine:=by rw[eA.1];exact hlen
  refine Qa (Zj ?_ (by show bN.toList.toArray.size<=sizeLine;simpa using hsz));refine Qd ⟨_,rfl,?_⟩;have e:bN.toList.toArray=bN:=by simp
  rw[e];exact h h' wB bN hk eA
theorem WM{prog:Program}{w:World}{E:Tl}{s:Shared}{r:Addr}{a:Int}{t v:Tok}{Q:Tl}(hh:A.handled=none)(hr:IsRange s.heap r a b c t u v)(iK:Builtin.Range.small a b c=true)(hn:Builtin.Range.rangeSize a b c=n)(hlen:n<=2 ^ 24)
  (h:∀ (h':Heap) tk bN,(∀ b o',s.heap.get? b=some o'->h'.get? b=some o')->ItemsOf (λi v=>∃ t,v=.int (a+i*c) t) bN n->Q (.ref h'.objs.size) { s with heap:=h'.push { cls:=.type "tuple",data:=.seq bN },toks:=tk }) :
  wpAny (model prog w) A (call (.type "tuple") [.ref r]) Q E s:=
 callType_new F.called_tuple (by decide) (F.typeCall_tuple_1 _) (F.newCall_tuple_1 _) (λobj=>F.args_object_init_2 obj _) F.entry_tuple_new
  (WK r a b c t u v n iK hn hlen) ⟨hh,hr,λh' tk bN hk eA=>⟨⟨_,Qv _ rfl,rfl⟩,h h' tk bN hk eA⟩⟩
section
variable {X:Cx}
def Ea (mk:List V->HO):List V->Hp->VK->Prop:=λxs H Q=>∃ a j,xs=[.ref a]/\H a=some (.nO 0 j) /\ -1000<=j/\j<=1000/\∀ p,H p=none->Q (.ref p) (upd H p (mk (sM j.toNat)))
theorem WN(hc:X.calm=true):kZ X (.type "list") (Ea .lst):=by intro Tk s σ H xs us Q I r h;obtain⟨a,j,rfl,hr,j1,j2,q⟩:=h;obtain⟨u,rfl,rx⟩:=mZ r;cases rx;obtain⟨t,u,v,ho⟩:=(show d7 X.prog X.w H s.heap a (.nO 0 j)from I.aP a _ hr);refine call_list_range (I.ok.hd hc) ho (Ka (by omega) (by omega)) (Kb j) (by omega) λh' tk bN c' hk q8 eA=>?_;refine⟨.ref s.heap.objs.size,_,I.laid (t':=tk) (o:=.lst (sM j.toNat)) hk (Qj _) ⟨by rw[IH];exact Qw (by omega:j.toNat<=1000) (by decide),bN.toList,c',Kc eA,by simpa using q8⟩,rfl,q _ (I.aP.fresh (Qj _))⟩
theorem WO(hc:X.calm=true):kZ X (.type "tuple") (Ea .tup):=by
 intro Tk s σ H xs us Q I r h;obtain⟨a,j,rfl,hr,j1,j2,q⟩:=h;obtain⟨u,rfl,rx⟩:=mZ r;cases rx;obtain⟨t,u,v,ho⟩:=(show d7 X.prog X.w H s.heap a (.nO 0 j)from I.aP a _ hr);refine WM (I.ok.hd hc) ho (Ka (by omega) (by omega)) (Kb j) (by omega) λh' tk bN hk eA=>?_;have I1:Inv X Tk σ H { s with heap:=h',toks:=tk }:=I.kept hk;have I2:Inv X Tk σ (upd H h'.objs.size (.tup (sM j.toNat))) { s with heap:=h'.push { cls:=.type "tuple",data:=.seq bN },toks:=tk }:=
  I1.laid (t':=tk) (λb o e=>Qe _ e) (Qj _) (show d7 X.prog X.w _ _ _ (.tup _)from⟨by rw[IH];exact Qw (by omega:j.toNat<=1000) (by decide),bN.toList,Kc eA,by simpa using mR.new h' bN⟩)
 exact⟨.ref h'.objs.size,_,I2,rfl,q _ (I1.aP.fresh (Qj _))⟩
variable {a:Expr}{g:cf}{pos p p1 ni:Pos}
@[simp] def q9 (g:cf):aN:=λρ=>match cP g ρ with
 | some (ds,ac)=>some (.lst ds,1,ac)
 | none=>none
@[simp] def Ke (g:cf):aN:=λρ=>match cP g ρ with
 | some (ds,ac)=>some (.tup ds,9,ac)
 | none=>none
theorem Kf{mk:List V->HO}{q0:Nat}{md:List D->D}(al:∀ {ρ:a_} {σ:St} {H1:Hp} {w1:Wn} {t:Nat} {p:Addr} {vs:List V} {ds:List D},Good K ρ σ H1 w1 t->H1 p=none->af K H1 w1 .f 0 ds vs []->∃ w' F,Good K ρ σ (upd H1 p (mk vs)) w' (t+1)/\Go H1 w1 (upd H1 p (mk vs)) w'/\Rep K (upd H1 p (mk vs)) w' (.t t) q0 (md ds) (.ref p) F) :
  ∀ σ H Q,tD K (λρ=>match cP g ρ with
   | some (ds,ac)=>some (md ds,q0,ac)
   | none=>none) σ H Q->Bb (Ea mk) (HD (I_ (BC K g)) HC) σ H Q:=λσ H Q aj=>by
 obtain⟨ρ,w,t,r',q,am,gd,ee,k⟩:=aj;dsimp only at ee;split at ee;next ds ac h1=>
  cases ee;unfold cP at h1;split at h1;next n ap h2=>
   split at h1;next hn=>
    cases h1;refine⟨ρ,w,t,_,_,gd,h2,λvs H1 w1 g1 aV r1=>?_⟩;obtain⟨v,rfl,rv⟩:=one r1;have hv:=eV rv;subst hv;refine⟨n,rfl,by omega,by omega,λp hp=>⟨p,n,rfl,jh,hn.1,hn.2,λl hl=>?_⟩⟩;have ne:∀ a x,H1 a=some x->a≠p:=λa x e=>ju e hp;have st:eU H1 w1 (upd H1 p (.nO 0 n)) w1:=λa x e nn=>⟨sm (by rw[bV (ne a x e)];exact e),nn⟩;have nw:∀ a o,w1 a=some o->a≠p:=λa o e=>by obtain⟨vs,q⟩:=g1.wl a o e;exact ne a _ q
    have g2:Good K am σ (upd H1 p (.nO 0 n)) w1 t:=⟨⟨λa o e=>by
     obtain⟨us,q⟩:=g1.wl a o e;exact⟨us,by rw[bV (nw a o e)];exact q⟩,g1.wl.tb.upd rfl (.inl hp)⟩,g1.ws,g1.wt,g1.len,λi d q e=>by obtain⟨v,F,h1,h2⟩:=g1.slot i d q e;exact⟨v,F,h1,Rep.go g1.wl st h2 λa m=>⟨bV (nw a _ (h2.aY a m)),h2.aY a m⟩⟩⟩
    have bZ:Go H1 w1 (upd H1 p (.nO 0 n)) w1:=⟨st,λa o e _=>⟨bV (nw a o e),e⟩⟩;obtain⟨w',F,a1,a2,a3⟩:=al g2 hl (Wg n.toNat);exact k _ _ _ _ a1 ((aV.trans bZ).trans a2) a3
   .cases h1
  .cases h1
 .cases ee
theorem Eb(hc:X.calm=true)(hm:X.mg "list" = none)(hb:bootBuiltins "list" = some (.type "list"))(Ec:X.mg "range" = none)(ha:gy X [a] g)(hg:Gl X "list":=by rfl)(Ed:Gl X "range":=by rfl)(hs:starEach [a] X.env=[(false,eval a X.env)]:=by rfl)(he:starEach [.Call (.Name "range" p1) [a] [] ni] X.env=(false,eval (.Call (.Name "range" p1) [a] [] ni) X.env)::starEach [] X.env:=by rfl)(cE:(backTo pos (starEach [] X.env)).any (·.1)=false:=by rfl):QD X (.Call (.Name "list" p) [.Call (.Name "range" p1) [a] [] ni] [] pos) (q9 g):=⟨have ha:=ha.o;PE.imp (v7 (WN hc) hg hm hb (l0 (J_ Ed Ec ha hs) oG he) (by decide) (by decide) he cE) (Kf λg hp r=>by obtain⟨a1,a2,a3⟩:=uF g hp r;exact⟨_,_,a1,a2,a3⟩)⟩
theorem WQ(hc:X.calm=true)(hm:X.mg "tuple" = none)(hb:bootBuiltins "tuple" = some (.type "tuple"))(Ec:X.mg "range" = none)(ha:gy X [a] g)(hg:Gl X "tuple":=by rfl)(Ed:Gl X "range":=by rfl)(hs:starEach [a] X.env=[(false,eval a X.env)]:=by rfl)(he:starEach [.Call (.Name "range" p1) [a] [] ni] X.env=(false,eval (.Call (.Name "range" p1) [a] [] ni) X.env)::starEach [] X.env:=by rfl)(cE:(backTo pos (starEach [] X.env)).any (·.1)=false:=by rfl):QD X (.Call (.Name "tuple" p) [.Call (.Name "range" p1) [a] [] ni] [] pos) (Ke g):=⟨have ha:=ha.o;PE.imp (v7 (WO hc) hg hm hb (l0 (J_ Ed Ec ha hs) oG he) (by decide) (by decide) he cE) (Kf λg hp r=>by obtain⟨a1,a2,a3⟩:=wq g hp r;exact⟨_,_,a1,a2,a3⟩)⟩
end
theorem WR{M:Model}{A:Around}{E:Tl}{s:Shared}{β:Type}{n:Nat}(f:Nat->β->Sem (ForInStep β))(I:List Nat->β->Shared->Prop)(Q:β->Shared->Prop)(b:β)
  (turn:∀ x rest b s,I (x::rest) b s->wpAny M A (f x b) (λr s'=>match r with|.yield b'=>I rest b' s' | .done b'=>Q b' s') E s)
  (fin:∀ b s,I [] b s->Q b s) (h:I (List.range' 0 n 1) b s):wpAny M A (forIn [0:n] b f) Q E s:=by
 rw[Std.Legacy.Range.forIn_eq_forIn_range'];refine Z1 f I Q turn fin _ b ?_;have e:(Std.Legacy.Range.size [0:n])=n:=by simp[Std.Legacy.Range.size]
 show I (List.range' 0 (Std.Legacy.Range.size [0:n]) 1) b s;rw[e];exact h
open AutoSeq1 (wpAny_loadPart') in
theorem WS(l:Addr)(items:Array Value)(n:Nat)(dd:Option Addr)(sl:Array (Option Value))(x:Value)(e:Value->Bool)(j:Nat)(hj:j<items.size)(hit:e items[j]=true)(Dh:∀ m (hm:m<items.size),m<j->e items[m]=false) :
  Meets (Builtin.«tuple.index» ⟨[.ref l,x],[]⟩)
   (λA R s=>s.heap.get? l=some { cls:=.type "tuple",dict:=dd,data:=.seq items n,slots:=sl }/\(∀ y,y∈items->SeqAt.EqAt A.in1 s y x (e y))/\R (.ok (.ret (.int j s.toks))) { s with toks:=s.toks+1 }):=
 .of_wp λprog w A R s h=>by
  obtain⟨hp,g,d,tk,os⟩:=s;obtain⟨hl,he,h⟩:=h;wp_walk using wpAny_loadPart' hl,WR _ (λrest b s'=>b.1=none/\s'=⟨hp,g,d,tk,os⟩/\∃ i k,rest=List.range' i k 1/\i+k=items.size/\i<=j) _
  case turn=>
   rintro y rest b s' ⟨hb,rfl,i,k,hr,wC,uf⟩;cases k with
   | zero=>simp at hr
   | succ k=>
    rw[List.range'_succ]at hr;obtain⟨rfl,rfl⟩:=List.cons.inj hr;have dz:y<items.size:=by omega
    have Ee:items[y]? = some items[y]:=by simp[dz]
    rw[Ee];refine Qa (he _ (Vk dz) prog w _ _ ?_);by_cases WT:y=j
    .subst WT;rw[hit];wp_walk
     exact⟨_,rfl,h⟩
    .rw[Dh y dz (by omega)];wp_walk
     exact⟨rfl,rfl,y+1,k,rfl,by omega,by omega⟩
  case fin=>
   rintro ⟨b1,b2⟩ s' ⟨hb,rfl,i,k,hr,wC,uf⟩;cases k with
   | zero=>omega
   | succ k=>simp[List.range'_succ]at hr
  case h=>
   exact⟨rfl,rfl,0,items.size,by simp,by omega,by omega⟩
variable {F:List Addr}{H:Hp}{K:PySem.W.Frag}{N ps:List Str}{P:Program}{Q:Tl}{X:Cx}{a c i1 i2 j l p p1 p2 u z:Addr}{b bb:Bool}{base h h':Heap}{body:aK}{d:D}{ds:List D}{g1 g2:Int->Int->Option D}{h1 h2:Int->Int->V}{i n q:Nat}{mg:Str->Option Value}{o:Ow}{op mQ:CmpOp}{Tk:List (Addr×Obj)}{s:Shared}{st:Stmt}{us vs:List V}{v:Value}{w:Wn}{x:Str}{xs ys:Array Value}{ρ:a_}{σ:St}
def wD (d:D)(ds:List D):Option Nat:=(eG ds).findIdx? λy=>PyData.eqv y (b6 d)
def WU (K:PySem.W.Frag):V->List V->Hp->VK->Prop:=λx xs H Q=>∃ ds d y j,xs=[y]/\Is K H (.tup ds) x/\Is K H d y/\eS (.tup ds)=true/\eS d=true/\wD d ds=some j/\Q (.int (Int.ofNat j)) H
section
variable {X:Cx}{a b c e:Expr}{es:List Expr}{fa fb fc f:aN}{g:cf}{pos p p1 p2 aH apos:Pos}
theorem WV(hu:X.A.units+65<cLine):Bf X "tuple.index" (WU X.K):=by
 intro Tk s σ H x xs v us Q I rx rs ⟨ds,d,y,j,e,⟨w,o,q,F,h1⟩,⟨w',o',q',F',h2⟩,k1,k2,hj,hq⟩;subst e;obtain⟨u,rfl,ru⟩:=mZ rs;obtain⟨as,ra⟩:=h1.reads I rx (mh k1);obtain⟨bs,rb⟩:=h2.reads I ru (mh k2);replace k1:=mi k1;replace k2:=mi k2;unfold b6 at ra k1;have mj:PyData.canLayAll0 (eG ds)=true:=QT k1;have l3:=QT k2;cases ra with
 | @tuple a ob vs n _ _ ho kN hd sQ=>
  obtain⟨cls,dd,data,sl⟩:=ob;simp only at kN hd;subst kN hd;have lz:=Y7 _ _ _ mj sQ;have Ef:=Yg.mp hj;obtain⟨Eg,Eh,Ei⟩:=Ef;have hlen:vs.size=(eG ds).length:=by rw[<- lz];simp
  have q_:∀ m (hm:m<vs.size) (fZ:m<(eG ds).length),SeqAt.readOf s.heap vs[m]=(eG ds)[m]:=λm hm fZ=>by
   have:(vs.toList.map (SeqAt.readOf s.heap))[m]? = (eG ds)[m]?:=by rw[lz]
   simpa [hm,fZ]using this
  refine Jq Vo ⟨_,ho,rfl⟩ PySem.F.entry_tuple_index (PySem.F.args_tuple_index_2 _ _)
   (WS a vs n dd sl u (λy=>PyData.eqv (SeqAt.readOf s.heap y) (b6 d)) j (by omega) (by rw[q_ j (by omega) Eg];simpa using Eh) (λm hm Ej=>by rw[q_ m hm (by omega)];simpa using Ei m Ej)) ⟨ho,Vx sQ rb mj l3 (Jw k2 hu),?_⟩
  exact⟨.int (Int.ofNat j),H,I.tok _,⟨_,rfl⟩,hq⟩
@[simp] def Ek (fo:aN)(g:cf):aN:=λρ=>match fo ρ with
 | some (.tup ds,_,ac)=>match g ac with
  | some ([d],ap)=>if eS (.tup ds)=true/\eS d=true then match wD d ds with
   | some j=>some (.int (Int.ofNat j),9,ap)
   | none=>none
   else none
  | _=>none
 | _=>none
theorem WW{k:Nat}(hr:bC k X.A)(ho:QD X a fa)(ha:gy X [e] g)(c_:attributeBase a "index" X.env (eval a X.env)=eval a X.env:=by rfl)(fA:((backTo aH (starEach [e] X.env)).all (λx=>!x.1)&&(backToKw aH (keywordEach [] X.env)).all (λx=>x.1.isSome)
   && decide ([e].length+([]:List Keyword).length+(if([]:List Keyword).isEmpty then 0 else 1)<30))=true:=by rfl) (da:(apos.endLine==aH.line)=true:=by rfl) (hs:starEach [e] X.env=(false,eval e X.env)::starEach [] X.env:=by rfl) (cG:(backTo aH (starEach [] X.env)).any (·.1)=false:=by rfl):QD X (.Call (.Attribute a "index" apos) [e] [] aH) (Ek fa g):=⟨have ho:=ho.o;have ha:=ha.o;PE.imp (v_ PySem.F.plainAttrs_tuple Vo PySem.F.type_tuple_index (WV (yr hr)) ho ha c_ fA da hs cG) λσ H Q aj=>by
 obtain⟨ρ,w,t,r',q,am,gd,ee,k⟩:=aj;unfold Ek at ee;split at ee;next ds q1 ac h1=>
  split at ee;next d ap h2=>
   split at ee;next aP=>
    split at ee;next j hj=>
     cases ee;refine⟨ρ,w,t,_,_,_,gd,h1,λv H1 w1 F1 g1 aV r1=>?_⟩;have r0:=r1.drop (o:=.f) (Qj t);have gg:=g1.drop (t':=t);obtain⟨p0,vs,rfl,hq,rs⟩:=r0.yn;refine⟨?_,ac,dv t w1,t,_,_,gg,h2,λKg H2 w2 g2 bZ r2=>?_⟩
     .exact .inr (.inl ⟨rfl,.inr ⟨_,hq⟩⟩)
     .obtain⟨v2,rfl,yv⟩:=one r2;have r3:Rep X.K H2 w2 .f 0 (.tup ds) (.ref p0) []:=r0.lj gg.wl bZ.cu;exact⟨ds,d,v2,j,rfl,⟨_,_,_,_,r3⟩,⟨_,_,_,_,yv⟩,aP.1,aP.2,hj,k _ H2 w2 [] g2.up ((aV.drop gd.wt).trans bZ) (.int _)⟩
    .cases ee
   .cases ee
  .cases ee
 .cases ee⟩
theorem Good.mut{t:Nat}(g:Good K ρ σ H w t)(e:ρ[i]? = some (some (.lst ds,1))) :
  ∃ l vs,σ[i]? = some (some (.ref l))/\H l=some (.lst vs)/\af K H w .f 0 ds vs []/\∀ m8 m9,af K H w .f 0 m8 m9 []->
   Good K (ρ.set i (some (.lst m8,1))) σ (upd H l (.lst m9)) w t/\Go H w (upd H l (.lst m9)) w:=by
 obtain⟨v,F,h1,h2⟩:=g.slot i _ _ e;obtain⟨l,vs,rfl,F',rfl,hl,hw,rs,ne⟩:=h2.inv
 .have hF:=rs.zero;subst hF;refine⟨l,vs,h1,hl,rs.any g.wl,λm8 m9 r'=>?_⟩;have nl:∀ a o,w a=some o->o ≠ .s i->a≠l:=λa o e n z=>by subst z;rw[hw]at e;exact n (QI e).symm
  have nn:∀ a,w a=none->a≠l:=λa e z=>by subst z;rw[hw]at e;cases e
  have st:eU H w (upd H l (.lst m9)) w:=λa x h n=>⟨sm (by rw[bV (nn a n)];exact h),n⟩;refine⟨⟨⟨λa o h=>?_,g.wl.tb.upd rfl (.inr (g.wl l _ hw))⟩,g.ws,g.wt,by rw[QL];exact g.len,λj d' q' e'=>?_⟩,⟨st,λa o h n=>⟨bV (nl a o h (n i)),h⟩⟩⟩
  .by_cases z:a=l
   .subst z;exact⟨.l _,jh⟩
   .obtain⟨us,q⟩:=g.wl a o h;exact⟨us,by rw[bV z];exact q⟩
  .by_cases hj:i=j
   .subst hj;rw[QN (Qy.mp e).1]at e';cases e';exact⟨_,_,h1,.own jh hw (af.go g.wl st r' nM) (λz=>nomatch z)⟩
   .rw[QP hj]at e';obtain⟨v',F',wF,uQ⟩:=g.slot j d' q' e';exact⟨v',F',wF,Rep.go g.wl st uQ λa m=>⟨bV (nl a _ (uQ.aY a m) (λz=>hj (by cases z;rfl))),uQ.aY a m⟩⟩
@[simp] def uR:Option (OD)->Bool
 | some (some (.lst _,_))=>true
 | _=>false
theorem Good.df{t:Nat}(g:Good K ρ σ H w t)(h:uR ρ[i]? = true):∃ l,σ[i]? = some (some (.ref l))/\∃ vs,dE K H l vs:=by
 unfold uR at h;split at h;next ds q e=>
  obtain⟨v,F,h1,h2⟩:=g.slot i _ _ e;obtain⟨p,vs,_,_,rfl,hq,_⟩:=h2.qW;exact⟨p,h1,vs,hq⟩
 .cases h
@[simp] def kO (i:Nat)(g:cf):aN:=λρ=>if uR ρ[i]? = true then match g ρ with
 | some ([d],ac)=>match ac[i]? with
  | some (some (.lst ds,1))=>if ds.length<=1000 then some (.bc,9,ac.set i (some (.lst (ds++[d]),1)))else none
  | _=>none
 | _=>none
 else none
theorem nW(h:QE X (.Name x p1) (lX i))(ha:gy X [e] g)(c_:attributeBase (.Name x p1) "append" X.env (eval (.Name x p1) X.env)=eval (.Name x p1) X.env:=by rfl)(fA:((backTo aH (starEach [e] X.env)).all (λx=>!x.1)&&(backToKw aH (keywordEach [] X.env)).all (λx=>x.1.isSome)
   && decide ([e].length+([]:List Keyword).length+(if([]:List Keyword).isEmpty then 0 else 1)<30))=true:=by rfl) (da:(apos.endLine==aH.line)=true:=by rfl) (hs:starEach [e] X.env=(false,eval e X.env)::starEach [] X.env:=by rfl) (cG:(backTo aH (starEach [] X.env)).any (·.1)=false:=by rfl):QD X (.Call (.Attribute (.Name x p1) "append" apos) [e] [] aH) (kO i g):=⟨have h:=h.o;have ha:=ha.o;PE.imp (v_ Z4 PySem.F.slot_list_append PySem.F.type_list_append Tw h ha c_ fA da hs cG) λσ H Q aj=>by
 obtain⟨ρ,w,t,r',q,am,gd,ee,k⟩:=aj;unfold kO at ee;split at ee;next hl=>
  obtain⟨l,jz,us,hq⟩:=gd.df hl;split at ee;next d ac h1=>
   split at ee;next ds e1=>
    split at ee;next hlen=>
     cases ee;refine⟨_,jz,.inl ⟨rfl,us,hq⟩,ρ,w,t,_,_,gd,h1,λvs H1 w1 g1 aV r1=>?_⟩;obtain⟨v,rfl,rv⟩:=one r1;obtain⟨l',ws,iL,hH,rs,mk⟩:=g1.mut e1;rw[jz]at iL;cases iL;have r2:af X.K H1 w1 .f 0 (ds++[d]) (ws++[v]) []:=af.snoc (F:=[]) (G:=[]) rv rs nM;obtain⟨m1,m2⟩:=mk _ _ r2;refine⟨l,ws,v,rfl,rfl,hH,by rw[<- rs.length];exact wa hlen,?_⟩;exact k .bc _ w1 [] m1.up (aV.trans m2) .bc
    .cases ee
   .cases ee
  .cases ee
 .cases ee⟩
theorem af.eraseIdx:∀ {ds:List D} {vs:List V} (i:Nat),af K H w .f 0 ds vs []->af K H w .f 0 (ds.eraseIdx i) (vs.eraseIdx i) []
 | ds,vs,i,r=>by
  generalize hF:([]:List Addr)=F at r;cases r with
  | nil=>exact .nil
  | @cons _ d v ds vs F G r s _=>
   have h1:F=[]:=r.zero;have h2:G=[]:=s.zero;subst h1 h2;cases i with
   | zero=>exact s
   | succ j=>exact .cons (F:=[]) (G:=[]) r (af.eraseIdx j s) nM
@[simp] def yw (i:Nat)(g:cf):aN:=λρ=>if uR ρ[i]? = true then match g ρ with
 | some ([.int n],ac)=>match ac[i]? with
  | some (some (.lst ds,1))=>if -1000<=n/\n<=1000 then match seqIndex? n ds.length with
   | some j=>match ds[j]? with
    | some d=>some (d,dP d,ac.set i (some (.lst (ds.eraseIdx j),1)))
    | none=>none
   | none=>none
   else none
  | _=>none
 | _=>none
 else none
theorem WX(h:QE X (.Name x p1) (lX i))(ha:gy X [e] g)(c_:attributeBase (.Name x p1) "pop" X.env (eval (.Name x p1) X.env)=eval (.Name x p1) X.env:=by rfl)(fA:((backTo aH (starEach [e] X.env)).all (λx=>!x.1)&&(backToKw aH (keywordEach [] X.env)).all (λx=>x.1.isSome)
   && decide ([e].length+([]:List Keyword).length+(if([]:List Keyword).isEmpty then 0 else 1)<30))=true:=by rfl) (da:(apos.endLine==aH.line)=true:=by rfl) (hs:starEach [e] X.env=(false,eval e X.env)::starEach [] X.env:=by rfl) (cG:(backTo aH (starEach [] X.env)).any (·.1)=false:=by rfl):QD X (.Call (.Attribute (.Name x p1) "pop" apos) [e] [] aH) (yw i g):=⟨have h:=h.o;have ha:=ha.o;PE.imp (v_ Z4 PySem.F.slot_list_pop PySem.F.type_list_pop TF h ha c_ fA da hs cG) λσ H Q aj=>by
 obtain⟨ρ,w,t,r',q,am,gd,ee,k⟩:=aj;unfold yw at ee;split at ee;next hl=>
  obtain⟨l,jz,us,hq⟩:=gd.df hl;split at ee;next n ac h1=>
   split at ee;next ds e1=>
    split at ee;next hn=>
     split at ee;next j hj=>
      split at ee;next d hd=>
       cases ee;refine⟨_,jz,.inl ⟨rfl,us,hq⟩,ρ,w,t,_,_,gd,h1,λvs H1 w1 g1 aV r1=>?_⟩;obtain⟨v,rfl,rv⟩:=one r1;have hv:=eV rv;subst hv;obtain⟨l',ws,iL,hH,rs,mk⟩:=g1.mut e1;rw[jz]at iL;cases iL;obtain⟨y,hy,ry⟩:=rs.get hd;obtain⟨m1,m2⟩:=mk _ _ (rs.eraseIdx j);refine⟨l,ws,n,j,y,rfl,rfl,hH,by omega,by omega,by rw[<- rs.length];exact hj,hy,?_⟩;have WY:Rep X.K _ w1 (.t t) 0 r' y []:=Rep.go g1.wl m2.cu ry nM;exact k y _ w1 [] m1.up (aV.trans m2) WY.m7
      .cases ee
     .cases ee
    .cases ee
   .cases ee
  .cases ee
 .cases ee⟩
end
theorem af.yx:∀ {ds:List D} {vs:List V} {F:List Addr} {i:Nat} {d:D},af K H w o q ds vs F->ds[i]? = some d->∃ v G,vs[i]? = some v/\Rep K H w o q d v G/\∀ a∈G,a∈F
 | _,_,_,_,_,.nil,e=>by simp at e
 | _,_,_,0,_,.cons r _ _,e=>by simp at e;subst e;exact⟨_,_,rfl,r,λa m=>Q2 _ m⟩
 | _,_,_,i+1,d,.cons _ s _,e=>by obtain⟨v,G,h1,h2,h3⟩:=af.yx (i:=i) (d:=d) s (by simpa using e);exact⟨v,G,by simpa using h1,h2,λa m=>Qt _ (h3 a m)⟩
theorem af.Kh{i:Int}(r:af K H w o q ds vs F)(h:L2.fK ds i=some d):∃ v G,L2.fK vs i=some v/\Rep K H w o q d v G/\∀ a∈G,a∈F:=by
 unfold L2.fK at h ⊢;rw[<- r.length];cases e:k9 ds.length i with
 | none=>rw[e]at h;cases h
 | some j=>
  rw[e]at h;exact r.yx h
@[simp] def aw (n:Nat)(fb:aN):aN:=λρ=>match ρ[n]? with
 | some (some _)=>match fb ρ with
  | some (.int i,_,ap)=>match ap[n]? with
   | some (some (x,q))=>match dJ x i with
    | some d=>if d.df=true/\1<q/\x.df=true then none else some (d,dP d,ap)
    | none=>none
   | _=>none
  | _=>none
 | _=>none
section
variable {X:Cx}{a b c e:Expr}{es:List Expr}{fa fb fc f:aN}{g:cf}{pos p p1 p2 aH apos:Pos}
theorem aW(h:QE X (.Name x p1) (lX n))(hb:QD X b fb)(hs:v8 b:=by exact λ_ _=>rfl):QD X (.Subscript (.Name x p1) b pos) (aw n fb):=⟨have h:=h.o;have hb:=hb.o;PE.imp (xW xX h hb hs) λσ H Q aj=>by
 obtain⟨ρ,w,t,r',q,am,gd,ee,k⟩:=aj;unfold aw at ee;split at ee;next z0 e0=>
  obtain⟨d0,q0⟩:=z0;obtain⟨v,F,jz,_⟩:=gd.slot n d0 q0 e0;split at ee;next i q2 ap h2=>
   split at ee;next x q e2=>
    split at ee;next d hd=>
     split at ee
     .cases ee
     next hn=>
      cases ee;refine⟨v,jz,ρ,w,t,_,_,_,gd,h2,λy H2 w2 F2 g2 go r2=>?_⟩;have hy:=eV r2;subst hy;have gg:=g2.drop (t':=t);obtain⟨v',F',iL,rr⟩:=gg.slot n x q e2;rw[jz]at iL;cases iL;have fin:∀ u,Rep X.K H2 (dv t w2) (.t t) 0 r' u []->Q u H2:=λu ru=>k u H2 (dv t w2) [] gg.up (go.drop gd.wt) ru.m7;cases x with
      | lst ds=>
       by_cases WZ:q=0
       .subst WZ;obtain⟨p0,vs,rfl,hq,rs⟩:=rr.fV;obtain⟨u,hu,ru⟩:=rs.fK hd;exact .inl ⟨p0,vs,i,u,rfl,rfl,hq,hu,fin u (ru.any gg.wl)⟩
       .by_cases El:q=1
        .subst El;obtain⟨_,_,rfl,_,rfl,h0,_,rs,_⟩:=rr.inv
         .have z0:=rs.zero;subst z0;obtain⟨u,hu,ru⟩:=rs.fK hd;exact .inl ⟨_,_,i,u,rfl,rfl,dE.of h0,hu,fin u (ru.any gg.wl)⟩
        .obtain⟨p0,vs,q',G,rfl,hq,rs⟩:=rr.qW;obtain⟨u,G',hu,ru,_⟩:=rs.Kh hd;refine .inl ⟨p0,vs,i,u,rfl,rfl,hq,hu,fin u ?_⟩;cases hL:r'.df with
         | false=>exact((ru.d_ hL).2 0).any gg.wl
         | true=>exact absurd ⟨hL,by omega,rfl⟩ hn
      | tup ds=>
       obtain⟨p0,vs,rfl,hq,rs⟩:=rr.eX;obtain⟨u,hu,ru⟩:=rs.fK hd;exact .inr (.inl ⟨p0,vs,i,u,rfl,rfl,hq,hu,fin u (ru.any gg.wl)⟩)
      | _=>cases hd
    .cases ee
   .cases ee
  .cases ee
 .cases ee⟩
@[simp] def nX (fa fb:aN):aN:=λρ=>match fa ρ with
 | some (.lst ds,1,ac)=>match fb ac with
  | some (.int n,_,ap)=>if -1000<=n/\n<=1000/\ds.length*n.toNat<=1000 then some (.lst (replicate n.toNat ds).flatten,1,ap)else none
  | _=>none
 | _=>none
theorem af.app{es:List D}(s:af K H w .f 0 es us []):∀ {ds:List D} {vs:List V},af K H w .f 0 ds vs []->af K H w .f 0 (ds++es) (vs++us) []
 | ds,vs,r=>by
  generalize hF:([]:List Addr)=F at r;cases r with
  | nil=>rw[<- hF];exact s
  | @cons _ d v ds vs F G r t _=>
   have h1:F=[]:=r.zero;have h2:G=[]:=t.zero;subst h1 h2;exact .cons (F:=[]) (G:=[]) r (af.app s t) nM
theorem af.times(r:af K H w .f 0 ds vs []):∀ n:Nat,af K H w .f 0 (replicate n ds).flatten (replicate n vs).flatten []
 | 0=>.nil
 | n+1=>by rw[ZX,ZX,Jm,Jm];exact af.app (af.times r n) r
theorem BO(ha:QD X a fa)(hb:QD X b fb):QD X (.BinOp a .Mult b pos) (nX fa fb):=⟨have ha:=ha.o;have hb:=hb.o;PE.imp (sg TJ ha hb) λσ H Q aj=>by
 obtain⟨ρ,w,t,r',q,am,gd,ee,k⟩:=aj;unfold nX at ee;split at ee;next ds ac h1=>
  split at ee;next n q2 ap h2=>
   split at ee;next hn=>
    cases ee;refine sF gd h1 h2 λu u' H2 w2 F1 F2 g2 go r1 r2=>?_;have oO:=eV r2;subst oO;obtain⟨l,vs,rfl,F,rfl,hl,hw,rs,ne⟩:=r1.inv
    .have hF:=rs.zero;subst hF;have gg:=g2.drop (t':=t);have BP:af X.K H2 (dv t w2) .f 0 ds vs []:=af.go g2.wl (λa x h n=>⟨sm h,By n⟩) rs nM;refine⟨l,n,vs,rfl,rfl,hl,by omega,by omega,?_,λp hp=>?_⟩
     .rw[<- rs.length];exact sI hn.2.2
     .obtain⟨a1,a2,a3⟩:=uF gg hp (BP.times n.toNat);exact k _ _ _ _ a1 ((go.drop gd.wt).trans a2) a3
   .cases ee
  .cases ee
 .cases ee⟩
end
theorem af.row(wl:WL K w H):∀ {rows:List D} {vs:List V} {F:List Addr} {i:Nat} {row:List D},af K H w o 1 rows vs F->rows[i]? = some (.lst row)->
  ∃ b ws,vs[i]? = some (.ref b)/\H b=some (.lst ws)/\w b=some o/\b∈F/\af K H w .f 0 row ws [] /\
   ∀ i_ ml,af K H w .f 0 i_ ml []->af K (upd H b (.lst ml)) w o 1 (rows.set i (.lst i_)) vs F
 | _,_,_,_,_,.nil,e=>by simp at e
 | _,_,_,0,row,.cons r s ne,e=>by
  simp at e;subst e;cases r with
  | @own _ b ws _ F' hb hw rs nb=>
   have hF:=rs.zero;subst hF;refine⟨b,ws,rfl,hb,hw,by simp,rs.any wl,λi_ ml r'=>?_⟩;have nn:∀ a,w a=none->a≠b:=λa e z=>by subst z;rw[hw]at e;cases e
   have st:eU H w (upd H b (.lst ml)) w:=λa x h n=>⟨sm (by rw[bV (nn a n)];exact h),n⟩;refine .cons (.own jh hw (af.go wl st r' nM) (λz=>nomatch z)) (af.go wl st s λa m=>⟨bV λz=>?_,s.aY a m⟩) ne;subst z;exact ne a (by simp) m
 | _,_,_,i+1,row,.cons (d:=d) (v:=v) (F:=F) (G:=G) r s ne,e=>by
  obtain⟨b,ws,h1,h2,h3,h4,h5,mk⟩:=af.row wl (i:=i) (row:=row) s (by simpa using e);refine⟨b,ws,by simpa using h1,h2,h3,Qt _ h4,h5,λi_ ml r'=>?_⟩;have nn:∀ a,w a=none->a≠b:=λa e z=>by subst z;rw[h3]at e;cases e
  have st:eU H w (upd H b (.lst ml)) w:=λa x h n=>⟨sm (by rw[bV (nn a n)];exact h),n⟩;refine .cons (Rep.go wl st r λa m=>⟨bV λz=>?_,r.aY a m⟩) (mk i_ ml r') ne;subst z;exact ne a m h4
theorem Good.Em{t m:Nat}{rows row:List D}(g:Good K ρ σ H w t)(e:ρ[i]? = some (some (.lst rows,2)))(em:rows[m]? = some (.lst row)) :
  ∃ l vs b ws,σ[i]? = some (some (.ref l))/\dE K H l vs/\vs.length=rows.length/\vs[m]? = some (.ref b)/\H b=some (.lst ws)/\af K H w .f 0 row ws []/\∀ i_ ml,af K H w .f 0 i_ ml []->
   Good K (ρ.set i (some (.lst (rows.set m (.lst i_)),2))) σ (upd H b (.lst ml)) w t/\Go H w (upd H b (.lst ml)) w:=by
 obtain⟨v,F,h1,h2⟩:=g.slot i _ _ e;obtain⟨l,vs,rfl,F',rfl,hl,hw,rs,nl⟩:=h2.inv
 .obtain⟨b,ws,b1,b2,b3,b4,b5,mk⟩:=af.row g.wl rs em;have yy:l≠b:=λz=>by subst z;exact nl b4
  refine⟨l,vs,b,ws,h1,dE.of hl,rs.length.symm,b1,b2,b5,λi_ ml r'=>?_⟩;have Ki:∀ a o,w a=some o->o ≠ .s i->a≠b:=λa o e n z=>by subst z;rw[b3]at e;exact n (QI e).symm
  have nn:∀ a,w a=none->a≠b:=λa e z=>by subst z;rw[b3]at e;cases e
  have st:eU H w (upd H b (.lst ml)) w:=λa x h n=>⟨sm (by rw[bV (nn a n)];exact h),n⟩;refine⟨⟨⟨λa o h=>?_,g.wl.tb.upd rfl (.inr (g.wl b _ b3))⟩,g.ws,g.wt,by rw[QL];exact g.len,λj d' q' e'=>?_⟩,⟨st,λa o h n=>⟨bV (Ki a o h (n i)),h⟩⟩⟩
  .by_cases z:a=b
   .subst z;exact⟨.l _,jh⟩
   .obtain⟨us,q⟩:=g.wl a o h;exact⟨us,by rw[bV z];exact q⟩
  .by_cases hj:i=j
   .subst hj;rw[QN (Qy.mp e).1]at e';cases e';exact⟨_,_,h1,.own (by rw[bV yy];exact hl) hw (mk i_ ml r') nl⟩
   .rw[QP hj]at e';obtain⟨v',F',wF,uQ⟩:=g.slot j d' q' e';exact⟨v',F',wF,Rep.go g.wl st uQ λa m=>⟨bV (Ki a _ (uQ.aY a m) (λz=>hj (by cases z;rfl))),uQ.aY a m⟩⟩
theorem af.yz{v:V}(rv:Rep K H w .f 0 d v []):∀ {ds:List D} {vs:List V} (i:Nat),af K H w .f 0 ds vs []->af K H w .f 0 (ds.set i d) (vs.set i v) []
 | ds,vs,i,r=>by
  generalize hF:([]:List Addr)=F at r;cases r with
  | nil=>rw[<- hF];exact .nil
  | @cons _ d' v' ds vs F G r s _=>
   have h1:F=[]:=r.zero;have h2:G=[]:=s.zero;subst h1 h2;cases i with
   | zero=>exact .cons (F:=[]) (G:=[]) rv s nM
   | succ j=>exact .cons (F:=[]) (G:=[]) r (af.yz rv j s) nM
abbrev nj:=a_->Option Int
def tQ (K:PySem.W.Frag)(f:nj):TE:=λσ H Q=>∃ ρ w t i,Good K ρ σ H w t/\f ρ=some i/\Q (.int i) H
abbrev PQ (X:Cx)(e:Expr)(f:nj):Prop:=PE X e (tQ X.K f)
structure QQ (X:Cx) (e:Expr) (f:nj):Prop where mk::o:PQ X e f
@[simp] def uS (n:Nat):nj:=λρ=>match ρ[n]? with
 | some (some (.int i,_))=>some i
 | _=>none
@[simp] def uT (n:Nat)(f:nj):nj:=λρ=>match f ρ with
 | some i=>match ρ[n]? with
  | some (some (x,_))=>match dJ x i with
   | some (.int j)=>some j
   | _=>none
  | _=>none
 | none=>none
section
variable {X:Cx}{a b c e:Expr}{es:List Expr}{fa fb fc f:aN}{qa qb:nj}{g:cf}{pos p p1 p2 aH apos:Pos}
theorem Kj(h:QE X (.Name x p1) (lX n)):QQ X (.Name x p1) (uS n):=⟨have h:=h.o;PE.imp h λσ H Q aj=>by
 obtain⟨ρ,w,t,i,gd,ee,k⟩:=aj;unfold uS at ee;split at ee;next j q e0=>
  cases ee;obtain⟨v,F,h1,h2⟩:=gd.slot n _ _ e0;rw[eV h2]at h1;exact⟨_,h1,k⟩
 .cases ee⟩
theorem Kk(h:QE X (.Name x p1) (lX n))(hb:QQ X b qb)(hs:v8 b:=by exact λ_ _=>rfl):QQ X (.Subscript (.Name x p1) b pos) (uT n qb):=⟨have h:=h.o;have hb:=hb.o;PE.imp (xW xX h hb hs) λσ H Q aj=>by
 obtain⟨ρ,w,t,i,gd,ee,k⟩:=aj;unfold uT at ee;split at ee;next i0 h0=>
  split at ee;next x q e0=>
   split at ee;next j hj=>
    cases ee;obtain⟨v,F,h1,h2⟩:=gd.slot n _ _ e0;refine⟨v,h1,ρ,w,t,i0,gd,h0,?_⟩;cases x with
    | lst ds=>
     obtain⟨p0,vs,q',G,rfl,hq,rs⟩:=h2.qW;obtain⟨u,G',hu,ru,_⟩:=rs.Kh hj;rw[eV ru]at hu;exact .inl ⟨p0,vs,i0,_,rfl,rfl,hq,hu,k⟩
    | tup ds=>
     obtain⟨p0,vs,rfl,hq,rs⟩:=h2.eX;obtain⟨u,hu,ru⟩:=rs.fK hj;rw[eV ru]at hu;exact .inr (.inl ⟨p0,vs,i0,_,rfl,rfl,hq,hu,k⟩)
    | _=>cases hj
   .cases ee
  .cases ee
 .cases ee⟩
@[simp] def yA (n:Nat)(qi qj:nj)(fe:aN):aK:=λρ=>match fe ρ with
 | some (d,_,ac)=>match qi ac,qj ac,ac[n]? with
  | some i,some j,some (some (.lst rows,2))=>match k9 rows.length i with
   | some m=>match rows[m]? with
    | some (.lst row)=>match k9 row.length j with
     | some k=>some (.nx (ac.set n (some (.lst (rows.set m (.lst (row.set k d))),2))))
     | none=>none
    | _=>none
   | none=>none
  | _,_,_=>none
 | none=>none
theorem W2(h:QE X (.Name x p1) (lX n))(ha:QQ X a qa)(hb:QQ X b qb)(he:QD X e f)(hi:v8 a:=by exact λ_ _=>rfl)(En:∀ v,assign (.Subscript (.Subscript (.Name x p1) a p2) b p) X.env v=(do
   let ov <- holding [v] (eval (.Subscript (.Name x p1) a p2) X.env)
   let iv <- holding [v,ov] (eval b X.env)
   standAt p
   holding [v,ov,iv] (setItem ov iv v)
   release [v,ov,iv] []):=by exact λ_=>rfl) (hs:swapsWithSole [.Subscript (.Subscript (.Name x p1) a p2) b p] e pos.line X.env=pure false:=by rfl):l_ X (.Assign [.Subscript (.Subscript (.Name x p1) a p2) b p] e pos) (yA n qa qb f):=⟨have h:=h.o;have ha:=ha.o;have hb:=hb.o;have he:=he.o;by
 refine PS.imp (RY he (RX (xW xX h ha hi) hb Tn En) hs) λD σ H ⟨ρ,w,o,gd,ee,k⟩=>?_;unfold yA at ee;split at ee;next d q0 ac h1=>
  split at ee;next i j rows hi hj er=>
   split at ee;next m hm=>
    split at ee;next row Eo=>
     split at ee;next kk hk=>
      cases ee;refine⟨ρ,w,0,d,q0,ac,gd,h1,λv H1 w1 F1 g1 aV r1=>?_⟩;have rv:=r1.drop (o:=.f) (Qj 0);have gg:=g1.drop (t':=0);obtain⟨l,vs,b0,ws,m1,m2,m3,m4,m5,m6,mk⟩:=gg.Em er Eo;refine⟨_,m1,ac,dv 0 w1,0,i,gg,hi,.inl ⟨l,vs,i,.ref b0,rfl,rfl,m2,?_,ac,dv 0 w1,0,j,gg,hj,b0,ws,j,kk,rfl,rfl,m5,?_,?_⟩⟩
      .unfold fK;rw[m3,hm];exact m4
      .rw[<- m6.length];exact hk
      .obtain⟨n1,n2⟩:=mk _ _ (m6.yz rv kk);exact k _ _ _ rfl n1 ((aV.drop gd.wt).trans n2)
     .cases ee
    .cases ee
   .cases ee
  .cases ee
 .cases ee⟩
end
@[simp] def mn (fa fb:aN):aN:=λρ=>match fa ρ with
 | some (.bl b,_,ac)=>if b=true then fb ac else some (.bl false,9,ac)
 | _=>none
@[simp] def Ep (fa:aN):aN:=λρ=>match fa ρ with
 | some (.bl b,_,ac)=>some (.bl (!b),9,ac)
 | _=>none
section
variable {X:Cx}{a b c e:Expr}{es rest:List Expr}{fa fb fc f:aN}{g:cf}{pos p p1 p2 aH apos:Pos}
theorem sR{op}(h:QD X a fa):QD X (.BoolOp op [a] pos) fa:=⟨have h:=h.o;Rr h⟩
theorem sS(ha:QD X a fa)(hb:QD X (.BoolOp .And (b::rest) pos) fb):QD X (.BoolOp .And (a::b::rest) pos) (mn fa fb):=⟨have ha:=ha.o;have hb:=hb.o;PE.imp (Rt ha hb) λσ H Q aj=>by
 obtain⟨ρ,w,t,r',q,am,gd,ee,k⟩:=aj;unfold mn at ee;split at ee;next b' q1 ac h1=>
  refine⟨ρ,w,t,_,_,_,gd,h1,λv H1 w1 F1 g1 aV r1=>?_⟩;obtain⟨rfl,rfl⟩:=r1.inv;refine⟨b',rfl,?_⟩;split at ee
  .rename_i hb;rw[Qh hb]
   exact⟨ac,dv t w1,t,r',q,am,g1.drop,ee,λv H2 w2 F g2 bZ=>k v H2 w2 F g2 ((aV.drop gd.wt).trans bZ)⟩
  .rename_i hb;rw[Ql hb]
   cases ee;exact k _ H1 w1 [] g1 aV (.bl false)
 .cases ee⟩
theorem W3(ha:QD X a fa):QD X (.UnaryOp .Not a pos) (Ep fa):=⟨have ha:=ha.o;PE.imp (Ru ha) λσ H Q aj=>by
 obtain⟨ρ,w,t,r',q,am,gd,ee,k⟩:=aj;unfold Ep at ee;split at ee;next b' q1 ac h1=>
  cases ee;refine⟨ρ,w,t,_,_,_,gd,h1,λv H1 w1 F1 g1 aV r1=>?_⟩;exact⟨b',r1.inv.1,k _ H1 w1 [] g1 aV (.bl _)⟩
 .cases ee⟩
end
section
variable {es rest:List Expr}{a b c e:Expr}{pos:Pos}{env:Env}
theorem eZ{op}:starEach (.BinOp a op b pos::rest) env=(false,eval (.BinOp a op b pos) env)::starEach rest env:=by simp only[starEach]
theorem W4{op}:starEach (.UnaryOp op a pos::rest) env=(false,eval (.UnaryOp op a pos) env)::starEach rest env:=by simp only[starEach]
theorem W5:starEach (.IfExp a b c pos::rest) env=(false,eval (.IfExp a b c pos) env)::starEach rest env:=by simp only[starEach]
theorem nY{g sc}:starEach (.ListComp a g sc pos::rest) env=(false,eval (.ListComp a g sc pos) env)::starEach rest env:=by simp only[starEach]
theorem bO{k}:starEach (.Call a es k pos::rest) env=(false,eval (.Call a es k pos) env)::starEach rest env:=by simp only[starEach]
theorem nq{v k}:starEach (.Constant v k pos::rest) env=(false,eval (.Constant v k pos) env)::starEach rest env:=by simp only[starEach]
theorem dY:starEach (.Subscript a b pos::rest) env=(false,eval (.Subscript a b pos) env)::starEach rest env:=by simp only[starEach]
theorem bT{x}:starEach (.Name x pos::rest) env=(false,eval (.Name x pos) env)::starEach rest env:=by simp only[starEach]
theorem yB:starEach (.List es pos::rest) env=(false,eval (.List es pos) env)::starEach rest env:=by simp only[starEach]
theorem wG{k}:starEach (.Tuple es k pos::rest) env=(false,eval (.Tuple es k pos) env)::starEach rest env:=by simp only[starEach]
end
def At (K:PySem.W.Frag)(mg:Str->Option Value)(x:Str)(st:Stmt)(ps:List Str):Prop:=
 ∃ f fd,oM K x x st f fd/\mg x=some (.ref f)/\qK K fd ps []
def au (P:Program)(w:World)(K:PySem.W.Frag)(mg:Str->Option Value)(base:Heap)(k:Nat)(x:Str)(n:Nat)(F:List D->OD):Prop:=
 ∃ f fd ps,fz P w K mg base kJ k f fd ps (ng K n F)/\mg x=some (.ref f)/\W.keepIn K (.ref f)=true/\qK K fd ps []
theorem au.mk{w:World}{k:Nat}(a:At K mg x st ps)(S:ae N ps (bw st))
  (h:∀ (f:Addr) (cB:Value) (A:Around) (outer:List Env) (s:Shared) (H:Hp) (E:XK),bC k (A.deeper (envOfC x (bw st) s.heap.objs.size f cB))->BG (nP kJ P w K mg base N x (bw st) f cB A outer s H E).j4 (kI st) body) :
  au P w K mg base (k+1) x ps.length (bX N.length body):=by obtain⟨f,fd,F,m,b⟩:=a;exact⟨f,fd,ps,II F S (h f),m,F.kp,b⟩
section
variable {X:Cx}{a b c e:Expr}{es rest:List Expr}{fa fb fc f:aN}{g:cf}{pos p p1 p2 aH apos:Pos}
theorem aZ{j k:Nat}{F:List D->OD}(C:au X.prog X.w X.K X.mg X.base k x n F)(hr:bC j X.A)(ha:gy X (e::es) g)(hg:Gl X x:=by rfl)(ib:(x==("__debug__":Str))=false:=by decide)(he:starEach (e::es) X.env=(false,eval e X.env)::starEach es X.env:=by rfl)(cE:(backTo pos (starEach es X.env)).any (·.1)=false:=by rfl)(hk:k<=j:=by decide):QD X (.Call (.Name x p) (e::es) [] pos) (aG F n g):=⟨have ha:=ha.o;by obtain⟨f,fd,ps,G,hm,yC,hb⟩:=C;exact U8 G (hr.mono hk) hm yC hb TV ha hg ib he cE⟩
end
theorem TB.only(h:Dt H)(hn:∀ x∈wj,W.tabIn K x=none):TB K H:=by refine⟨λP ps e=>?_,λP ps e=>?_,λx hx c P e=>by rw[hn x hx]at e;cases e⟩<;>rcases h P with z|⟨o,xs,z⟩<;>rw[e]at z<;>cases z
theorem W6{F:List D->OD}(h:∀ ns:List Int,ns.length<=63->∃ q,F [.lst (ns.map D.int)]=some (.bl true,q)){ns:List Int}(hl:ns.length<=63)(hS:dE K H a (ns.map V.int))(tb:TB K H){E:XK} :
  ng K 1 F [.ref a] H (λv _=>v=.bl true) E:=by
 obtain⟨q,e⟩:=h ns hl;have r:Rep K H (λ_=>none) .f 0 (.lst (ns.map D.int)) (.ref a) []:=by
  rcases dE.cases hS with z|z
  .exact .shr z rfl (BI ns)
  .exact .kl z (BI ns)
 exact⟨rfl,[.lst (ns.map D.int)],λ_=>none,.bl true,q,(λa o z=>nomatch z),⟨(λa o z=>nomatch z),tb⟩,.cons (F:=[]) (G:=[]) r .nil nM,e,λv H' w' Fo _ _ rr=>rr.inv.1⟩
theorem W7{w:World}{k:Nat}{f:Addr}{fd:FuncData}(F:oM K x x st f fd)(S:ae N ps (bw st))
  (h:∀ (f:Addr) (cB:Value) (A:Around) (outer:List Env) (s:Shared) (H:Hp) (E:XK),bC k (A.deeper (envOfC x (bw st) s.heap.objs.size f cB))->BG (nP kJ P w K mg base N x (bw st) f cB A outer s H E).j4 (kI st) body) :
  fz P w K mg base kJ (k+1) f fd ps (ng K ps.length (bX N.length body)):=II F S (h f)
section
variable {prog:Program}{w:World}{A:Around}{E:Tl}{s:Shared}
theorem Kl{vs:Array Value}(a:s.heap.IsTupleIter j p n)(b:s.heap.IsTuple p vs)(c:vs[n]? = some v)
  (k:∀ g:Heap,g.IsTupleIter j p (n+1)->Heap.SameBut j s.heap g->Q v { s with heap:=g }):wpAny (model prog w) A (Builtin.SmallTypes.nextOf (.ref j)) Q E s:=by obtain⟨oj,ej,kj,dj⟩:=id a;obtain⟨op,ep,_,mp,dp⟩:=b;unfold Builtin.SmallTypes.nextOf;refine Qa (Zu (name:=Str.ofString "__next__") a.typeIs Je (Zh Je a.typeIs YZ ?_ (YQ _)));show wpAny _ _ (field (.ref j) 0 >>= _) _ _ s;refine Qa (ZK ej dj (x:=.ref p) rfl ?_);show wpAny _ _ (if(Value.ref p==Value.none)=true then _ else _) _ _ s;rw[Ql (show ¬ ((Value.ref p==Value.none)=true)from Zd)];show wpAny _ _ (field (.ref j) 1 >>= _) _ _ s;refine Qa (ZK ej dj (x:=.int n 0) rfl ?_);show wpAny _ _ (seqItems? (.ref p) >>= _) _ _ s;refine Qa (ZM ep dp ?_);simp only[Int.toNat_natCast,c];refine Qa (wpAny_setField ej dj (by simp) (Qd ⟨v,rfl,Qd (k _ ⟨_,Jg _ ej (Obj.isFreed_of_fields (Obj.data_mapFields dj _)),(Obj.cls_mapFields ..).trans kj,?_⟩ (Jt ..))⟩));rw[Obj.data_mapFields dj];simp[rawInt]
theorem Km{vs:Array Value}{Q:Tl}(hh:A.handled=none)(a:s.heap.IsTupleIter j p n)(b:s.heap.IsTuple p vs)(c:vs[n]? = none)
  (k:∀ (g:Heap) x,Heap.ExtBut j s.heap g->(∃ o,g.get? x=some o/\o.cls=.type "StopIteration")->E (.ref x) { s with heap:=g }):wpAny (model prog w) A (Builtin.SmallTypes.nextOf (.ref j)) Q E s:=by
 obtain⟨oj,ej,kj,dj⟩:=id a;obtain⟨op,ep,_,mp,dp⟩:=b;unfold Builtin.SmallTypes.nextOf;refine Qa (Zu (name:=Str.ofString "__next__") a.typeIs Je (Zh Je a.typeIs YZ ?_ (YQ _)));show wpAny _ _ (field (.ref j) 0 >>= _) _ _ s;refine Qa (ZK ej dj (x:=.ref p) rfl ?_);show wpAny _ _ (if(Value.ref p==Value.none)=true then _ else _) _ _ s;rw[Ql (show ¬ ((Value.ref p==Value.none)=true)from Zd)];show wpAny _ _ (field (.ref j) 1 >>= _) _ _ s;refine Qa (ZK ej dj (x:=.int n 0) rfl ?_);show wpAny _ _ (seqItems? (.ref p) >>= _) _ _ s;refine Qa (ZM ep dp ?_);simp only[Int.toNat_natCast,c];refine Qa (JO (Qa (wpAny_setField ej dj (by simp) ?_)));show wpAny _ _ (newExc (.type "StopIteration") [] >>= _) _ _ _;refine Qa ?_;simp only[newExc,newTuple];refine Qa (Zj ?_ (by size_fits));refine Qa (m:=firstArgMember _ _) (wpAny_of_eq (a:=Value.none) (by first|rfl|(simp only[firstArgMember];rfl)) (Zj ?_ (by size_fits)));simp only[raiseNew];refine Qa (wpAny_handled ?_);first|rw[show A.in1.handled=none from hh]|rw[hh]
 exact Qa (Qd (wpAny_throw (k _ _ (((Jt ..).extBut.push _).push _) ⟨_,Qv _ rfl,rfl⟩)))
def jV (b:Bool)(h:Heap)(p:Addr)(xs:Array Value):Prop:=if b=true then h.IsList p xs else h.IsTuple p xs
def kc (b:Bool)(h:Heap)(i p:Addr)(n:Nat):Prop:=if b=true then h.IsListIter i p n else h.IsTupleIter i p n
theorem jV.extBut(x:jV b h a xs)(hs:Heap.ExtBut c h h')(mq:a≠c):jV b h' a xs:=by
 cases b
 .exact Heap.IsTuple.extBut (show h.IsTuple a xs from x) hs mq
 .exact Heap.IsList.extBut (show h.IsList a xs from x) hs mq
theorem kc.at(x:kc b h a l i)(e:∀ o,h.get? a=some o->h'.get? a=some o):kc b h' a l i:=by
 cases b
 .exact Heap.IsTupleIter.at (show h.IsTupleIter a l i from x) e
 .exact Heap.IsListIter.at (show h.IsListIter a l i from x) e
theorem kc.extBut(x:kc b h a l i)(hs:Heap.ExtBut c h h')(mq:a≠c):kc b h' a l i:=x.at λo e=>hs a o mq e
theorem kc.obj(x:kc b h a l i):∃ o vs,h.get? a=some o/\o.data=.fields vs:=by
 cases b
 .obtain⟨o,e,_,d⟩:=(show h.IsTupleIter a l i from x);exact⟨o,_,e,d⟩
 .obtain⟨o,e,_,d⟩:=(show h.IsListIter a l i from x);exact⟨o,_,e,d⟩
theorem Kn{vs:Array Value}(a:kc b s.heap j p n)(d:jV b s.heap p vs)(c:vs[n]? = some v)
  (k:∀ g:Heap,kc b g j p (n+1)->Heap.SameBut j s.heap g->Q v { s with heap:=g }):wpAny (model prog w) A (Builtin.SmallTypes.nextOf (.ref j)) Q E s:=by
 cases b
 .exact Kl a d c k
 .exact wpAny_nextOf_list_item a d c k
theorem W8{vs:Array Value}{Q:Tl}(hh:A.handled=none)(a:kc b s.heap j p n)(d:jV b s.heap p vs)(c:vs[n]? = none)
  (k:∀ (g:Heap) x,Heap.ExtBut j s.heap g->(∃ o,g.get? x=some o/\o.cls=.type "StopIteration")->E (.ref x) { s with heap:=g }):wpAny (model prog w) A (Builtin.SmallTypes.nextOf (.ref j)) Q E s:=by
 cases b
 .exact Km hh a d c k
 .exact wpAny_nextOf_list_end hh a d c k
structure ZT (b:Bool) (h:Heap) (z u o i1 i2 p1 p2:Addr) (f0:Value) (k1 k2:Nat):Prop where
 hz:IsZip h z u o f0
 hu:IsPair h u (.ref i1) (.ref i2)
 ho:∃ a b,IsPair h o a b
 h1:kc b h i1 p1 k1
 h2:h.IsTupleIter i2 p2 k2
def fu (z u o i1 i2:Addr):List Addr:=[z,u,o,i1,i2]
structure ZA (z u o i1 i2:Addr):Prop where
 nd:(fu z u o i1 i2).Nodup
theorem ZA.ne{o:Addr}(d:ZA z u o i1 i2):z≠u/\z≠o/\z≠i1/\z≠i2/\u≠o/\u≠i1/\u≠i2/\o≠i1/\o≠i2/\i1≠i2:=by have:=d.nd;simp only[fu,Q3,Qm,QC,Ym,not_or]at this;obtain⟨⟨a,b,c,d⟩,⟨e,f,g⟩,⟨h,i⟩,j,_⟩:=this;exact⟨a,b,c,d,e,f,g,h,i,j⟩
theorem Er{g:Heap}{o:Addr}{a b x:Value}{n:Nat}{Q:Unit->Shared->Prop}(e:IsPair s.heap o a b)
  (k:∀ g:Heap,g.get? o=some { cls:=.type "tuple",data:=.seq ((#[a,b]:Array Value).setIfInBounds n x) }->Heap.SameBut o s.heap g->Q () { s with heap:=g }):wpAny (model prog w) A (updateSeq o (·.setIfInBounds n x)) Q E s:=by refine wpAny_updateSeq e rfl (k _ ?_ (Jt ..));rw[Jg _ e rfl];simp[Obj.mapSeq]
theorem W9{o:Addr}{x y:Value}{Q:Option Value->Shared->Prop}(d:ZA z u o i1 i2)(Z:ZT bb s.heap z u o i1 i2 p1 p2 .none n n)(t1:jV bb s.heap p1 xs)(t2:s.heap.IsTuple p2 ys)
  (n1:p1 ∉ fu z u o i1 i2) (n2:p2 ∉ fu z u o i1 i2) (ex:xs[n]? = some x) (ey:ys[n]? = some y)
  (k:∀ g:Heap,ZT bb g z u o i1 i2 p1 p2 (rawInt s.heap.objs.size) (n+1) (n+1)->IsPair g s.heap.objs.size x y->(∀ c q,c ∉ fu z u o i1 i2->s.heap.get? c=some q->g.get? c=some q)->Q (some (.ref s.heap.objs.size)) { s with heap:=g }) :
  wpAny (model prog w) A (pyNext (.ref z)) Q E s:=by
 obtain⟨zu,zo,z1,z2,uo,u1,u2,o1,o2,i12⟩:=d.ne;obtain⟨hz,hu,⟨a,b,ho⟩,h1,h2⟩:=Z;have nz:∀ p,p ∉ fu z u o i1 i2->p≠z/\p≠o/\p≠i1/\p≠i2:=λp h=>by simp only[fu,Qm,QC,Ym,not_or]at h;exact⟨h.1,h.2.2.1,h.2.2.2.1,h.2.2.2.2⟩
 obtain⟨az,ao,a1,a2⟩:=nz p1 n1;obtain⟨bz,bo,b1,b2⟩:=nz p2 n2;have ty:s.TypeIs (.ref z) "zip":=⟨_,hz,rfl⟩;unfold pyNext;refine Qa (JY (Zu (name:=Str.ofString "__next__") ty YR (Zh YR ty F.entry_zip_next ?_ (F.args_zip_next_1 _))));show wpAny _ _ (field (.ref z) 2 >>= _) _ _ _;refine Qa (ZK hz rfl (x:=.bool false) rfl ?_);show wpAny _ _ (field (.ref z) 3 >>= _) _ _ _;refine Qa (ZK hz rfl (x:=.ref u) rfl (Qa (ZM hu rfl ?_)));show wpAny _ _ (Builtin.SmallTypes.ownedTupleIsFree (.ref z) >>= _) _ _ _;refine Qa ?_;unfold Builtin.SmallTypes.ownedTupleIsFree;refine Qa (ZK hz rfl (x:=.none) rfl (Qd ?_));simp only[ZE];refine Qa (JO (Qa (ZK hz rfl (x:=.ref o) rfl (Qa (wpAny_setField_rec hz (by simp) λg1 e1 ke=>?_)))));replace e1:IsZip g1 z u o .ellipsis:=e1;refine Qa ?_;simp only[List.zipIdx_cons,List.zipIdx_nil,VN,V2];refine Qa (Qa (Vq ?_));show wpAny _ _ (Builtin.SmallTypes.nextOf (.ref i1) >>= _) _ _ _;refine Qa (Kn (h1.extBut ke.extBut (Zn z1)) (t1.extBut ke.extBut az) ex λg2 e2 c2=>Qd ?_);have q2:IsPair g2 o a b:=c2.extBut _ _ o1 (ke.extBut _ _ (Zn zo) ho);refine Qa (ZM q2 rfl (Qa (Er (g:=g2) q2 λg3 e3 c3=>Qa (wpAny_letGo (Qd ?_)))));replace e3:IsPair g3 o x b:=e3;refine Qa (Qa (Vq ?_));show wpAny _ _ (Builtin.SmallTypes.nextOf (.ref i2) >>= _) _ _ _;refine Qa (Kl (((h2.extBut ke.extBut (Zn z2)).extBut c2.extBut (Zn i12)).extBut c3.extBut (Zn o2)) (((t2.extBut ke.extBut bz).extBut c2.extBut b1).extBut c3.extBut bo) ey λg4 e4 c4=>Qd ?_);have q4:IsPair g4 o x b:=c4.extBut _ _ o2 e3;refine Qa (ZM q4 rfl (Qa (Er (g:=g4) q4 λg5 e5 c5=>Qa (wpAny_letGo (Qd (Qd ?_))))));replace e5:IsPair g5 o x y:=e5;refine Qa (ZM e5 rfl (Qa (wpAny_newTuple ?_)));have sz:g5.objs.size=s.heap.objs.size:=by rw[c5.1,c4.1,c3.1,c2.1,ke.1]
 have z5:IsZip g5 z u o .ellipsis:=c5.extBut _ _ zo (c4.extBut _ _ z2 (c3.extBut _ _ zo (c2.extBut _ _ z1 e1)));have kp:∀ c q,c≠z->c≠o->c≠i1->c≠i2->s.heap.get? c=some q->g5.get? c=some q:=λc q x1 x2 x3 x4 e=>c5.extBut _ _ x2 (c4.extBut _ _ x4 (c3.extBut _ _ x2 (c2.extBut _ _ x3 (ke.extBut _ _ x1 e))));have w1:kc bb g5 i1 p1 (n+1):=((e2.extBut c3.extBut (Zn o1)).extBut c4.extBut i12).extBut c5.extBut (Zn o1);have w2:g5.IsTupleIter i2 p2 (n+1):=e4.extBut c5.extBut (Zn o2);have zl:z<g5.objs.size:=Qq z5;show wpAny _ _ (Builtin.SmallTypes.ownedTupleHandOut (.ref z) (.ref g5.objs.size) >>= _) _ _ _;refine Qa ?_;unfold Builtin.SmallTypes.ownedTupleHandOut;have z6:IsZip (g5.push { cls:=.type "tuple",data:=.seq #[x,y] }) z u o .ellipsis:=Qe _ z5;refine Qa (wpAny_setField_rec z6 (by simp) λg7 e7 c7=>?_);replace e7:IsZip g7 z u o (rawInt g5.objs.size):=e7;refine wpAny_setField_rec e7 (by simp) λg8 e8 c8=>?_;replace e8:IsZip g8 z u o (rawInt g5.objs.size):=e8;have up:∀ c q,c≠z->g5.get? c=some q->g8.get? c=some q:=λc q h e=>c8.extBut _ _ h (c7.extBut _ _ h (Qe _ e));have nw:IsPair g8 g5.objs.size x y:=c8.extBut _ _ (VB zl) (c7.extBut _ _ (VB zl) (Qv _ rfl));rw[sz]at e8 nw;refine Qd ⟨_,rfl,Qd ?_⟩;show Q (some (.ref g5.objs.size)) _;rw[sz];refine k g8 ⟨e8,up _ _ (Zn zu) (kp _ _ (Zn zu) uo u1 u2 hu),⟨x,y,up _ _ (Zn zo) e5⟩,w1.at λq e=>up _ q (Zn z1) e,w2.at λq e=>up _ q (Zn z2) e⟩ nw λc q h e=>?_;obtain⟨y1,y2,y3,y4⟩:=nz c h;exact up c q y1 (kp c q y1 y2 y3 y4 e)
theorem W_{o:Addr}{Q:Option Value->Shared->Prop}(hh:A.handled=none)(d:ZA z u o i1 i2)(Z:ZT bb s.heap z u o i1 i2 p1 p2 .none n n)(t1:jV bb s.heap p1 xs)(t2:s.heap.IsTuple p2 ys)
  (n1:p1 ∉ fu z u o i1 i2) (n2:p2 ∉ fu z u o i1 i2) (en:xs[n]? = none\/ys[n]? = none)
  (k:∀ g:Heap,(∀ c q,c ∉ fu z u o i1 i2->s.heap.get? c=some q->g.get? c=some q)->Q none { s with heap:=g }) :
  wpAny (model prog w) A (pyNext (.ref z)) Q E s:=by
 obtain⟨zu,zo,z1,z2,uo,u1,u2,o1,o2,i12⟩:=d.ne;obtain⟨hz,hu,⟨a,b,ho⟩,h1,h2⟩:=Z;have nz:∀ p,p ∉ fu z u o i1 i2->p≠z/\p≠o/\p≠i1/\p≠i2:=λp h=>by simp only[fu,Qm,QC,Ym,not_or]at h;exact⟨h.1,h.2.2.1,h.2.2.2.1,h.2.2.2.2⟩
 obtain⟨az,ao,a1,a2⟩:=nz p1 n1;obtain⟨bz,bo,b1,b2⟩:=nz p2 n2;have ty:s.TypeIs (.ref z) "zip":=⟨_,hz,rfl⟩;unfold pyNext;refine Qa (JY (Zu (name:=Str.ofString "__next__") ty YR (Zh YR ty F.entry_zip_next ?_ (F.args_zip_next_1 _))));show wpAny _ _ (field (.ref z) 2 >>= _) _ _ _;refine Qa (ZK hz rfl (x:=.bool false) rfl ?_);show wpAny _ _ (field (.ref z) 3 >>= _) _ _ _;refine Qa (ZK hz rfl (x:=.ref u) rfl (Qa (ZM hu rfl ?_)));show wpAny _ _ (Builtin.SmallTypes.ownedTupleIsFree (.ref z) >>= _) _ _ _;refine Qa ?_;unfold Builtin.SmallTypes.ownedTupleIsFree;refine Qa (ZK hz rfl (x:=.none) rfl (Qd ?_));simp only[ZE];refine Qa (JO (Qa (ZK hz rfl (x:=.ref o) rfl (Qa (wpAny_setField_rec hz (by simp) λg1 e1 ke=>?_)))));replace e1:IsZip g1 z u o .ellipsis:=e1;refine Qa ?_;simp only[List.zipIdx_cons,List.zipIdx_nil,VN,V2];have away:∀ (g:Heap) x,IsZip g z u o .ellipsis->(∃ q,g.get? x=some q/\q.cls=.type "StopIteration")->x≠z:=λg x e ⟨q,e',c'⟩ h=>by subst h;rw[e]at e';cases e';simp at c'
 refine Qa (Qa (Vq ?_));show wpAny _ _ (Builtin.SmallTypes.nextOf (.ref i1) >>= _) _ _ _;cases ex:xs[n]? with
 | none=>
  refine Qa (W8 hh (h1.extBut ke.extBut (Zn z1)) (t1.extBut ke.extBut az) ex λg2 x c2 hx=>?_);have e2:IsZip g2 z u o .ellipsis:=c2 _ _ z1 e1;have xz:=away g2 x e2 hx;obtain⟨q,hq,cq⟩:=hx;refine wpAny_setField_rec e2 (by simp) λg3 _ c3=>?_;refine Qa (Jb (T:="StopIteration") (b:=true) ⟨q,c3.extBut _ _ xz hq,cq⟩ V6 (Qd (k g3 λc r h e=>?_)));obtain⟨y1,y2,y3,y4⟩:=nz c h;exact c3.extBut _ _ y1 (c2 _ _ y3 (ke.extBut _ _ y1 e))
 | some x=>
  have ey:ys[n]? = none:=by rcases en with h|h;rw[ex]at h;cases h;exact h
  refine Qa (Kn (h1.extBut ke.extBut (Zn z1)) (t1.extBut ke.extBut az) ex λg2 e2 c2=>Qd ?_);have q2:IsPair g2 o a b:=c2.extBut _ _ o1 (ke.extBut _ _ (Zn zo) ho);refine Qa (ZM q2 rfl (Qa (Er (g:=g2) q2 λg3 e3 c3=>Qa (wpAny_letGo (Qd ?_)))));refine Qa (Qa (Vq ?_));show wpAny _ _ (Builtin.SmallTypes.nextOf (.ref i2) >>= _) _ _ _;refine Qa (Km hh (((h2.extBut ke.extBut (Zn z2)).extBut c2.extBut (Zn i12)).extBut c3.extBut (Zn o2)) (((t2.extBut ke.extBut bz).extBut c2.extBut b1).extBut c3.extBut bo) ey λg4 x' c4 hx=>?_);have e4:IsZip g4 z u o .ellipsis:=c4 _ _ z2 (c3.extBut _ _ zo (c2.extBut _ _ z1 e1));have xz:=away g4 x' e4 hx;obtain⟨q,hq,cq⟩:=hx;refine wpAny_setField_rec e4 (by simp) λg5 _ c5=>?_;refine Qa (Jb (T:="StopIteration") (b:=true) ⟨q,c5.extBut _ _ xz hq,cq⟩ V6 (Qd (k g5 λc r h e=>?_)));obtain⟨y1,y2,y3,y4⟩:=nz c h;exact c5.extBut _ _ y1 (c4 _ _ y4 (c3.extBut _ _ y2 (c2.extBut _ _ y3 (ke.extBut _ _ y1 e))))
set_option maxHeartbeats 1000000 in
theorem Xa(t1:jV bb s.heap p1 xs)(t2:s.heap.IsTuple p2 ys)
  (k:∀ g:Heap,ZT bb g (s.heap.objs.size+4) (s.heap.objs.size+2) (s.heap.objs.size+3) s.heap.objs.size (s.heap.objs.size+1) p1 p2 .none 0 0->(∀ c q,s.heap.get? c=some q->g.get? c=some q)->Q (.ref (s.heap.objs.size+4)) { s with heap:=g }) :
  wpAny (model prog w) A (call (.type "zip") [.ref p1,.ref p2]) Q E s:=by
 let g1:=s.heap.push { cls:=.type (if bb=true then "list_iterator" else "tuple_iterator"),data:=.fields #[.ref p1,.int 0 0] }
 let g2:=g1.push { cls:=.type "tuple_iterator",data:=.fields #[.ref p2,.int 0 0] }
 let g3:=g2.push { cls:=.type "tuple",data:=.seq #[.ref s.heap.objs.size,.ref g1.objs.size] }
 let g4:=g3.push { cls:=.type "tuple",data:=.seq #[.none,.none] }
 let g5:=g4.push { cls:=.type "zip",data:=.fields #[.none,.bool false,.bool false,.ref g2.objs.size,.ref g3.objs.size] }
 have mt:Meets (Builtin.«zip.__new__» ⟨[.type "zip",.ref p1,.ref p2],[]⟩) (λ_ R s'=>s'=s/\R (.ok (.ret (.ref g4.objs.size))) { s with heap:=g5 }):=.of_wp λprog w A R s' h=>by
  obtain⟨rfl,h⟩:=h;have dO:=sub_zip;obtain⟨hp,gn,dr,tk,os⟩:=s';cases bb
  .have q1:Heap.IsTuple (Shared.heap ⟨hp,gn,dr,tk,os⟩) p1 xs:=t1;have q2:Heap.IsTuple (Shared.heap ⟨hp.push { cls:=.type "tuple_iterator",data:=.fields #[.ref p1,.int 0 0] },gn,dr,tk,os⟩) p2 ys:=t2.push _;wp_walk using JA q1,JA q2
   exact⟨_,rfl,h⟩
  .have q1:Heap.IsList (Shared.heap ⟨hp,gn,dr,tk,os⟩) p1 xs:=t1;have q2:Heap.IsTuple (Shared.heap ⟨hp.push { cls:=.type "list_iterator",data:=.fields #[.ref p1,.int 0 0] },gn,dr,tk,os⟩) p2 ys:=t2.push _;wp_walk using Yl q1,JA q2
   exact⟨_,rfl,h⟩
 refine callType_new F.called_zip (by decide) (F.typeCall_zip_2 _ _) (F.newCall_zip_2 _ _) (λobj=>F.args_object_init_3 obj _ _) F.entry_zip_new mt ⟨rfl,?_⟩;have s1:g1.objs.size=s.heap.objs.size+1:=Zv ..;have s2:g2.objs.size=s.heap.objs.size+2:=by rw[Zv,s1]
 have s3:g3.objs.size=s.heap.objs.size+3:=by rw[Zv,s2]
 have s4:g4.objs.size=s.heap.objs.size+4:=by rw[Zv,s3]
 have a5:g5.get? g4.objs.size=some { cls:=.type "zip",data:=.fields #[.none,.bool false,.bool false,.ref g2.objs.size,.ref g3.objs.size] }:=Qv _ rfl;have BQ:∀ {c q},g3.get? c=some q->g5.get? c=some q:=λe=>Qe _ (Qe _ e);have a4:g5.get? g3.objs.size=some { cls:=.type "tuple",data:=.seq #[.none,.none] }:=Qe _ (Qv _ rfl);have a3:g5.get? g2.objs.size=some { cls:=.type "tuple",data:=.seq #[.ref s.heap.objs.size,.ref g1.objs.size] }:=BQ (Qv _ rfl);have a2:g5.get? g1.objs.size=some { cls:=.type "tuple_iterator",data:=.fields #[.ref p2,.int 0 0] }:=BQ (Qe _ (Qv _ rfl));have a1:g5.get? s.heap.objs.size=some { cls:=.type (if bb=true then "list_iterator" else "tuple_iterator"),data:=.fields #[.ref p1,.int 0 0] }:=BQ (Qe _ (Qe _ (Qv _ rfl)));rw[s2,s3,s4]at a5;rw[s3]at a4;rw[s1,s2]at a3;rw[s1]at a2;show _/\_;rw[s4];exact⟨⟨_,a5,rfl⟩,k g5 ⟨a5,a3,⟨_,_,a4⟩,(by cases bb;exact⟨_,a1,rfl,rfl⟩;exact⟨_,a1,rfl,rfl⟩),⟨_,a2,rfl,rfl⟩⟩ λc q e=>BQ (Qe _ (Qe _ (Qe _ e)))⟩
end
theorem Ko{t':Nat}{ch:List Addr}(I:Inv X Tk σ H s)(k:∀ b o,b ∉ ch->s.heap.get? b=some o->h'.get? b=some o)(hf:∀ b∈ch,oD X Tk H b) :
  Inv X Tk σ H { s with heap:=h',toks:=t' }:=by
 have xN:∀ b u,H b=some u->b ∉ ch:=λb u e z=>by rw[(hf b z).1]at e;cases e
 refine I.step (g':=s.gens) (d':=s.drawn) (ch:=ch) (λb hb=>?_) (λb o _ _ hc e _=>k b o hc e) (λb o _ _ hc e _=>⟨o.slots,k b o hc e⟩) (λ_ _ _ _ n=>n)
  (λb o hc e=>⟨o,k b o hc e⟩) (λ_ _ e=>e) (λ_ _ _ e=>e) (λb ps e=>⟨#[],by rw[e];simp⟩) (λm hm=>?_) (λb u e=>?_) I.bare
 .obtain⟨f0,f1,f2,f3,f4,f5⟩:=hf b hb;exact⟨f3,f1,f4,f5⟩
 .obtain⟨o,es,ep,ho,r⟩:=hm;exact⟨o,es,ep,k _ o (λz=>(hf _ z).2.1 rfl) ho,r⟩
 .refine(I.aP b u e).h_ (λc v hc q=>k c v ?_ q) (λ_ q=>q) λ_ _ q=>q;rcases hc with z|z
  .rw[z];exact xN b u e
  .exact xN c _ z
def p6 (b:Bool)(K:PySem.W.Frag)(H:Hp)(p:Addr)(xs:List V):Prop:=if b=true then dE K H p xs else du K H p xs
theorem BR{xs:List V}(I:Inv X Tk σ H s)(h:p6 b X.K H a xs):∃ ak:List Value,bK xs ak/\jV b s.heap a ak.toArray:=by
 cases b
 .obtain⟨ak,r,t,_⟩:=I.tuple (show du X.K H a xs from h);exact⟨ak,r,t⟩
 .obtain⟨ak,r,t,_⟩:=I.list (show dE X.K H a xs from h);exact⟨ak,r,t.isList⟩
theorem Xb{xs ys:List V}(I:Inv X Tk σ H s)(h:p6 b X.K H a xs)(h':p6 b X.K H a ys):xs=ys:=by
 cases b
 .exact I.gG h h'
 .exact I.j0 h h'
def Es (K:PySem.W.Frag)(bb:Bool)(p1 p2:Addr):It:=
 ⟨λi H=>∃ xs ys x y,p6 bb K H p1 xs/\du K H p2 ys/\xs[i]? = some x/\ys[i]? = some y,
  λi H v H'=>∃ T x y,v=.ref T/\H T=none/\(∀ xs,p6 bb K H p1 xs->xs[i]? = some x)/\(∀ ys,du K H p2 ys->ys[i]? = some y)/\H'=upd H T (.tup [x,y]),
  λi H=>∃ xs ys,p6 bb K H p1 xs/\du K H p2 ys/\(xs.length<=i\/ys.length<=i)⟩
theorem Xc{w:World}{elts:List Expr}{kt:Nat}{tp:Pos}(bb:Bool)(z u o i1 i2 p1 p2:Addr)(d:ZA z u o i1 i2)(n1:p1 ∉ fu z u o i1 i2)(n2:p2 ∉ fu z u o i1 i2) :
  Turn P w K (.Tuple elts kt tp) (Es K bb p1 p2) (fu z u o i1 i2) z (λi h=>ZT bb h z u o i1 i2 p1 p2 .none i i) where
 mem:=by simp[fu]
 obj:=λi h st b hb=>by
  obtain⟨hz,hu,⟨a,c,ho⟩,s1,⟨o2,e2,c2,d2⟩⟩:=st;obtain⟨o1,_,e1,d1⟩:=s1.obj;simp only[fu,Qm,QC,Ym]at hb;rcases hb with rfl|rfl|rfl|rfl|rfl
  .exact⟨_,hz,λv e=>nomatch e⟩
  .exact⟨_,hu,λv e=>nomatch e⟩
  .exact⟨_,ho,λv e=>nomatch e⟩
  .exact⟨_,e1,λv e=>by rw[d1]at e;cases e⟩
  .exact⟨_,e2,λv e=>by rw[d2]at e;cases e⟩
 keep:=λi h h' st k=>by obtain⟨hz,hu,⟨a,c,ho⟩,h1,h2⟩:=st;exact⟨k z (by simp[fu]) _ hz,k u (by simp[fu]) _ hu,⟨a,c,k o (by simp[fu]) _ ho⟩,h1.at λq e=>k i1 (by simp[fu]) q e,h2.at λq e=>k i2 (by simp[fu]) q e⟩
 item:=by
  intro X hP hw hK hc i Tk s σ H E I hf st hg;subst hP hw hK;obtain⟨xs,ys,x,y,q1,q2,ex,ey⟩:=hg;obtain⟨as,ra,ta⟩:=BR I q1;obtain⟨bs,rb,tb,_⟩:=I.tuple q2;obtain⟨ux,hx,rx⟩:=ra.get ex;obtain⟨uy,hy,ry⟩:=rb.get ey;refine W9 d st ta (show s.heap.IsTuple p2 bs.toArray from tb) n1 n2 (by simpa using hx) (by simpa using hy) λg Z nw kp=>?_;refine⟨_,rfl,wpAny_letOwnedTupleGo_zip (s:={ s with heap:=g }) Z.hz λg' rf sb=>?_⟩;have fr:H s.heap.objs.size=none:=I.aP.fresh (Qj _);have I1:Inv X Tk σ (upd H s.heap.objs.size (.tup [x,y])) { s with heap:=s.heap.push { cls:=.type "tuple",data:=.seq #[ux,uy] } }:=
   I.laid (t':=s.toks) (λb q e=>Qe _ e) (Qj _) (show d7 X.prog X.w _ _ _ (.tup _)from⟨(by show 2<=sizeLine;decide),[ux,uy],.cons rx (.cons ry .nil),mR.new _ _⟩)
  have lt:∀ b∈fu z u o i1 i2,b<s.heap.objs.size:=λb hb=>by
   obtain⟨hz,hu,⟨a,c,ho⟩,s1,⟨o2,e2,_⟩⟩:=st;obtain⟨o1,_,e1,_⟩:=s1.obj;simp only[fu,Qm,QC,Ym]at hb;rcases hb with rfl|rfl|rfl|rfl|rfl
   .exact Qq hz
   .exact Qq hu
   .exact Qq ho
   .exact Qq e1
   .exact Qq e2
  have hn:∀ b∈fu z u o i1 i2,upd H s.heap.objs.size (.tup [x,y]) b=none:=λb hb=>by rw[bV (QS (lt b hb))];exact(hf b hb).1
  have I2:Inv X Tk σ (upd H s.heap.objs.size (.tup [x,y])) { s with heap:=g' }:=Ko (s:={ s with heap:=s.heap.push { cls:=.type "tuple",data:=.seq #[ux,uy] } }) (t':=s.toks) (ch:=fu z u o i1 i2) I1 (λb q nb e=>by
   have bz:b≠z:=λh=>nb (by simp[fu,h]);rcases Heap.get?_push_cases e with⟨rfl,rfl⟩|e'
   .exact sb.extBut _ _ bz nw
   .exact sb.extBut _ _ bz (kp b q nb e')) λb hb=>by obtain⟨f0,f1,f2,f3,f4,f5⟩:=hf b hb;exact⟨hn b hb,f1,f2,f3,f4,f5⟩
  refine⟨.ref s.heap.objs.size,_,I2,rfl,⟨s.heap.objs.size,x,y,rfl,fr,λzs hz=>?_,λzs hz=>?_,rfl⟩,?_,hn⟩
  .rw[Xb I hz q1];exact ex
  .rw[I.gG hz q2];exact ey
  .obtain⟨_,hu,⟨a,c,ho⟩,h1,h2⟩:=Z;obtain⟨zu,zo,z1,z2,_⟩:=d.ne;exact⟨rf,sb.extBut _ _ (Zn zu) hu,⟨a,c,sb.extBut _ _ (Zn zo) ho⟩,h1.extBut sb.extBut (Zn z1),h2.extBut sb.extBut (Zn z2)⟩
 done:=by intro X hP hw hK hc i Tk s σ H E I hf st hg;subst hP hw hK;obtain⟨xs,ys,q1,q2,hx⟩:=hg;obtain⟨as,ra,ta⟩:=BR I q1;obtain⟨bs,rb,tb,_⟩:=I.tuple q2;have la:=ra.length;have lb:=rb.length;refine W_ (I.ok.hd hc) d st ta (show s.heap.IsTuple p2 bs.toArray from tb) n1 n2 (by rcases hx with h|h;exact .inl (by simp;omega);exact .inr (by simp;omega)) λg kp=>⟨rfl,?_⟩;exact Ko (t':=s.toks) (ch:=fu z u o i1 i2) I (λb q nb e=>kp b q nb e) hf
 self:=λ_ _ _ _ _ st h=>wpAny_pyIter_zip st.hz h
section
variable {X:Cx}{a b c e:Expr}{es elts:List Expr}{fa fb fc f:aN}{g:cf}{pos p p1 p2 tp:Pos}{kt:Nat}
def Kp (K:PySem.W.Frag)(ta:TA):TI:=λσ H R=>ta σ H λvs H1=>∃ bb p1 p2,vs=[.ref p1,.ref p2]/\(∃ xs,p6 bb K H1 p1 xs)/\(∃ ys,du K H1 p2 ys)/\R (Es K bb p1 p2) H1
theorem Xd{ta:TA}(hg:Gl X "zip")(hm:X.mg "zip" = none)(ha:PA X [a,b] ta)(hs:starEach [a,b] X.env=[(false,eval a X.env),(false,eval b X.env)]:=by rfl)(rh:starEach [b] X.env=[(false,eval b X.env)]:=by rfl) :
  PI X (.Tuple elts kt tp) (.Call (.Name "zip" p) [a,b] [] pos) (Kp X.K ta):=by
 intro Tk s σ H R I h;refine Call_ (vY I hg hm boot_zip (Ja (bE (ha pos Tk s σ H _ I h) λus s1 ⟨vs,H1,I1,r1,q1⟩=>?_) (by rw[hs,rh]) (by rw[rh];rfl)));obtain⟨bb,p1,p2,e,⟨xs,hx⟩,⟨ys,hy⟩,q⟩:=q1;subst e;cases r1 with
 | cons r rr=>
  cases rr with
  | cons r' rr=>
   cases rr;cases r;cases r';obtain⟨as,ra,Kq⟩:=BR I1 hx;obtain⟨bs,rb,tb,_⟩:=I1.tuple hy;have l1:p1<s1.heap.objs.size:=by cases bb<;>(obtain⟨_,e,_⟩:=Kq;exact Qq e)
   have l2:p2<s1.heap.objs.size:=by obtain⟨_,e,_⟩:=tb;exact Qq e
   refine Xa Kq (show s1.heap.IsTuple p2 bs.toArray from tb) λg Z kp=>?_;have I2:Inv X Tk σ H1 { s1 with heap:=g }:=I1.kept (t':=s1.toks) kp;refine wpAny_pyIter_zip Z.hz ?_;have dd:ZA (s1.heap.objs.size+4) (s1.heap.objs.size+2) (s1.heap.objs.size+3) s1.heap.objs.size (s1.heap.objs.size+1):=⟨by generalize s1.heap.objs.size=n;unfold fu;simp only[Q3,Qm,QC,Ym,not_or,not_false_eq_true,Y8,and_true];have ne:∀ {x y:Nat},x≠y->(x:Addr)≠(y:Addr):=λh=>h;refine⟨⟨ne ?_,ne ?_,ne ?_,ne ?_⟩,⟨ne ?_,ne ?_,ne ?_⟩,⟨ne ?_,ne ?_⟩,ne ?_⟩<;>(intro h;have h':(_:Nat)=(_:Nat):=h;omega)⟩
   have BS:∀ b∈fu (s1.heap.objs.size+4) (s1.heap.objs.size+2) (s1.heap.objs.size+3) s1.heap.objs.size (s1.heap.objs.size+1),s1.heap.objs.size<=b:=λb hb=>by simp only[fu,Qm,QC,Ym]at hb;rcases hb with rfl|rfl|rfl|rfl|rfl<;>first|exact Qj _|exact Z0 _ _
   refine⟨s1.heap.objs.size+4,fu (s1.heap.objs.size+4) (s1.heap.objs.size+2) (s1.heap.objs.size+3) s1.heap.objs.size (s1.heap.objs.size+1),_,_,H1,rfl,I2,Xc _ _ _ _ _ _ p1 p2 dd (λh=>absurd (BS _ h) (Nat.not_le_of_lt l1)) (λh=>absurd (BS _ h) (Nat.not_le_of_lt l2)),Z,λb hb=>?_,q⟩;exact I1.qI (BS b hb) (I1.aP.fresh (BS b hb))
@[simp] def uU (g:cf):ma:=λρ=>match g ρ with
 | some ([.lst ds,.tup es],ac)=>if ds.length<=1000 then some ((ds.zip es).map λx=>.tup [x.1,x.2],ac)else none
 | some ([.tup ds,.tup es],ac)=>if ds.length<=1000 then some ((ds.zip es).map λx=>.tup [x.1,x.2],ac)else none
 | _=>none
def uV (bb:Bool)(K:PySem.W.Frag)(H:Hp)(w:Wn)(p:Addr)(vs:List V):Prop:=if bb=true then(KL K p vs\/(Rd H p (.lst vs)/\w p=none))else du K H p vs
theorem uV.sq{p:Addr}(h:uV bb K H w p vs):p6 bb K H p vs:=by
 cases bb
 .exact h
 .exact(show KL K p vs\/(Rd H p (.lst vs)/\w p=none)from h).elim (λz=>z.sq) λz=>.inl z.1
theorem uV.go{H':Hp}{w':Wn}{p:Addr}(wl:WL K w H)(st:eU H w H' w')(h:uV bb K H w p vs):uV bb K H' w' p vs:=by
 cases bb
 .exact du.go wl st h
 .exact(show KL K p vs\/(Rd H p (.lst vs)/\w p=none)from h).elim .inl λz=>.inr (Bq.go st z.2 z.1)
theorem It.zip{p1 p2:Addr}{ds es:List D}(l1:ds.length=vs.length)(l2:es.length=us.length):oR K (Es K bb p1 p2) ((ds.zip es).map λx=>.tup [x.1,x.2]) λH w=>uV bb K H w p1 vs/\du K H p2 us/\af K H w .f 0 ds vs []/\af K H w .f 0 es us []:=by
 refine⟨λi H w p hi=>?_,λi H w x H' d p wl hd y=>?_,λH w p=>⟨vs,us,p.1.sq,p.2.1,?_⟩,λH w H' w' p wl st=>⟨p.1.go wl st,du.go wl st p.2.1,af.go wl st p.2.2.1 nM,af.go wl st p.2.2.2 nM⟩⟩
 .have bW:i<vs.length/\i<us.length:=by simp[YS]at hi;omega
  exact⟨vs,us,vs[i]'bW.1,us[i]'bW.2,p.1.sq,p.2.1,by simp[bW.1],by simp[bW.2]⟩
 .obtain⟨T,v,u,rfl,hT,hv,hu,rfl⟩:=y;obtain⟨q1,q2,r1,r2⟩:=p;rw[Qp]at hd;cases hz:(ds.zip es)[i]? with
  | none=>rw[hz]at hd;cases hd
  | some de=>
   rw[hz]at hd;cases hd;obtain⟨e1,e2⟩:=Ve.mp hz;obtain⟨v',oV,rv⟩:=r1.get e1;obtain⟨u',oO,ru⟩:=r2.get e2;have ev:v'=v:=by have:=hv vs q1.sq;rw[oV]at this;exact QI this
   have eu:u'=u:=by have:=hu us q2;rw[oO]at this;exact QI this
   subst ev eu;have mo:∀ a o,H a=some o->upd H T (.tup [v',u']) a=some o:=λa o e=>by rw[bV (ju e hT)];exact e
   have st:eU H w (upd H T (.tup [v',u'])) w:=λa x e n=>⟨sm (mo a x e),n⟩;exact⟨⟨mo,λt=>t.upd rfl (.inl hT)⟩,.tup jh (.cons (F:=[]) (G:=[]) (Rep.lj rv wl st) (.cons (F:=[]) (G:=[]) (Rep.lj ru wl st) .nil nM) nM),q1.go wl st,du.go wl st q2,r1.lj wl st,r2.lj wl st⟩
 .simp[YS];omega
theorem Kr(hm:X.mg "zip" = none)(ha:gy X [a,b] g)(hg:Gl X "zip":=by rfl)(hs:starEach [a,b] X.env=[(false,eval a X.env),(false,eval b X.env)]:=by rfl)(rh:starEach [b] X.env=[(false,eval b X.env)]:=by rfl):wz X (.Tuple elts kt tp) (.Call (.Name "zip" p) [a,b] [] pos) (uU g):=⟨have ha:=ha.o;PI.imp (Xd hg hm ha hs rh) λσ H R aj=>by
 obtain⟨ρ,w,t,ds,am,gd,ee,k⟩:=aj;have fin:∀ {x:D} {d1 d2:List D} {ac:a_},g ρ=some ([x,.tup d2],ac)->(x=.lst d1\/x=.tup d1)->d1.length<=1000->ds=(d1.zip d2).map (λx=>.tup [x.1,x.2])->am=ac->Kp X.K (BC X.K g) σ H R:=λ{x d1 d2 ac} h1 hx hl e1 e2=>by
  subst e1 e2;refine⟨ρ,w,t,_,_,gd,h1,λvs H1 w1 g1 aV r1=>?_⟩;obtain⟨v,v',rfl,rv,Xe⟩:=two r1;obtain⟨p2,bs,rfl,q2,s2⟩:=Xe.eX;have hs:∃ bb p1 as,v=.ref p1/\uV bb X.K H1 w1 p1 as/\af X.K H1 w1 .f 0 d1 as []:=by
   rcases hx with rfl|rfl
   .obtain⟨a,vs,e,h,r,_⟩:=rv.inv;exact⟨true,a,vs,e,h,r⟩
   .obtain⟨p1,as,e,q1,s1⟩:=rv.eX;exact⟨false,p1,as,e,q1,s1⟩
  obtain⟨bb,p1,as,rfl,q1,s1⟩:=hs;refine⟨bb,p1,p2,rfl,⟨_,q1.sq⟩,⟨_,q2⟩,k _ _ H1 w1 g1 aV (It.zip s1.length s2.length) ⟨q1,q2,s1,s2⟩ (wa ?_)⟩;simp[YS];omega
 unfold uU at ee;split at ee;next d1 d2 ac h1=>
  split at ee;next hl=>
   cases ee;exact fin h1 (.inl rfl) hl rfl rfl
  .cases ee
 next d1 d2 ac h1=>
  split at ee;next hl=>
   cases ee;exact fin h1 (.inr rfl) hl rfl rfl
  .cases ee
 .cases ee⟩
end
abbrev rj:=List D->a_->Option a_
def Xf (K:PySem.W.Frag)(b:Nat)(pt:rj):qG:=λvs σ H Q=>∃ ds ρ w t am,Good K ρ σ H w t/\af K H w .f 0 ds vs []/\pt ds ρ=some am/\∀ aX H' w',aX.length=σ.length->(∀ i,i<b->aX[i]? = σ[i]?)->Good K am aX H' w' t->Go H w H' w'->Q aX H'
theorem pU.imp{tg:List Expr}{t t':qG}(h:pU X tg t)(i:∀ v σ H Q,t' v σ H Q->t v σ H Q):pU X tg t':=λTk s σ H v u Q I r q=>h Tk s σ H v u Q I r (i v σ H Q q)
abbrev Xg (X:Cx)(b:Nat)(tg:List Expr)(pt:rj):Prop:=pU X tg (Xf X.K b pt)
structure rl (X:Cx) (b:Nat) (e:List Expr) (f:rj):Prop where mk::o:Xg X b e f
@[simp] def fC:rj:=λds ρ=>match ds with
 | []=>some ρ
 | _=>none
@[simp] def bH (pt:iB)(ps:rj):rj:=λds ρ=>match ds with
 | []=>none
 | d::r=>match pt d ρ with
  | some ac=>ps r ac
  | none=>none
@[simp] def f9 (ps:rj):iB:=λd ρ=>match d with
 | .tup ds=>ps ds ρ
 | _=>none
section
variable {X:Cx}{k b:Nat}{e:Expr}{es:List Expr}{pt:iB}{ps:rj}{pos:Pos}
theorem nZ:rl X b [] fC:=⟨pU.imp RS λv σ H Q aj=>by
 obtain⟨ds,ρ,w,t,am,g,r,e,k⟩:=aj;unfold fC at e;split at e
 .cases e;generalize hF:([]:List Addr)=F at r;cases r;exact⟨rfl,k σ H w rfl (λ_ _=>rfl) g Go.refl⟩
 .cases e⟩
theorem fN(h1:wA X b e pt)(h2:rl X b es ps)(hs:(assignEach (e::es) X.env).map (·.2)=assign e X.env::(assignEach es X.env).map (·.2):=by rfl):rl X b (e::es) (bH pt ps):=⟨have h1:=h1.o;have h2:=h2.o;pU.imp (RT h1 h2 hs) λv σ H Q aj=>by
 obtain⟨ds,ρ,w,t,am,g,r,e,k⟩:=aj;unfold bH at e;split at e
 .cases e
 next d rest=>
  split at e;next ac h1=>
   generalize hF:([]:List Addr)=F at r;cases r with
   | cons ra rb _=>
    have z1:=ra.zero;have z2:=rb.zero;subst z1 z2;refine⟨_,_,rfl,d,ρ,w,t,ac,g,ra,h1,λud H1 w1 l1 s1 g1 aV=>⟨rest,ac,w1,t,am,g1,rb.lj g.wl aV.cu,e,λoE H2 w2 l2 s2 g2 bZ=>k oE H2 w2 (l2.trans l1) (λi hi=>(s2 i hi).trans (s1 i hi)) g2 (aV.trans bZ)⟩⟩
  .cases e⟩
theorem n4(hc:X.calm=true)(h:rl X b es ps)(hl:∀ ds ρ am,ps ds ρ=some am->ds.length=n)(hn:(assignEach es X.env).length=n:=by rfl)(gu:(assignEach es X.env).findIdx? (·.1)=none:=by rfl):wA X b (.Tuple es k pos) (f9 ps):=⟨have h:=h.o;PG.imp (RV hc h hn gu) λv σ H Q aj=>by
 obtain⟨d,ρ,w,t,am,g,r,e,k⟩:=aj;unfold f9 at e;split at e;next ds=>
  obtain⟨a,vs,rfl,hq,rs⟩:=r.eX;exact⟨a,vs,rfl,hq,by rw[<- rs.length];exact hl _ _ _ e,ds,ρ,w,t,am,g,rs,e,k⟩
 .cases e⟩
theorem wH{p q:iB}:∀ ds ρ am,bH p (bH q fC) ds ρ=some am->ds.length=2:=λds ρ am h=>by
 match ds with
 | []=>cases h
 | [_]=>unfold bH at h;simp at h;split at h<;>cases h
 | [_,_]=>rfl
 | _::_::_::_=>
  exfalso;unfold bH at h;simp at h;split at h
  .split at h<;>cases h
  .cases h
end
theorem Ks:∀ {bs:List Bool} {us:List Value},bK (bs.map V.bl) us->LSm.BoolsAre us bs
 | [],_,h=>by cases h;exact .nil
 | b::bs,_,h=>by
  cases h with
  | cons r rr=>
   cases r;exact .cons b (Ks rr)
section
variable {X:Cx}{a b c e:Expr}{es:List Expr}{fa fb fc f:aN}{g:cf}{pos p p1 p2:Pos}
theorem Xh(hc:X.calm=true):kZ X (.builtin "all") (λxs H Q=>∃ (a:Addr) (bs:List Bool),xs=[.ref a]/\dE X.K H a (bs.map V.bl)/\Q (.bl (bs.all id)) H):=by
 intro Tk s σ H xs us Q I r h;obtain⟨l,bs,rfl,hq,q⟩:=h;obtain⟨u,rfl,ru⟩:=mZ r;cases ru;obtain⟨ak,rv,pl,hz⟩:=I.list hq;have hb:=Ks rv;have hl:s.heap.IsList l ak.toArray:=pl.isList;have lt:l<s.heap.objs.size:=by obtain⟨_,e,_⟩:=hl;exact Qq e
 refine call_all_walk (Yl hl ⟨s.heap.objs.size,[s.heap.objs.size,l],[s.heap.objs.size],ak.toArray.size,_,_,λi=>(bs[i]?).getD true,rfl,Walks.list (A:=X.A.in1) (I.ok.hd hc) _ l (QS lt) ak.toArray,
  ⟨⟨_,Qv _ rfl,rfl,rfl⟩,hl.push _⟩,λi v s' Q' E' hP hQ=>?_,λh' tk hk=>?_⟩)
 .obtain⟨b,e,rfl⟩:=hb.get i v (by simpa using hP);simp only[e,Option.getD_some]at hQ;exact ZJ hQ
 .have e:((range ak.toArray.size).all λi=>(bs[i]?).getD true)=bs.all id:=by rw[Qn,hb.length];exact LSm.range_all bs
  rw[e];exact⟨.bl (bs.all id),H,I.kept λb o z=>hk b o (λm=>by rw[Q6.mp m]at z;exact QW _ (Qq z)) (Qe _ z),rfl,q⟩
def sT:List D->Option (List Bool)
 | []=>some []
 | .bl b::r=>(sT r).map (b :: ·)
 | _=>none
def p7:List D->Option D
 | [.lst ds]=>(sT ds).map λbs=>.bl (bs.all id)
 | _=>none
theorem Kt:∀ {ds:List D} {vs:List V} {bs:List Bool},af K H w o 0 ds vs []->sT ds=some bs->vs=bs.map V.bl
 | ds,vs,bs,r,e=>by
  generalize hF:([]:List Addr)=F at r;cases r with
  | nil=>cases e;rfl
  | @cons _ d v m8 m9 F' G' r1 r2 _=>
   have h2:G'=[]:=r2.zero;subst h2;cases r1 with
   | bl b=>
    unfold sT at e;cases e':sT m8 with
    | none=>rw[e']at e;cases e
    | some p9=>
     rw[e']at e;cases e;rw[Kt r2 e'];rfl
   | _=>cases e
theorem BU(hc:X.calm=true)(hm:X.mg "all" = none)(ha:gy X [a] g)(hg:Gl X "all":=by rfl)(he:starEach [a] X.env=(false,eval a X.env)::starEach [] X.env:=by rfl)(cE:(backTo pos (starEach [] X.env)).any (·.1)=false:=by rfl):QD X (.Call (.Name "all" p) [a] [] pos) (eB p7 g):=⟨have ha:=ha.o;PE.imp (qL (Xh hc) hg hm PyProof.Rows.boot_all ha (by decide) (by decide) he cE) (BM λds d h=>by
  unfold p7 at h;split at h;next Xi=>
   cases e:sT Xi with
   | none=>rw[e]at h;cases h
   | some bs=>
    rw[e]at h;cases h;refine⟨_,rfl,λH w vs wl r Q hq=>?_⟩;obtain⟨v,rfl,rv⟩:=one r;obtain⟨p,ys,rfl,hs,rs⟩:=rv.fV;rw[Kt rs e]at hs;exact⟨p,bs,rfl,hs,hq⟩
  .cases h)⟩
theorem Ku{α:Type}(l:List α)(f:α->Bool):sT (l.map λi=>.bl (f i))=some (l.map f):=by
 induction l with
 | nil=>rfl
 | cons a l ih=>rw[QM,sT,ih];rfl
end
inductive IT where
 | int|bool|tuple|list|str
def IT.nm:IT->String
 | .int=>"int"
 | .bool=>"bool"
 | .tuple=>"tuple"
 | .list=>"list"
 | .str=>"str"
def ja:IT->D->Bool
 | .int,.int _=>true
 | .int,.bl _=>true
 | .bool,.bl _=>true
 | .tuple,.tup _=>true
 | .list,.lst _=>true
 | .str,.str _=>true
 | _,_=>false
def Kv:D->String
 | .bc=>"NoneType"
 | .bl _=>"bool"
 | .int _=>"int"
 | .str _=>"str"
 | .tup _=>"tuple"
 | .iH _ _=>"dict"
 | .exc _=>"object"
 | .ob _ _ _ _=>"function"
 | .mp _ _=>"dict"
 | .lst _=>"list"
section
variable {X:Cx}{Tk:List (Addr×Obj)}{σ:St}{H:Hp}{s:Shared}
theorem Xj{x:V}{u c:Value}{A:Around}{E:Tl}(I:Inv X Tk σ H s)(rx:cn x u)(r:Rep X.K H w o q d x F)
  (e:W.kitOne X.K (.type (Kv d)) c=some b) (hx:∀ nm,d ≠ .exc nm) (hi:∀ C fs p ds,d ≠ .mp (.i C fs p) ds) (h:∀ tk,Q (.bool b) { s with toks:=tk }):wpAny (model X.prog X.w) A (call (.builtin "isinstance") [u,c]) Q E s:=by
 cases r with
 | exc _ _ _=>exact absurd rfl (hx _)
 | ob h1 h2 x r=>
  cases rx;obtain⟨e1,_⟩:=(show d7 X.prog X.w H s.heap _ (.gQ _ _)from I.aP _ _ h1);exact Zt U1 I.gE ⟨_,e1,x.1⟩ e (λz=>nomatch z) h
 | bc=>exact k7 I rx .bc e h
 | bl y=>exact k7 I rx (.bl y) e h
 | int i=>exact k7 I rx (.int i) e h
 | str y=>exact k7 I rx (.str y) e h
 | tup ha _=>exact k7 I rx (.tup ha) e h
 | iH ha _ _=>exact k7 I rx (.dK ha) e h
 | kl ha _=>
  obtain⟨ob,ak,n,hk,hc,hd,_⟩:=ha;cases rx;exact Zt Vi I.gE ⟨ob,I.gE _ _ hk,hc⟩ e (λz=>nomatch z) h
 | shr ha _ _=>
  rcases ha with ha|⟨ob,ha⟩
  .exact k7 I rx (.lst ha) e h
  .exact k7 I rx (.gQ ha) e h
 | own ha _ _ _=>exact k7 I rx (.lst ha) e h
 | @sE a vs ds k y ha i _ _ _=>
  cases k with
  | t ks=>cases i;exact k7 I rx (.dT ha) e h
  | k ks=>cases i;exact k7 I rx (.dK ha) e h
  | i C fs p=>exact absurd rfl (hi _ _ _ _)
 | @we q a vs ds k y ha i _ _ _=>
  cases k with
  | t ks=>cases i;exact k7 I rx (.dT ha) e h
  | k ks=>cases i;exact k7 I rx (.dK ha) e h
  | i C fs p=>exact absurd rfl (hi _ _ _ _)
theorem Xk{C:Str}{fs:List Str}{pn:Option Addr}{x:V}{u:Value}{A:Around}{E:Tl}(I:Inv X Tk σ H s)(rx:cn x u)(r:Rep X.K H w o q (.mp (.i C fs pn) ds) x F)
  (T:IT) (h:∀ tk,Q (.bool false) { s with toks:=tk }):wpAny (model X.prog X.w) A (call (.builtin "isinstance") [u,.type T.nm]) Q E s:=by
 cases r with
 | sE ha i _ _ _=>
  obtain⟨C,dx,_,rfl,c,_⟩:=i;exact k7 I rx (.ins ha c.cl c.ha c.hn c.xR c.hm) (c.no _ (by cases T<;>simp[IT.nm])) h
 | we ha i _ _ _=>
  obtain⟨C,dx,_,rfl,c,_⟩:=i;exact k7 I rx (.ins ha c.cl c.ha c.hn c.xR c.hm) (c.no _ (by cases T<;>simp[IT.nm])) h
theorem Xl(T:IT)(d:D)(hx:∀ nm,d ≠ .exc nm):W.kitOne K (.type (Kv d)) (.type T.nm)=some (ja T d):=by cases T<;>cases d<;>first|rfl|exact absurd rfl (hx _)
end
section
variable {X:Cx}{a b c e:Expr}{es:List Expr}{fa fb fc f:aN}{ga gb:cS}{g:cf}{pos p p1 p2 pT:Pos}
theorem Xm(T:IT):kZ X (.builtin "isinstance") (λxs H Q=>∃ x w o q F d,xs=[x,.ty T.nm]/\Rep X.K H w o q d x F/\Q (.bl (ja T d)) H):=by
 intro Tk s σ H xs us Q I r h;obtain⟨x,w,o,q,F,d,rfl,rd,hq⟩:=h;obtain⟨u,v,rfl,ru,rv⟩:=AZ r;cases rv;by_cases hx:∃ nm,d=.exc nm
 .obtain⟨nm,rfl⟩:=hx;obtain⟨_,_,_,rfl,ha,C,hc,k⟩:=rd.inv
  .cases ru;obtain⟨e1,_⟩:=(show d7 X.prog X.w H s.heap _ (.gQ _ _)from I.aP _ _ ha);have hT:ja T (.exc nm)=false:=by cases T<;>rfl
   rw[hT]at hq;refine US (x:=_) I.gE ⟨e1,hc⟩ k.xc (by cases T<;>kernel_rfl) (k.no _ (by cases T<;>simp[IT.nm])) ⟨.bl false,H,I.tok _,rfl,hq⟩
 .by_cases hi:∃ C fs p ds,d=.mp (.i C fs p) ds
  .obtain⟨C,fs,p,ds,rfl⟩:=hi;exact Xk I ru rd T λtk=>⟨.bl (ja T (.mp (.i C fs p) ds)),H,I.tok _,by cases T<;>rfl,hq⟩
  .exact Xj I ru rd (Xl T d λnm z=>hx ⟨nm,z⟩) (λnm z=>hx ⟨nm,z⟩) (λC fs p ds z=>hi ⟨C,fs,p,ds,z⟩) λtk=>⟨.bl (ja T d),H,I.tok _,rfl,hq⟩
@[simp] def mr (T:IT)(fa:aN):aN:=λρ=>match fa ρ with
 | some (d,_,ac)=>some (.bl (ja T d),9,ac)
 | none=>none
theorem p_(T:IT){t:Str}(hm:X.mg "isinstance" = none)(Et:X.mg t=none)(Xn:bootBuiltins t=some (.type T.nm))(ha:QD X a fa)(hg:Gl X "isinstance":=by rfl)(yD:Gl X t:=by rfl)(Xo:t ≠ "__name__":=by decide)(Eu:(t==("__debug__":Str))=false:=by decide)(hs:starEach [a,.Name t pT] X.env=(false,eval a X.env)::starEach [.Name t pT] X.env:=by rfl)(cE:(backTo pos (starEach [.Name t pT] X.env)).any (·.1)=false:=by rfl):QD X (.Call (.Name "isinstance" p) [a,.Name t pT] [] pos) (mr T fa):=⟨have ha:=ha.o;PE.imp (qL (Xm T) hg hm JH (l0 ha (l0 (Hm (v:=.ty T.nm) yD Et Xn rfl Xo Eu) oG bT) hs) (by decide) (by decide) hs cE) λσ H Q aj=>by
 obtain⟨ρ,w,t,r',q,am,gd,ee,k⟩:=aj;unfold mr at ee;split at ee;next d q1 ac h1=>
  cases ee;refine⟨ρ,w,t,_,_,_,gd,h1,λv H1 w1 F1 g1 aV r1=>?_⟩;exact⟨v,w1,_,_,F1,d,rfl,r1,k _ H1 (dv t w1) [] g1.drop.up (aV.drop gd.wt) (.bl _)⟩
 .cases ee⟩
@[simp] def n6 (g1 g2:D->D->Option D)(fa fb fc:aN):aN:=λρ=>match fa ρ with
 | some (x,_,ac)=>match fb ac with
  | some (y,_,ap)=>match g1 x y with
   | some (.bl true)=>match fc ap with
    | some (z,_,gT)=>match g2 y z with
     | some d=>some (d,9,gT)
     | none=>none
    | none=>none
   | some (.bl false)=>some (.bl false,9,ap)
   | _=>none
  | none=>none
 | none=>none
theorem Kw(ho:dy X (compareOp op) (lZ h1))(fm:dy X (compareOp mQ) (lZ h2))(e1:∀ i j d,g1 i j=some d->nc d=some (h1 i j))(oX:∀ i j d,g2 i j=some d->nc d=some (h2 i j))
  (ha:PD X a fa) (hb:PD X b fb) (hc:PD X c fc) (hm:lastMarks [op,mQ] [b,c]=false:=by with_unfolding_all rfl):PD X (.Compare a [op,mQ] [b,c] pos) (n6 (gI g1) (gI g2) fa fb fc):=PE.imp (SA ho fm ha hb hc hm) λσ H Q aj=>by
 obtain⟨ρ,w,t,r',q,am,gd,ee,k⟩:=aj;unfold n6 at ee;split at ee;next x q1 ac a1=>
  split at ee;next y q2 ap a2=>
   refine sF gd a1 a2 λu v H2 w2 F1 F2 yE bZ r1 r2=>?_;have gg:=yE.drop (t':=t);split at ee;next hg=>
    obtain⟨i,j,rfl,rfl,rn⟩:=sH hg;refine⟨i,j,eV r1,eV r2,true,by have:=e1 i j _ rn;simpa [nc]using this.symm,?_⟩;rw[Qh rfl];split at ee;next z q3 gT a3=>
     refine⟨ap,dv t w2,t,z,q3,gT,gg,a3,λv3 H3 w3 F3 g3 j_ r3=>?_⟩;split at ee;next d hd=>
      cases ee;obtain⟨j',l,ej,rfl,gF⟩:=sH hd;cases ej;exact⟨j,l,eV r2,eV r3,qU k gd g3 ((bZ.drop gd.wt).trans j_) (BA (oX j l _ gF))⟩
     .cases ee
    .cases ee
   next hg=>
    obtain⟨i,j,rfl,rfl,rn⟩:=sH hg;cases ee;refine⟨i,j,eV r1,eV r2,false,by have:=e1 i j _ rn;simpa [nc]using this.symm,?_⟩;rw[Ql (by decide)];exact qU k gd yE bZ (.bl false)
   .cases ee
  .cases ee
 .cases ee
theorem Xp(ha:QD X a fa)(hb:QD X b fb)(hc:QD X c fc)(hm:lastMarks [.LtE,.Lt] [b,c]=false:=by with_unfolding_all rfl):QD X (.Compare a [.LtE,.Lt] [b,c] pos) (n6 wy oP fa fb fc):=⟨have ha:=ha.o;have hb:=hb.o;have hc:=hc.o;Kw Dc Hx (λi j d h=>by cases h;rfl) (λi j d h=>by cases h;rfl) ha hb hc hm⟩
theorem Xq(ha:QD X a fa)(hb:QD X b fb)(hc:QD X c fc)(hm:lastMarks [.LtE,.LtE] [b,c]=false:=by with_unfolding_all rfl):QD X (.Compare a [.LtE,.LtE] [b,c] pos) (n6 wy wy fa fb fc):=⟨have ha:=ha.o;have hb:=hb.o;have hc:=hc.o;Kw Dc Dc (λi j d h=>by cases h;rfl) (λi j d h=>by cases h;rfl) ha hb hc hm⟩
def dIs:D->D->Option D
 | .bl x,.bl y=>some (.bl (x==y))
 | _,_=>none
def BV:D->D->Option D
 | .bl x,.bl y=>some (.bl (!(x==y)))
 | _,_=>none
theorem Xr:dy X (compareOp .IsNot) (λx y H Q=>∃ i j,x=.bl i/\y=.bl j/\Q (.bl (!(i==j))) H):=by
 intro Tk s σ H x y v u Q I rx ry h;obtain⟨i,j,rfl,rfl,q⟩:=h;cases rx;cases ry;cases i<;>cases j
 .exact Qd ⟨.bl false,H,I,rfl,q⟩
 .exact Qd ⟨.bl true,H,I,rfl,q⟩
 .exact Qd ⟨.bl true,H,I,rfl,q⟩
 .exact Qd ⟨.bl false,H,I,rfl,q⟩
theorem Xs:∀ σ H Q,tD K (e2 BV fa fb) σ H Q->j5 (λx y H Q=>∃ i j,x=.bl i/\y=.bl j/\Q (.bl (!(i==j))) H) (tD K fa) (tD K fb) σ H Q:=sG λx y d h=>by
 unfold BV at h;split at h
 .cases h;exact⟨_,rfl,λH w o o' q q' u u' F F' r1 r2 _ Q hq=>⟨_,_,r1.inv.1,r2.inv.1,hq⟩⟩
 .cases h
theorem Xu(ha:QD X a fa)(hb:QD X b fb):iY X (.Compare a [.IsNot] [b] pos) (bg (e2 BV fa fb)):=⟨have ha:=ha.o;have hb:=hb.o;sJ Xr Xs ha hb (ui _)⟩
@[simp] def Ew (fa:aN):aN:=λρ=>match fa ρ with
 | some (.int i,_,ac)=>some (.int (-i),9,ac)
 | _=>none
theorem Xv(ha:QD X a fa):QD X (.UnaryOp .USub a pos) (Ew fa):=⟨have ha:=ha.o;PE.imp (Si Sv ha) λσ H Q aj=>by
 obtain⟨ρ,w,t,r',q,am,gd,ee,k⟩:=aj;unfold Ew at ee;split at ee;next i q1 ac h1=>
  cases ee;refine⟨ρ,w,t,_,_,_,gd,h1,λv H1 w1 F1 g1 aV r1=>?_⟩;exact⟨i,eV r1,k _ H1 (dv t w1) [] g1.drop.up (aV.drop gd.wt) (.int _)⟩
 .cases ee⟩
section
variable {prog:Program}{w:World}{A:Around}{E:Tl}{s:Shared}
theorem Xw(l b:Addr)(us vs:Array Value)(n m:Nat)(d1 d2:Option Addr)(s1 s2:Array (Option Value))(h0:us.isEmpty=true) :
  Meets (Builtin.«tuple.__add__» ⟨[.ref l,.ref b],[]⟩) (λ_ R s=>s.heap.get? l=some { cls:=.type "tuple",dict:=d1,data:=.seq us n,slots:=s1 }/\s.heap.get? b=some { cls:=.type "tuple",dict:=d2,data:=.seq vs m,slots:=s2 }/\R (.ok (.ret (.ref b))) s):=
 .of_wp λprog w A R s h=>by
  obtain⟨hp,g,d,tk,os⟩:=s;obtain⟨hl,hb,h⟩:=h;have f2:=AutoSeq1.sub_tuple_tuple;wp_walk using wpAny_loadPart' hl,wpAny_loadPart' hb
  exact⟨_,rfl,h⟩
theorem Xx{t b:Addr}{ws:List Value}(ht:IsTup s.heap t #[])(hb:IsTup s.heap b ws.toArray)(h:Q (.ref b) s):wpAny (model prog w) A (binaryOp .Add (.ref t) (.ref b)) Q E s:=by obtain⟨⟨c1,d1,a1,s1⟩,e1,mj,n1,yF⟩:=id ht;obtain⟨⟨c2,d2,a2,s2⟩,e2,l3,n2,Kx⟩:=id hb;simp only at mj yF l3 Kx;subst mj yF l3 Kx;exact VD ⟨_,e1,rfl⟩ ⟨_,e2,rfl⟩ Vt seq_tuple_add Yi Yf (JX _ _) (Xw t b #[] ws.toArray n1 n2 d1 d2 s1 s2 rfl) ⟨e1,e2,h⟩
end
theorem Xy:dy X (binaryOp .Add) (λx y H Q=>∃ a b ys,x=.ref a/\y=.ref b/\du X.K H a []/\du X.K H b ys/\Q (.ref b) H):=by intro Tk s σ H x y v u Q I rx ry h;obtain⟨a,b,ys,rfl,rfl,ha,hb,q⟩:=h;cases rx;cases ry;obtain⟨ak,r1,p1,_⟩:=I.tuple ha;obtain⟨i6,r2,p2,_⟩:=I.tuple hb;cases r1;exact Xx p1 p2 ⟨.ref b,H,I,rfl,q⟩
theorem dy.or{f:Value->Value->Sem Value}{r r':R2}(h:dy X f r)(h':dy X f r'):dy X f (λx y H Q=>r x y H Q\/r' x y H Q):=λTk s σ H x y v u Q I rx ry q=>q.elim (λz=>h Tk s σ H x y v u Q I rx ry z) λz=>h' Tk s σ H x y v u Q I rx ry z
@[simp] def uW (fa fb:aN):aN:=λρ=>match fa ρ with
 | some (.tup ds,_,ac)=>match fb ac with
  | some (.tup es,_,ap)=>if ds.length+es.length<=1000 then some (.tup (ds++es),9,ap)else none
  | _=>none
 | _=>none
theorem Ex(ha:QD X a fa)(hb:QD X b fb):QD X (.BinOp a .Add b pos) (uW fa fb):=⟨have ha:=ha.o;have hb:=hb.o;PE.imp (sg (dy.or Xy Td) ha hb) λσ H Q aj=>by
 obtain⟨ρ,w,t,r',q,am,gd,ee,k⟩:=aj;unfold uW at ee;split at ee;next ds q1 ac h1=>
  split at ee;next es q2 ap h2=>
   split at ee;next hl=>
    cases ee;refine sF gd h1 h2 λu u' H2 w2 F1 F2 g2 go r1 r2=>?_;have rp:=r1.drop (o:=.f) (Qj t);have BW:=r2.drop (o:=.f) (JP t);have gg:=g2.drop (t':=t);have sU:=go.drop gd.wt;obtain⟨p1,vs,rfl,rq,s1⟩:=rp.eX;obtain⟨p2,us,rfl,BX,s2⟩:=BW.eX;have l1:=s1.length;have l2:=s2.length;cases ds with
    | nil=>
     have:vs=[]:=ZQ.mp (by rw[<- l1];rfl);subst this;refine .inl ⟨p1,p2,us,rfl,rfl,rq,BX,k _ H2 (dv t w2) [] gg.up sU ?_⟩;exact(Rep.go gg.wl (λa x e n=>⟨sm e,n⟩) BW nM:Rep X.K H2 (dv t w2) (.t t) 0 _ _ []).d_ rfl |>.2 9
    | cons d ds=>
     refine .inr ⟨p1,p2,vs,us,rfl,rfl,rq,BX,(λz=>by rw[z]at l1;cases l1),sI (by rw[<- l1,<- l2];exact hl),λz=>?_,λ_ p hp=>?_⟩
     .have:es=[]:=ZQ.mp (by rw[l2,z];rfl);subst this;rw[QX]at k;exact k _ H2 (dv t w2) [] gg.up sU ((Rep.go gg.wl (λa x e n=>⟨sm e,n⟩) rp nM:Rep X.K H2 (dv t w2) (.t t) 0 _ _ []).d_ rfl |>.2 9)
     .obtain⟨a1,a2,a3⟩:=wq gg hp (s2.app s1);exact k _ _ _ _ a1 (sU.trans a2) a3
   .cases ee
  .cases ee
 .cases ee⟩
abbrev uX:=a_->Option (Option Int×a_)
def Xz (K:PySem.W.Frag)(f:uX):TO:=λσ H Q=>∃ ρ w t o am,Good K ρ σ H w t/\f ρ=some (o,am)/\∀ H' w',Good K am σ H' w' t->Go H w H' w'->Q o H'
abbrev XA (X:Cx)(e:Option Expr)(f:uX):Prop:=PO X e (Xz X.K f)
structure BY (X:Cx) (e:Option Expr) (f:uX):Prop where mk::o:XA X e f
@[simp] def rA:uX:=λρ=>some (none,ρ)
@[simp] def qc (f:aN):uX:=λρ=>match f ρ with
 | some (.int i,_,ac)=>some (some i,ac)
 | _=>none
theorem PO.imp{e:Option Expr}{t t':TO}(h:PO X e t)(i:∀ σ H Q,t' σ H Q->t σ H Q):PO X e t':=λTk s σ H Q I q=>h Tk s σ H Q I (i σ H Q q)
theorem yG:BY X none rA:=⟨PO.imp S6 λσ H Q aj=>by obtain⟨ρ,w,t,o,am,gd,ee,k⟩:=aj;cases ee;exact k H w gd Go.refl⟩
theorem yH(h:QD X e f):BY X (some e) (qc f):=⟨have h:=h.o;PO.imp (S7 h) λσ H Q aj=>by
 obtain⟨ρ,w,t,o,am,gd,ee,k⟩:=aj;unfold qc at ee;split at ee;next i q1 ac h1=>
  cases ee;exact⟨ρ,w,t,_,_,_,gd,h1,λv H1 w1 F1 g1 aV r1=>⟨i,eV r1,k H1 (dv t w1) g1.drop (aV.drop gd.wt)⟩⟩
 .cases ee⟩
section
variable {prog:Program}{w:World}{A:Around}{E:Tl}{s:Shared}
theorem XB{t sl:Addr}{us:Array Value}{vl vu:Value}{lo hi:Option Int}(ht:IsTup s.heap t us)(hs:s.heap.IsSliceOf sl vl vu .none)(pl:IsPart vl lo)(pu:IsPart vu hi)
  (hw:HT.bR us.size 0 lo=0/\HT.bR us.size us.size hi=us.size) (h:Q (.ref t) s):wpAny (model prog w) A (getItem (.ref t) (.ref sl)) Q E s:=by
 obtain⟨os,uq,Be,xV⟩:=id hs;have ts:s.TypeIs (.ref sl) "slice":=⟨os,uq,Be⟩;unfold getItem
 try with_reducible refine Zq ?_
 first|refine Qa (Qd ?_)|skip
 refine Qa (wpAny_sequenceKey ht.typeIs (by decide) (Qa (Zu (name:=Str.ofString "__getitem__") ht.typeIs Zr (Zh Zr ht.typeIs entry_tuple_getitem ?_ (args_tuple_getitem _ _)))));show wpAny _ _ (Builtin.Tuple.tupleItemsOf (.ref t) >>= _) _ _ s;refine Qa (tupleItemsOf_ ht (Qa (Yj ts ?_)));rw[Qh (by decide)];refine Qa (HT.HP hs pl pu ?_);have yes:(((HT.bR us.size 0 lo:Nat):Int)==0&&(1:Int)==1&&(HT.bR us.size us.size hi-HT.bR us.size 0 lo)==us.size)=true:=by rw[hw.1,hw.2];simp
 show wpAny _ _ (if(((HT.bR us.size 0 lo:Nat):Int)==0&&(1:Int)==1&&(HT.bR us.size us.size hi-HT.bR us.size 0 lo)==us.size)=true then _ else _) _ _ s;rw[Qh yes];refine Qa (m:=Builtin.Tuple.tupleIsExact _) ?_;unfold Builtin.Tuple.tupleIsExact;refine Qa (Yj ht.typeIs (Qd ?_));rw[Qh (by decide)];exact Qa (JO (Qd ⟨_,rfl,Qd h⟩))
end
def rB (xs:List D)(lo hi:Option Int):List D:=(xs.drop (HT.bR xs.length 0 lo)).take (HT.bR xs.length xs.length hi-HT.bR xs.length 0 lo)
@[simp] def qd (fa:aN)(fl fh:uX):aN:=λρ=>match fa ρ with
 | some (.tup ds,_,ac)=>match fl ac with
  | some (lo,ap)=>match fh ap with
   | some (hi,gT)=>some (.tup (rB ds lo hi),9,gT)
   | none=>none
  | none=>none
 | _=>none
theorem af.sV:∀ {ds:List D} {vs:List V} (i:Nat),af K H w .f 0 ds vs []->af K H w .f 0 (ds.take i) (vs.take i) []
 | _,_,0,_=>by rw[Yn,Yn];exact .nil
 | ds,vs,i+1,r=>by
  generalize hF:([]:List Addr)=F at r;cases r with
  | nil=>exact .nil
  | cons r s _=>
   have h2:=s.zero;have h1:=r.zero;subst h2;subst h1;exact .cons (F:=[]) (G:=[]) r (af.sV i s) nM
theorem XD:sk X (λx lo hi H Q=>∃ a xs,x=.ref a/\du X.K H a xs/\(HT.bR xs.length 0 lo=0/\HT.bR xs.length xs.length hi=xs.length)/\Q (.ref a) H):=by
 intro Tk s σ H x v vl vu lo hi sl Q I rx hs pl pu h;obtain⟨a,xs,rfl,hx,hw,q⟩:=h;cases rx;obtain⟨ak,r,ht,hz⟩:=I.tuple hx;have hlen:ak.toArray.size=xs.length:=by rw[Qn];exact r.length.symm
 exact⟨"tuple",_,Zr.lookup,ht.typeIs,XB ht hs pl pu (by rw[hlen];exact hw) ⟨.ref a,H,I,rfl,q⟩⟩
theorem yI{lo hi:Option Expr}{fl fh:uX}(ha:QD X a fa)(hl:BY X lo fl)(hh:BY X hi fh):QD X (.Subscript a (.Slice lo hi none p2) pos) (qd fa fl fh):=⟨have ha:=ha.o;have hl:=hl.o;have hh:=hh.o;PE.imp (S_ (XD.or Tb) ha hl hh) λσ H Q aj=>by
 obtain⟨ρ,w,t,r',q,am,gd,ee,k⟩:=aj;unfold qd at ee;split at ee;next ds q1 ac h1=>
  split at ee;next lo ap h2=>
   split at ee;next hi gT h3=>
    cases ee;refine⟨ρ,w,t,_,_,_,gd,h1,λv H1 w1 F1 g1 aV r1=>?_⟩;have Kz:=g1.drop (t':=t);have r0:=r1.drop (o:=.f) (Qj t);refine⟨ac,dv t w1,t,_,_,Kz,h2,λH2 w2 g2 bZ=>⟨ap,w2,t,_,_,g2,h3,λH3 w3 g3 j_=>?_⟩⟩;have r3:=(r0.lj Kz.wl bZ.cu).lj g2.wl j_.cu;obtain⟨p1,vs,rfl,rq,s1⟩:=r3.eX;have l1:=s1.length;by_cases hw:HT.bR ds.length 0 lo=0/\HT.bR ds.length ds.length hi=ds.length
    .have ec:rB ds lo hi=ds:=by unfold rB;rw[hw.1,hw.2,List.drop_zero,Nat.sub_zero,Jc]
     rw[ec]at k;refine .inl ⟨p1,vs,rfl,rq,by rw[<- l1];exact hw,?_⟩;exact k _ H3 w3 [] g3.up (((aV.drop gd.wt).trans bZ).trans j_) ((Rep.go g3.wl (λa x e n=>⟨sm e,n⟩) r3 nM:Rep X.K H3 w3 (.t t) 0 _ _ []).d_ rfl |>.2 9)
    .refine .inr ⟨p1,vs,rfl,rq,by rw[<- l1];exact hw,λp hp=>?_⟩;have s4:af X.K H3 w3 .f 0 (rB ds lo hi) (sr vs lo hi) []:=by unfold rB sr;rw[<- l1];exact(s1.sN _).sV _
     obtain⟨a1,a2,a3⟩:=wq g3 hp s4;exact k _ _ _ _ a1 ((((aV.drop gd.wt).trans bZ).trans j_).trans a2) a3
   .cases ee
  .cases ee
 .cases ee⟩
end
section
variable {X:Cx}{k b n:Nat}{a c e tg:Expr}{es:List Expr}{pt:iB}{ps:rj}{pos:Pos}{fa fb f:aN}
theorem wI{p q r:iB}:∀ ds ρ am,bH p (bH q (bH r fC)) ds ρ=some am->ds.length=3:=λds ρ am h=>by
 match ds with
 | []=>cases h
 | [_]=>unfold bH at h;simp at h;split at h<;>cases h
 | [_,_]=>unfold bH at h;simp at h;split at h;(split at h<;>cases h);cases h
 | [_,_,_]=>rfl
 | _::_::_::_::_=>
  exfalso;unfold bH at h;simp at h;split at h
  .split at h
   .split at h<;>cases h
   .cases h
  .cases h
end
theorem XE:fillsNumberSlot (.type "tuple") "mul" = pure false:=PySem.fillsNumberSlot_seq (id:="tuple.__mul__") (r:=some (.builtin "tuple.__rmul__")) YB.lookup (by decide +kernel) F.slot_tuple_rmul.lookup (by decide +kernel)
theorem XF:seqRepeat? (.type "tuple")=pure (some (.builtin "tuple.__mul__")):=by unfold seqRepeat?;rw[PySem.seqSlot_of (T:="tuple") (name:="__mul__") (id:="tuple.__mul__") YB.lookup (by decide +kernel),PySem.seqSlot_of (T:="tuple") (name:="__rmul__") (id:="tuple.__rmul__") F.slot_tuple_rmul.lookup (by decide +kernel)];rfl
theorem XG(a:Int)(t:Tok)(l:Addr)(us:Array Value)(n:Nat)(dd:Option Addr)(sl:Array (Option Value)) :
  Meets (Builtin.«int.__rmul__» ⟨[.int a t,.ref l],[]⟩) (λ_ R s=>s.heap.get? l=some { cls:=.type "tuple",dict:=dd,data:=.seq us n,slots:=sl }/\R (.ok (.ret Value.notImplemented)) s):=.of_wp λprog w A R s h=>by
 obtain⟨hp,g,d,tk,os⟩:=s;obtain⟨hl,h⟩:=h;wp_walk
 exact⟨_,rfl,h⟩
theorem XH(t:Tok)(l:Addr)(us:Array Value)(n:Nat)(dd:Option Addr)(sl:Array (Option Value)) :
  Meets (Builtin.«tuple.__mul__» ⟨[.ref l,.int 1 t],[]⟩) (λ_ R s=>s.heap.get? l=some { cls:=.type "tuple",dict:=dd,data:=.seq us n,slots:=sl }/\R (.ok (.ret (.ref l))) s):=.of_wp λprog w A R s h=>by
 obtain⟨hp,g,d,tk,os⟩:=s;obtain⟨hl,h⟩:=h;have f1:=AutoSeq1.idx_int;wp_walk using wpAny_loadPart' hl
 exact⟨_,rfl,h⟩
theorem XI(k:Int)(t:Tok)(l:Addr)(us:Array Value)(n:Nat)(dd:Option Addr)(sl:Array (Option Value))(h2:¬ (decide (k < -(2 ^ 63))||decide (k ≥ 2 ^ 63))=true)(h3:¬ (us.isEmpty||k==1)=true)(h4:¬ (decide (k<=0)||us.isEmpty)=true)(h5:¬ (us.size:Int)*k > (2 ^ 63-1) / 8)(h6:¬ Builtin.Tuple.tupleTooMany ((us.size:Int)*k)=true)(hsz:(List.foldl (· ++ ·) #[] (replicate k.toNat us)).size<=sizeLine) :
  Meets (Builtin.«tuple.__mul__» ⟨[.ref l,.int k t],[]⟩) (λ_ R s=>s.heap.get? l=some { cls:=.type "tuple",dict:=dd,data:=.seq us n,slots:=sl }/\R (.ok (.ret (.ref s.heap.objs.size))) { s with heap:=s.heap.push { cls:=.type "tuple",data:=.seq (List.foldl (· ++ ·) #[] (replicate k.toNat us)) } }):=.of_wp λprog w A R s h=>by
 obtain⟨hp,g,d,tk,os⟩:=s;obtain⟨hl,h⟩:=h;have f1:=AutoSeq1.idx_int;wp_walk using wpAny_loadPart' hl
 rw[Ql h2];wp_walk using wpAny_loadPart' hl
 rw[Ql h5];wp_walk using wpAny_loadPart' hl
 exact⟨_,rfl,h⟩
section
variable {X:Cx}{a b c e:Expr}{fa fb fc f:aN}{pos:Pos}
theorem XJ:dy X (binaryOp .Mult) (λx y H Q=>∃ a k xs,x=.ref a/\y=.int k/\du X.K H a xs/\xs ≠ []/\1<=k/\xs.length*k.toNat<=1000/\(k=1->Q (.ref a) H)/\(k≠1->∀ p,H p=none->Q (.ref p) (upd H p (.tup (replicate k.toNat xs).flatten)))):=by
 intro Tk s σ H x y v u Q I rx ry h;obtain⟨l,k,xs,rfl,rfl,hq,eJ,h1,hz,q1,q2⟩:=h;cases rx;obtain⟨t,rfl⟩:=ry;obtain⟨ak,r,pt,_⟩:=I.tuple hq;obtain⟨⟨c1,d1,a1,s1⟩,e,mj,n1,yF⟩:=id pt;simp only at mj yF;subst mj yF;have hl:=r.length;have oY:0<ak.length:=by rw[<- hl];exact YX.mpr eJ
 refine Vd (T:="tuple") (U:="int") (by decide) ⟨_,e,rfl⟩ (λs'=>VE s' k t) XE F.fills_int_mul YN XF F.slot_int_index.lookup
  (Jq YN (VE s k t) F.entry_int_rmul (F.args_int_rmul_2 _ _) (XG k t l ak.toArray n1 d1 s1) ⟨e,rfl,⟨_,e,rfl⟩,?_⟩)
 by_cases hk:k=1
 .subst hk;exact Jq YB ⟨_,e,rfl⟩ F.entry_tuple_mul (F.args_tuple_mul_2 _ _) (XH t l ak.toArray n1 d1 s1) ⟨e,⟨.ref l,H,I,rfl,q1 rfl⟩⟩
 .have hm:ak.length*k.toNat<=1000:=by rw[<- hl];exact hz
  have sW:k.toNat<=1000:=by have:=Nat.le_mul_of_pos_left k.toNat oY;omega
  have f0:List.foldl (λx1 x2=>x1++x2) #[] (replicate k.toNat ak.toArray)=(replicate k.toNat ak).flatten.toArray:=by have:=Dm ak k.toNat [];rw[List.nil_append]at this;exact this
  have lf:(replicate k.toNat ak).flatten.length<=1000:=by rw[Dp,VF];exact hm
  have em:((ak.toArray.size:Nat):Int)*k=((ak.length*k.toNat:Nat):Int):=by rw[Qn,Int.natCast_mul,Ud (by omega)]
  refine Jq YB ⟨_,e,rfl⟩ F.entry_tuple_mul (F.args_tuple_mul_2 _ _) (XI k t l ak.toArray n1 d1 s1 (by simp;omega) (by simp[hk];exact Vg oY) (by simp;exact⟨by omega,Vg oY⟩) (by rw[em];omega) (by
   unfold Builtin.Tuple.tupleTooMany;rw[em];simp only[gt_iff_lt,ZC,Int.not_lt];have:(1000:Nat)<=sizeLine:=by decide
   omega) (by rw[f0,Qn];exact sI lf)) ⟨e,?_⟩
  rw[f0];refine⟨.ref s.heap.objs.size,_,I.laid (t':=s.toks) (o:=.tup (replicate k.toNat xs).flatten) (λb ob q=>Qe _ q) (Qj _) ?_,rfl,q2 hk _ (I.aP.fresh (Qj _))⟩;exact⟨sI (by rw[Dp,VF];exact hz),_,r.rep k.toNat,mR.new _ _⟩
@[simp] def BZ (fa fb:aN):aN:=λρ=>match fa ρ with
 | some (.tup ds,_,ac)=>match fb ac with
  | some (.int n,_,ap)=>if ds.isEmpty=false/\1<=n/\ds.length*n.toNat<=1000 then some (.tup (replicate n.toNat ds).flatten,9,ap)else none
  | _=>none
 | _=>none
theorem XM(ha:QD X a fa)(hb:QD X b fb):QD X (.BinOp a .Mult b pos) (BZ fa fb):=⟨have ha:=ha.o;have hb:=hb.o;PE.imp (sg XJ ha hb) λσ H Q aj=>by
 obtain⟨ρ,w,t,r',q,am,gd,ee,k⟩:=aj;unfold BZ at ee;split at ee;next ds q1 ac h1=>
  split at ee;next n q2 ap h2=>
   split at ee;next hl=>
    cases ee;obtain⟨hd,hn,hz⟩:=hl;refine sF gd h1 h2 λu u' H2 w2 F1 F2 g2 go r1 r2=>?_;have rp:=r1.drop (o:=.f) (Qj t);have gg:=g2.drop (t':=t);have sU:=go.drop gd.wt;obtain⟨p1,vs,rfl,rq,s1⟩:=rp.eX;have l1:=s1.length;refine⟨p1,n,vs,rfl,eV r2,rq,λz=>?_,hn,by rw[<- l1];exact hz,λz=>?_,λ_ p hp=>?_⟩
    .subst z;have:ds=[]:=ZQ.mp l1;subst this;cases hd
    .subst z;have e:(replicate (Int.toNat 1) ds).flatten=ds:=by show(replicate 1 ds).flatten=ds;simp
     rw[e]at k;exact k _ H2 (dv t w2) [] gg.up sU ((Rep.go gg.wl (λa x e n=>⟨sm e,n⟩) rp nM:Rep X.K H2 (dv t w2) (.t t) 0 _ _ []).d_ rfl |>.2 9)
    .obtain⟨a1,a2,a3⟩:=wq gg hp (s1.times n.toNat);exact k _ _ _ _ a1 (sU.trans a2) a3
   .cases ee
  .cases ee
 .cases ee⟩
end
section
variable {X:Cx}{a b c e:Expr}{es:List Expr}{fa fb fc f:aN}{ga gb:cS}{g:cf}{pos p p1 p2 aH apos:Pos}
theorem Ey{i:Int}(h:∃ t,X.mg x=some (.int i t))(hg:Gl X x:=by rfl)(hd:(x==("__debug__":Str))=false:=by decide):QD X (.Name x pos) (eC (.int i)):=⟨by obtain⟨t,h⟩:=h;exact yl (Hl (v:=.int i) hg h ⟨t,rfl⟩ hd) λ_ _ _ _ _=>.int i⟩
theorem XN(ho:dy X (compareOp op) (lZ h1))(fm:dy X (compareOp mQ) (lZ h2))(e1:∀ i j d,g1 i j=some d->nc d=some (h1 i j))(oX:∀ i j d,g2 i j=some d->nc d=some (h2 i j))
  (ha:PD X a fa) (hb:PD X b fb) (hc:PD X c fc) (hm:lastMarks [op,mQ] [b,c]=false:=by with_unfolding_all rfl):D1 X (.Compare a [op,mQ] [b,c] pos) (bg (n6 (gI g1) (gI g2) fa fb fc)):=PT.imp (SD ho fm ha hb hc hm) (IE λσ H Q aj=>by
 obtain⟨ρ,w,t,r',q,am,gd,ee,k⟩:=aj;unfold n6 at ee;split at ee;next x q1 ac a1=>
  split at ee;next y q2 ap a2=>
   refine sF gd a1 a2 λu v H2 w2 F1 F2 yE bZ r1 r2=>?_;have gg:=yE.drop (t':=t);split at ee;next hg=>
    obtain⟨i,j,rfl,rfl,rn⟩:=sH hg;refine⟨i,j,eV r1,eV r2,true,by have:=e1 i j _ rn;simpa [nc]using this.symm,?_⟩;rw[Qh rfl];split at ee;next z q3 gT a3=>
     refine⟨ap,dv t w2,t,z,q3,gT,gg,a3,λv3 H3 w3 F3 g3 j_ r3=>?_⟩;split at ee;next d hd=>
      cases ee;obtain⟨j',l,ej,rfl,gF⟩:=sH hd;cases ej;exact⟨j,l,eV r2,eV r3,qU k gd g3 ((bZ.drop gd.wt).trans j_) (BA (oX j l _ gF))⟩
     .cases ee
    .cases ee
   next hg=>
    obtain⟨i,j,rfl,rfl,rn⟩:=sH hg;cases ee;refine⟨i,j,eV r1,eV r2,false,by have:=e1 i j _ rn;simpa [nc]using this.symm,?_⟩;rw[Ql (by decide)];exact qU k gd yE bZ (.bl false)
   .cases ee
  .cases ee
 .cases ee)
@[simp] def sX (i:Nat)(f:aN):aN:=λρ=>if uR ρ[i]? = true then match f ρ with
 | some (.lst es,1,ac)=>match ac[i]? with
  | some (some (.lst ds,1))=>if ds.length+es.length<=1000 then some (.bc,9,ac.set i (some (.lst (ds++es),1)))else none
  | _=>none
 | _=>none
 else none
theorem B1(h:QE X (.Name x p1) (lX i))(ha:QD X e f)(c_:attributeBase (.Name x p1) "extend" X.env (eval (.Name x p1) X.env)=eval (.Name x p1) X.env:=by rfl)(fA:((backTo aH (starEach [e] X.env)).all (λx=>!x.1)&&(backToKw aH (keywordEach [] X.env)).all (λx=>x.1.isSome)
   && decide ([e].length+([]:List Keyword).length+(if([]:List Keyword).isEmpty then 0 else 1)<30))=true:=by rfl) (da:(apos.endLine==aH.line)=true:=by rfl) (hs:starEach [e] X.env=(false,eval e X.env)::starEach [] X.env:=by rfl) (cG:(backTo aH (starEach [] X.env)).any (·.1)=false:=by rfl):QD X (.Call (.Attribute (.Name x p1) "extend" apos) [e] [] aH) (sX i f):=⟨have h:=h.o;have ha:=ha.o;PE.imp (v_ Z4 PySem.F.slot_list_extend PySem.F.type_list_extend Tz h (l0 ha oG hs) c_ fA da hs cG) λσ H Q aj=>by
 obtain⟨ρ,w,t,r',q,am,gd,ee,k⟩:=aj;unfold sX at ee;split at ee;next hl=>
  obtain⟨l,jz,us,hq⟩:=gd.df hl;split at ee;next kG ac h1=>
   split at ee;next ds e1=>
    split at ee;next hlen=>
     cases ee;refine⟨_,jz,.inl ⟨rfl,us,hq⟩,ρ,w,t,_,_,_,gd,h1,λv H1 w1 F1 g1 aV r1=>?_⟩;obtain⟨l',ws,iL,hH,rs,mk⟩:=g1.mut e1;rw[jz]at iL;cases iL;obtain⟨_,_,rfl,_,rfl,hb,_,rz,_⟩:=r1.inv
     .have z0:=rz.zero;subst z0;have KA:af X.K H1 w1 .f 0 kG _ []:=rz.any g1.wl;obtain⟨m1,m2⟩:=mk _ _ (KA.app rs);refine⟨l,_,ws,_,rfl,rfl,hH,hb,sI (by rw[<- rs.length,<- KA.length];exact hlen),?_⟩;exact k .bc _ w1 [] m1 (aV.trans m2) .bc
    .cases ee
   .cases ee
  .cases ee
 .cases ee⟩
end
section
variable {X:Cx}{a b c e:Expr}{es:List Expr}{fa fb fc f:aN}{ga gb gc:cS}{g:cf}{qa qb:nj}{s:aK}{pos p p1 p2 aH apos:Pos}
@[simp] def yJ:aK:=λ_=>none
theorem Ez:l_ X st yJ:=⟨PS.imp RN λD σ H aj=>by obtain⟨ρ,w,o,g,ee,k⟩:=aj;cases ee⟩
def oZ (c:cS)(b:aK):Nat->a_->Option Out
 | 0,_=>none
 | m+1,ρ=>match c ρ with
  | none=>none
  | some (t,ac)=>if t=true then match b ac with
    | none=>none
    | some (.nx ap)=>oZ c b m ap
    | some (.ct ap)=>oZ c b m ap
    | some (.bk ap)=>some (.nx ap)
    | some (.rt d q)=>some (.rt d q)
   else some (.nx ac)
def yK (c:cS)(b:aK):aK:=oZ c b 1000
theorem EA{body:List Stmt}(hp:PassesOwn (model X.prog X.w) X.A X.env X.xe)(hc:iY X c gc)(hb:iJ X body s):l_ X (.While c body [] pos) (yK gc s):=⟨have hc:=hc.o;have hb:=hb.o;PS.imp (R4 hp hc hb) λD σ H aj=>by
 obtain⟨ρ,w,o,g,ee,k⟩:=aj;refine⟨λm aX H'=>aX.length=σ.length/\∃ am w',Good X.K am aX H' w' 0/\oZ gc s m am=some o/\pY X.K D σ.length H' w' o,⟨1000,rfl,ρ,w,g,ee,k⟩,?_⟩;rintro m aX H' ⟨jz,am,w',g',e',k'⟩;cases m with
 | zero=>cases e'
 | succ m=>
  unfold oZ at e';split at e'
  .cases e'
  next t ac h1=>
   refine⟨am,w',0,t,ac,g',h1,λH1 w1 g1 aV=>?_⟩;cases t with
   | true=>
    rw[Qh rfl]at e' ⊢;refine⟨λoE H2=>oE.length=σ.length/\∃ ap w2,Good X.K ap oE H2 w2 0/\oZ gc s m ap=some o/\pY X.K D σ.length H2 w2 o,λoE H2 n2=>⟨m,ZP m,n2⟩,?_⟩;have nx:∀ {jU:a_},oZ gc s m jU=some o->∀ lq H5 w5,lq.length=aX.length->Good X.K jU lq H5 w5 0->Go H1 w1 H5 w5->lq.length=σ.length/\∃ ap w2,Good X.K ap lq H5 w2 0/\oZ gc s m ap=some o/\pY X.K D σ.length H5 w2 o:=λ{jU} e5 lq H5 w5 l5 g5 jA=>⟨by rw[l5,jz],jU,w5,g5,e5,k'.trans (aV.trans jA)⟩;cases h6:s ac with
    | none=>rw[h6]at e';cases e'
    | some o6=>
     rw[h6]at e';refine⟨ac,w1,o6,g1,h6,?_⟩;cases o6 with
     | nx jU=>exact nx e'
     | ct jU=>exact nx e'
     | bk jU=>
      cases e';exact λlq H5 w5 l5 g5 jA=>k' lq H5 w5 (by rw[l5,jz]) g5 (aV.trans jA)
     | rt d q=>
      cases e';exact λv H5 w5 F D4 jA r5=>k' v H5 w5 F D4 (aV.trans jA) r5
   | false=>
    rw[Ql (by decide)]at e' ⊢;cases e';exact k' aX H1 w1 jz g1 aV⟩
@[simp] def k39 (n:Nat)(qi:nj)(fe:aN):aK:=λρ=>match fe ρ with
 | some (d,_,ac)=>match qi ac,ac[n]? with
  | some i,some (some (.lst ds,1))=>match k9 ds.length i with
   | some m=>some (.nx (ac.set n (some (.lst (ds.set m d),1))))
   | none=>none
  | _,_=>none
 | none=>none
def XQ (K:PySem.W.Frag):R2:=λx y H Q=>∃ l b xs zs,x=.ref l/\y=.ref b/\dE K H l xs/\dE K H b zs/\xs.length+zs.length<=sizeLine/\∀ p,H p=none->Q (.ref p) (upd H p (.lst (xs++zs)))
theorem XR:dy X (binaryOp .Add) (XQ X.K):=by
 intro Tk s σ H x y v u Q I rx ry h;obtain⟨l,b,xs,zs,rfl,rfl,hH,hB,hz,q⟩:=h;cases rx;cases ry;obtain⟨ak,r,pl,z⟩:=I.list hH;obtain⟨i6,r2,EB,z2⟩:=I.list hB;obtain⟨⟨cls,dd,data,sl⟩,n,ho,hc,_,hd⟩:=pl;obtain⟨⟨Dg,Bc,data2,Bd⟩,n2,um,l3,_,hd2⟩:=EB;simp only at hc hd l3 hd2;subst hc hd l3 hd2;have l1:=r.length;have l2:=r2.length;refine VD ⟨_,ho,rfl⟩ ⟨_,um,rfl⟩ noFill_list_add seq_list_add PySem.F.slot_list_add PySem.F.entry_list_add (PySem.F.args_list_add_2 _ _) (list_addW l b ak.toArray i6.toArray n n2 dd Bc sl Bd (by rw[Qn,Qn,<- l1,<- l2];exact hz)) ⟨ho,um,?_⟩;have e:ak.toArray++i6.toArray=(ak++i6).toArray:=by simp
 rw[e];exact⟨.ref _,_,I.xY (t':=s.toks) (r.append r2) (by rw[Qk];omega),rfl,q _ I.fresh⟩
@[simp] def sY (fa fb:aN):aN:=λρ=>match fa ρ with
 | some (.lst ds,_,ac)=>match fb ac with
  | some (.lst es,_,ap)=>if ds.length+es.length<=1000 then some (.lst (ds++es),1,ap)else none
  | _=>none
 | _=>none
theorem EC(ha:QD X a fa)(hb:QD X b fb):QD X (.BinOp a .Add b pos) (sY fa fb):=⟨have ha:=ha.o;have hb:=hb.o;PE.imp (sg XR ha hb) λσ H Q aj=>by
 obtain⟨ρ,w,t,r',q,am,gd,ee,k⟩:=aj;unfold sY at ee;split at ee;next ds q1 ac h1=>
  split at ee;next es q2 ap h2=>
   split at ee;next hl=>
    cases ee;refine sF gd h1 h2 λu u' H2 w2 F1 F2 g2 go r1 r2=>?_;have rp:=r1.drop (o:=.f) (Qj t);have BW:=r2.drop (o:=.f) (JP t);have gg:=g2.drop (t':=t);have sU:=go.drop gd.wt;obtain⟨p1,vs,rfl,rq,s1⟩:=rp.fV;obtain⟨p2,us,rfl,BX,s2⟩:=BW.fV;refine⟨p1,p2,vs,us,rfl,rfl,rq,BX,sI (by rw[<- s1.length,<- s2.length];exact hl),λp hp=>?_⟩;obtain⟨a1,a2,a3⟩:=uF gg hp (s2.app s1);exact k _ _ _ _ a1 (sU.trans a2) a3
   .cases ee
  .cases ee
 .cases ee⟩
end
section
variable {X:Cx}{a b c e:Expr}{es:List Expr}{fa fb fc f:aN}{ga gb gc:cS}{g:cf}{qa qb:nj}{s:aK}{pos p p1 p2 p3 aH apos:Pos}
@[simp] def sZ (n:Nat)(c:Int):nj:=λρ=>match ρ[n]? with
 | some (some (.tup es,_))=>match L2.fK es c with
  | some d=>match ip d with
   | some m=>some (Int.ofNat m)
   | none=>none
  | none=>none
 | _=>none
theorem KC{n j:Nat}{c:Int}(hm:X.mg "len" = none)(h:QE X (.Name x p1) (lX n))(hg:Gl X "len":=by rfl)(hs:v8 (.Constant (.int c) j p2):=by exact λ_ _=>rfl)(he:starEach [.Subscript (.Name x p1) (.Constant (.int c) j p2) p3] X.env=(false,eval (.Subscript (.Name x p1) (.Constant (.int c) j p2) p3) X.env)::starEach [] X.env:=by rfl)(cE:(backTo pos (starEach [] X.env)).any (·.1)=false:=by rfl):QQ X (.Call (.Name "len" p) [.Subscript (.Name x p1) (.Constant (.int c) j p2) p3] [] pos) (sZ n c):=⟨have h:=h.o;PE.imp (qL Dk hg hm V4 (l0 (xW xX h Hk hs) oG he) (by decide) (by decide) he cE) λσ H Q aj=>by
 obtain⟨ρ,w,t,i,gd,ee,k⟩:=aj;unfold sZ at ee;split at ee;next es q e0=>
  split at ee;next d hd=>
   split at ee;next m fZ=>
    cases ee;obtain⟨v,F,h1,h2⟩:=gd.slot n _ _ e0;obtain⟨p0,vs,rfl,hq,rs⟩:=h2.eX;obtain⟨u,hu,ru⟩:=rs.fK hd;obtain⟨p',ys,rfl,uC,hl⟩:=ru.len fZ;exact⟨_,h1,.inr (.inl ⟨p0,vs,c,_,rfl,rfl,hq,hu,p',ys,rfl,uC,by rw[hl];exact k⟩)⟩
   .cases ee
  .cases ee
 .cases ee⟩
@[simp] def yL (k l:Str)(qa qb:nj):aN:=λρ=>match qa ρ,qb ρ with
 | some i,some j=>some (.iH [k,l] [.int i,.int j],9,ρ)
 | _,_=>none
theorem XS{t:Nat}{H1:Hp}{p:Addr}{ks:List Str}{w1:Wn}(g:Good K ρ σ H1 w1 t)(hp:H1 p=none)(r:af K H1 w1 .f 0 ds vs []) :
  Good K ρ σ (upd H1 p (.dK (nS ks vs))) w1 (t+1)/\Go H1 w1 (upd H1 p (.dK (nS ks vs))) w1/\Rep K (upd H1 p (.dK (nS ks vs))) w1 (.t t) 9 (.iH ks ds) (.ref p) []:=by
 have ne:∀ a x,H1 a=some x->a≠p:=λa x e=>ju e hp;have nw:∀ a o,w1 a=some o->a≠p:=λa o e=>by obtain⟨vs,q⟩:=g.wl a o e;exact ne a _ q
 have st:eU H1 w1 (upd H1 p (.dK (nS ks vs))) w1:=λa x e n=>⟨sm (by rw[bV (ne a x e)];exact e),n⟩;refine⟨⟨⟨λa o e=>?_,g.wl.tb.upd rfl (.inl hp)⟩,g.ws,λa i e=>ZU (g.wt a i e),g.len,λi d q e=>?_⟩,⟨st,λa o e _=>⟨bV (nw a o e),e⟩⟩,?_⟩
 .obtain⟨us,q⟩:=g.wl a o e;exact⟨us,by rw[bV (nw a o e)];exact q⟩
 .obtain⟨v,F,h1,h2⟩:=g.slot i d q e;exact⟨v,F,h1,Rep.go g.wl st h2 λa m=>⟨bV (nw a _ (h2.aY a m)),h2.aY a m⟩⟩
 .exact .iH jh (by
   cases q:w1 p with
   | none=>rfl
   | some o=>exact absurd rfl (nw p o q)) (af.go g.wl st r nM)
theorem XT{k l:Str}{j1 j2:Nat}(XU:k≠l)(ha:QQ X a qa)(hb:QQ X b qb):QD X (.Dict [some (.Constant (.str k) j1 p1),some (.Constant (.str l) j2 p2)] [a,b] pos) (yL k l qa qb):=⟨have ha:=ha.o;have hb:=hb.o;PE.imp (T9 (Ih AS ha (Ih AS hb T7)) rfl rfl (by simp) (by show 2<=15;decide)) λσ H Q aj=>by
 obtain⟨ρ,w,t,r',q,am,gd,ee,kk⟩:=aj;unfold yL at ee;split at ee;next i j hi hj=>
  cases ee;intro p0 hp;have ne:∀ a x,H a=some x->upd H p0 (.dK []) a=some x:=λa x e=>by rw[bV (ju e hp)];exact e
  obtain⟨g1,aV⟩:=gd.more ⟨ne,λt=>t.upd rfl (.inl hp)⟩;refine⟨ρ,w,t,i,g1,hi,ρ,w,t,j,g1,hj,jh,[(.inr k,.int i),(.inr l,.int j)],rfl,by show 2<=15;decide,?_⟩;have e:uw [] [((.inr k:Key),V.int i),(.inr l,.int j)]=nS [k,l] [.int i,.int j]:=by have ED:¬ ((Sum.inr k:Key)=.inr l):=λz=>XU (Vh z);simp[uw,qP,nS,ED]
  rw[e,P7];obtain⟨a1,a2,a3⟩:=XS (ks:=[k,l]) (ds:=[.int i,.int j]) (vs:=[.int i,.int j]) gd hp (.cons (F:=[]) (G:=[]) (.int i) (.cons (F:=[]) (G:=[]) (.int j) .nil nM) nM);exact kk _ _ _ _ a1 a2 a3
 .cases ee⟩
def kP:List Str->List D->Str->Option D
 | x::ks,d::ds,k=>if x=k then some d else kP ks ds k
 | _,_,_=>none
@[simp] def EE (fo fe ff:aN):aN:=λρ=>match fo ρ with
 | some (.iH ks ds,_,ac)=>match fe ac with
  | some (.str k,_,ap)=>match ff ap with
   | some (z,_,gT)=>some ((kP ks ds k).getD z,dP ((kP ks ds k).getD z),gT)
   | none=>none
  | _=>none
 | _=>none
theorem KD(k:Str):∀ {ks:List Str} {ds:List D} {vs:List V},af K H w o 0 ds vs []->
  (∀ d,kP ks ds k=some d->∃ v,l9 (nS ks vs) (.inr k)=some v/\Rep K H w o 0 d v [])/\(kP ks ds k=none->l9 (nS ks vs) (.inr k)=none)
 | [],ds,vs,r=>by refine⟨λd h=>?_,λ_=>rfl⟩;unfold kP at h;cases h
 | x::ks,ds,vs,r=>by
  generalize hF:([]:List Addr)=F at r;cases r with
  | nil=>exact⟨(λd h=>by unfold kP at h;cases h),λ_=>rfl⟩
  | @cons _ d' v' m8 m9 F' G' r s _=>
   have h1:F'=[]:=r.zero;have h2:G'=[]:=s.zero;subst h1 h2;have ih:=KD k (ks:=ks) s;by_cases hx:x=k
   .subst hx;refine⟨λd h=>?_,λh=>?_⟩
    .unfold kP at h;rw[Qh rfl]at h;cases h;exact⟨v',Dx rfl,r⟩
    .unfold kP at h;rw[Qh rfl]at h;cases h
   .have hk:¬ ((Sum.inr x:Key)=.inr k):=λz=>hx (Vh z);have e:l9 (nS (x::ks) (v'::m9)) (.inr k)=l9 (nS ks m9) (.inr k):=Dy hk;rw[e];unfold kP;rw[Ql hx];exact ih
theorem XW{k:Nat}(hr:bC k X.A)(ho:QD X a fa)(he:QD X b fb)(hf:QD X c fc)(c_:attributeBase a "get" X.env (eval a X.env)=eval a X.env:=by rfl)(fA:((backTo aH (starEach [b,c] X.env)).all (λx=>!x.1)&&(backToKw aH (keywordEach [] X.env)).all (λx=>x.1.isSome)
   && decide (([b,c]:List Expr).length+([]:List Keyword).length+(if([]:List Keyword).isEmpty then 0 else 1)<30))=true:=by rfl) (da:(apos.endLine==aH.line)=true:=by rfl) (XX:backTo aH (starEach [b,c] X.env)=[(false,eval b X.env),(false,eval c X.env)]:=by rfl):QD X (.Call (.Attribute a "get" apos) [b,c] [] aH) (EE fa fb fc):=⟨have ho:=ho.o;have he:=he.o;have hf:=hf.o;PE.imp (Um (TX hr) ho he hf ⟨c_,fA,da,XX⟩) λσ H Q aj=>by
 obtain⟨ρ,w,t,r',q,am,gd,ee,kk⟩:=aj;unfold EE at ee;split at ee;next ks ds q1 ac h1=>
  split at ee;next k0 q2 ap h2=>
   split at ee;next z q3 gT h3=>
    cases ee;refine⟨ρ,w,t,_,_,_,gd,h1,λx H1 w1 F1 g1 aV r1=>?_⟩;obtain⟨a0,Ui,rfl,rfl,XY,_⟩:=r1.inv
    .refine⟨a0,rfl,.inl ⟨_,.inl XY⟩,ac,w1,t+1,_,_,_,g1,h2,λy H2 w2 F2 g2 bZ r2=>⟨ap,w2,t+2,_,_,_,g2,h3,λzv H3 w3 F3 g3 j_ r3=>?_⟩⟩;have hy:y=kV (.inr k0):=r2.inv.1;subst hy;have XZ:=(r1.gone g1.wl (bZ.trans j_)).drop (o:=.t t) (Qj t);have rz:=r3.drop (o:=.t t) (t':=t) (by omega);have go:=(aV.trans bZ).trans j_;obtain⟨_,vs,e,_,hH,rs⟩:=XZ.inv;cases e
     .obtain⟨v1,v2⟩:=KD (ks:=ks) k0 rs;refine⟨_,yb.k hH,?_⟩;cases hg:kP ks ds k0 with
      | none=>
       rw[v2 hg];rw[hg]at kk;exact qU kk gd g3 go rz.m7
      | some d=>
       obtain⟨v,ev,rv⟩:=v1 d hg;rw[ev];rw[hg]at kk;exact qU kk gd g3 go rv.m7
   .cases ee
  .cases ee
 .cases ee⟩
theorem X0{rest:List Expr}{env:Env}{ks:List (Option Expr)}{vs:List Expr}:starEach (.Dict ks vs pos::rest) env=(false,eval (.Dict ks vs pos) env)::starEach rest env:=by simp only[starEach]
end
end L3
namespace L3
open PySem PySem.Spec PyProof.Rows PySem.W L2
variable {A:Around}{C:Addr}{E:Tl}{H:Hp}{K:PySem.W.Frag}{M:Model}{P:Program}{h h':Heap}{i:Nat}{pos:Pos}{w:World}{x:Str}{ρ:a_}{σ:St}
theorem EF{a:Addr}{o:HO}(x:d7 P w H h a o):∃ ob,h.get? a=some ob:=by
 cases o with
 | lst xs=>obtain⟨_,_,_,_,e⟩:=x;exact⟨_,e⟩
 | tup xs=>obtain⟨_,_,_,o,e,_⟩:=x;exact⟨_,e⟩
 | dK aL=>obtain⟨_,_,_,_,o,_,_,e,_⟩:=x;exact⟨_,e⟩
 | dT aL=>obtain⟨_,_,_,_,o,_,_,e,_⟩:=x;exact⟨_,e⟩
 | set S n=>obtain⟨o,_,_,_,e,_⟩:=x;exact⟨_,e⟩
 | ins C dx fs=>obtain⟨_,_,_,e,_⟩:=x;exact⟨_,e⟩
 | own y=>obtain⟨_,e⟩:=x;exact⟨_,e⟩
 | xd fs=>obtain⟨_,⟨_,_,_,e,_⟩,_⟩:=x;exact⟨_,e⟩
 | nO lo hi=>obtain⟨_,_,_,e⟩:=x;exact⟨_,e⟩
 | gQ ob u=>obtain⟨e,_⟩:=x;exact⟨_,e⟩
 | kF ps=>exact⟨_,(show h.get? a=some _ from x)⟩
 | met f y=>exact⟨_,(show h.get? a=some _ from x)⟩
 | ext φ=>obtain⟨_,⟨_,e⟩,_⟩:=x;exact⟨_,e⟩
theorem EG(x:d8 P w H h)(k:∀ b u o,H b=some u->h.get? b=some o->h'.get? b=some o):d8 P w H h':=λb u e=>
 (x b u e).h_ (λc o hc q=>by
  rcases hc with z|z
  .rw[z]at q ⊢;exact k b u o e q
  .exact k c _ o z q) (λ_ q=>q) λ_ _ q=>q
structure rC (P:Program) (w:World) (outer:List Env) (H:Hp) (s:Shared) (a C t:Addr) (B:Heap) (H':Hp) (s':Shared):Prop where
 os:s'.os=s.os
 bare:AllBare s'.gens
 un:Un (dW outer) [] H H' s.heap s'.heap
 aP:d8 P w H' s'.heap
 fl:Heap.FlyingW B outer a (.ref C) (.ref t) s'.heap
 old:∀ b o,s.heap.get? b=some o->H b=none->b ∉ dW outer->B.get? b=some o
 rD:∀ b o,s.heap.get? b=some o->b ∉ dW outer->∃ o',B.get? b=some o'
 ot:∀ b u o,H' b=some u->s'.heap.get? b=some o->B.get? b=some o
 free:H' a=none
def EH (P:Program)(w:World):oH:=λouter H s E e s'=>∃ (a C t:Addr) (B:Heap) (H':Hp),e=.ref a/\rC P w outer H s a C t B H' s'/\E (.ref C) none H'
section
variable {P:Program}{w:World}{K:PySem.W.Frag}{mg:Str->Option Value}{base:Heap}{N:List Str}{qual:Str}{scope:Scope}{f:Addr}{cd:Value}{A:Around}{outer:List Env}{aD:Shared}{cb:Hp}{E:XK}{Tk:List (Addr×Obj)}{σ:St}{H:Hp}{s:Shared}
abbrev lA (P:Program)(w:World)(K:PySem.W.Frag)(mg:Str->Option Value)(base:Heap)(N:List Str)(qual:Str)(scope:Scope)(f:Addr)(cd:Value)(A:Around)(outer:List Env)(aD:Shared)(cb:Hp)(E:XK):Cx:=nP (EH P w) P w K mg base N qual scope f cd A outer aD cb E
theorem KG(I:Inv (lA P w K mg base N qual scope f cd A outer aD cb E) Tk σ H s){b:Addr}(hb:b∈dW outer){o:Obj}(e:s.heap.get? b=some o):∀ vs,o.data ≠ .fields vs:=by obtain⟨_,o',ho,hd⟩:=I.gD.mem hb;rw[e]at ho;cases ho;exact hd
theorem X1{e:Addr}{vs:List Value}(I:Inv (lA P w K mg base N qual scope f cd A outer aD cb E) Tk σ H s)(hm:Heap.MadeExcOf s.heap h' e (.ref C) vs)(hE:E (.ref C) none H) :
  (lA P w K mg base N qual scope f cd A outer aD cb E).xe (.ref e) { s with heap:=h' }:=by
 have nL:∀ b o,aD.heap.get? b=some o->b≠aD.heap.objs.size:=λb o q=>QS (Qq q);have uY:∀ b o,s.heap.get? b=some o->b≠aD.heap.objs.size->b ∉ dW outer->(hideAll s.heap (dW (envOfC qual scope aD.heap.objs.size f cd::outer))).get? b=some o:=λb o q n1 n2=>hideAll_get _ q λhm=>by
  rcases Qm.mp (show b∈aD.heap.objs.size::dW outer from hm)with z|z
  .exact n1 z
  .exact n2 z
 have s_:∀ env∈(envOfC qual scope aD.heap.objs.size f cd::outer),∀ b,env.frame=some b->b∈dW (envOfC qual scope aD.heap.objs.size f cd::outer):=λenv he b hb=>J9.mpr ⟨env,he,hb⟩;have yM:∀ b u,H b=some u->b≠aD.heap.objs.size/\b ∉ dW outer:=λb u q=>by
  refine⟨λz=>?_,λz=>?_⟩
  .have:=I.free;rw[z]at q;have yN:H aD.heap.objs.size=none:=this;rw[yN]at q;cases q
  .have:=I.fS b (Qf _ z);rw[this]at q;cases q
 have cw:Un (dW outer) [] cb H aD.heap s.heap:=I.base;show wpAny _ _ (leaving (envOfC qual scope aD.heap.objs.size f cd) (.ref e)) _ _ _;refine wpAny_leaves_madeW (s:={ s with heap:=h' }) (L:=aD.heap.objs.size) (outer:=outer) I.ok.frames rfl (λb o q=>of_hideAll _ q) (funFrames_hide I.stack s_) hm λh2 t fl _ _ up=>?_;have old:∀ b o,aD.heap.get? b=some o->cb b=none->b ∉ dW outer->(hideAll s.heap (dW (envOfC qual scope aD.heap.objs.size f cd::outer))).get? b=some o:=λb o q n hb=>uY b o (cw.keep b o q n hb (by simp)) (nL b o q) hb;have slot:∀ b o,s.heap.get? b=some o->b∈dW outer->∃ sl,h2.get? b=some { o with slots:=sl }:=λb o q hb=>up b o (hm.keeps b o q) (KG I hb q);have ot:∀ b u o,H b=some u->s.heap.get? b=some o->(hideAll s.heap (dW (envOfC qual scope aD.heap.objs.size f cd::outer))).get? b=some o:=λb u o q e=>uY b o e (yM b u q).1 (yM b u q).2;refine⟨e,C,t,_,H,rfl,⟨I.os,I.bare,⟨λb o q n hb _=>fl.1 b o (old b o q n hb),λb o q n hb _=>?_,λb o q n _=>cw.free b o q n (by simp),λb o q _=>?_,cw.fx,cw.eT,cw.fy⟩,EG I.aP λb u o q e=>fl.1 b o (ot b u o q e),fl,old,λb o q hb=>?_,λb u o q e=>?_,?_⟩,hE⟩
 .obtain⟨sl,q1⟩:=cw.slot b o q n hb (by simp);obtain⟨pS,q2⟩:=slot b _ q1 hb;exact⟨pS,q2⟩
 .obtain⟨o',q1⟩:=cw.there b o q (by simp);by_cases hb:b∈dW outer
  .obtain⟨sl,q2⟩:=slot b o' q1 hb;exact⟨_,q2⟩
  .exact⟨o',fl.1 b o' (uY b o' q1 (nL b o q) hb)⟩
 .obtain⟨o',q1⟩:=cw.there b o q (by simp);exact⟨o',uY b o' q1 (nL b o q) hb⟩
 .obtain⟨o1,q1⟩:=EF (I.aP b u q);have q2:=ot b u o1 q q1;have q3:=fl.1 b o1 q2;have e':h2.get? b=some o:=e;rw[q3]at e';cases e';exact q2
 .cases q:H e with
  | none=>rfl
  | some u=>
   obtain⟨o1,q1⟩:=EF (I.aP e u q);rw[hm.new]at q1;cases q1
theorem X2{E':XK}(hE:∀ C H',E' (.ref C) none H'->E (.ref C) none H')(I:Inv (lA P w K mg base N qual scope f cd A outer aD cb E) Tk σ H s){e:Value}{s':Shared}(h:EH P w (envOfC qual scope aD.heap.objs.size f cd::outer) H s E' e s') :
  (lA P w K mg base N qual scope f cd A outer aD cb E).xe e s':=by
 obtain⟨a,C,t,B,H',rfl,F,X3⟩:=h;have nL:∀ b o,aD.heap.get? b=some o->b≠aD.heap.objs.size:=λb o q=>QS (Qq q);have cw:Un (dW outer) [] cb H aD.heap s.heap:=I.base;have EI:∀ b o,aD.heap.get? b=some o->b ∉ dW outer->b ∉ dW (envOfC qual scope aD.heap.objs.size f cd::outer):=λb o q n hm=>by
  rcases Qm.mp (show b∈aD.heap.objs.size::dW outer from hm)with z|z
  .exact nL b o q z
  .exact n z
 show wpAny _ _ (leaving (envOfC qual scope aD.heap.objs.size f cd) (.ref a)) _ _ _;refine wpAny_leaves_onW (L:=aD.heap.objs.size) (outer:=outer) I.ok.frames rfl F.fl λh2 fl up=>?_;have old:∀ b o,aD.heap.get? b=some o->cb b=none->b ∉ dW outer->B.get? b=some o:=λb o q n hb=>F.old b o (cw.keep b o q n hb (by simp)) (cw.free b o q n (by simp)) (EI b o q hb);have slot:∀ b o,s.heap.get? b=some o->H b=none->b∈dW outer->∃ sl,h2.get? b=some { o with slots:=sl }:=λb o q n hb=>by obtain⟨sl,q1⟩:=F.un.slot b o q n (Qf _ hb) (by simp);obtain⟨pS,q2⟩:=up b _ q1 (λvs z=>KG I hb q vs z);exact⟨pS,q2⟩
 have fH:∀ b∈dW outer,H b=none:=λb hb=>I.fS b (Qf _ hb);refine⟨a,C,t,B,H',rfl,⟨F.os.trans I.os,F.bare,⟨λb o q n hb _=>fl.1 b o (old b o q n hb),λb o q n hb _=>?_,λb o q n _=>?_,λb o q _=>?_,λb xs q=>F.un.fx b xs (cw.fx b xs q),λb o u q=>F.un.eT b o u (cw.eT b o u q),λb ps q=>?_⟩,EG F.aP λb u o q e=>fl.1 b o (F.ot b u o q e),fl,old,λb o q hb=>?_,λb u o q e=>?_,F.free⟩,hE C H' X3⟩
 .obtain⟨sl,q1⟩:=cw.slot b o q n hb (by simp);obtain⟨pS,q2⟩:=slot b _ q1 (fH b hb) hb;exact⟨pS,q2⟩
 .obtain⟨o',q1⟩:=cw.there b o q (by simp);exact F.un.free b o' q1 (cw.free b o q n (by simp)) (by simp)
 .obtain⟨o',q1⟩:=cw.there b o q (by simp);by_cases hb:b∈dW outer
  .obtain⟨sl,q2⟩:=slot b o' q1 (fH b hb) hb;exact⟨_,q2⟩
  .obtain⟨o2,q2⟩:=F.rD b o' q1 (EI b o q hb);exact⟨o2,fl.1 b o2 q2⟩
 .obtain⟨m1,e1⟩:=cw.fy b ps q;obtain⟨m2,e2⟩:=F.un.fy b _ e1;exact⟨m1++m2,by rw[e2,Array.append_assoc]⟩
 .obtain⟨o',q1⟩:=cw.there b o q (by simp);exact F.rD b o' q1 (EI b o q hb)
 .obtain⟨o1,q1⟩:=EF (F.aP b u q);have q2:=F.ot b u o1 q q1;have q3:=fl.1 b o1 q2;have e':h2.get? b=some o:=e;rw[q3]at e';cases e';exact q2
end
structure EJ (K:Frag) (mg:Str->Option Value) (nm:Str) (C:Addr):Prop extends j7 K nm C where
 mg:mg nm=some (.ref C)
theorem X4{K:Frag}{KH:List Value}{newId:String}(X:K.In h)(q:excIn K C KH newId=true) :
  ∃ bm N nm q bs hdct sn sub ab col dd k0 k1 k2 k3 k5 mN,h.get? C=some (excClassObj nm q C N bs bm hdct sn sub ab col dd k0 k1 k2 k3 k5 newId)/\h.Ns N mN/\mN "__init__" = none/\OwnTail h KH bm:=by
 unfold excIn at q;split at q;next dd cd sl ho=>
  split at q;next C' bm k0 k1 k2 k3 n k5 hm hs=>
   simp only[Zo,ZV,JL]at q;obtain⟨⟨⟨⟨⟨rfl,rfl⟩,yO⟩,ht⟩,aP⟩,B2⟩:=q;obtain⟨nm,bs,mro,ns,qn,hd,sn,sub,ab,col,del⟩:=cd;dsimp only at hm yO aP B2;subst hm yO;have X5:sl = #[k0,k1,k2,k3,some (.builtin n),k5]:=by obtain⟨l⟩:=sl;simp only at hs;rw[hs]
   subst X5;exact⟨bm,ns,nm,qn,bs,hd,sn,sub,ab,col,dd,k0,k1,k2,k3,k5,_,X _ _ ho,.of_isNs (isNs_of_in X aP),nsMap_none_of_in X aP B2,tail_of_in X ht⟩
  .cases q
 .cases q
section
variable {P:Program}{w:World}{K:PySem.W.Frag}{mg:Str->Option Value}{base:Heap}{N:List Str}{qual:Str}{scope:Scope}{f:Addr}{cd:Value}{A:Around}{outer:List Env}{aD:Shared}{cb:Hp}{E:XK}{Tk:List (Addr×Obj)}{σ:St}{H:Hp}{s:Shared}
theorem X6{nm txt:Str}{j:Nat}{np aH rE pos:Pos}(hA:A.handled=none)(hC:EJ K mg nm C)(hg:Gl (lA P w K mg base N qual scope f cd A outer aD cb E) nm)(ib:(nm==("__debug__":Str))=false:=by decide) :
  PS (lA P w K mg base N qual scope f cd A outer aD cb E) (.Raise (some (.Call (.Name nm np) [.Constant (.str txt) j rE] [] aH)) none pos) (λ_ _ H=>E (.ref C) none H):=by
 intro Tk s σ H D I h;obtain⟨tl,Nn,EK,q,bs,hdct,sn,sub,ab,col,dd,k0,k1,k2,k3,k5,mN,X7,hN,B2,T⟩:=X4 I.mod.xI hC.ex;refine wpAny_Raise_call_subT (C:=C) (nm:=EK) (q:=q) (N:=Nn) (bs:=bs) (bm:=tl) (hdct:=hdct) (sn:=sn) (sub:=sub) (ab:=ab) (col:=col) (dd:=dd) (k0:=k0) (k1:=k1) (k2:=k2) (k3:=k3) (k5:=k5)
  Y9 (mN:=mN) (T.hasType Y9.hasBase) hA rfl B2 (xP I hg hC.mg ⟨rfl,?_⟩ ib)
 refine YH (Ya (bE (AS (j:=j) (pos:=rE) Tk s σ H (λv H1=>v=.str txt/\H1=H) I ⟨rfl,rfl⟩) λu s1 aj=>?_));obtain⟨v,H1,I1,r1,e1,e2⟩:=aj;subst e1 e2;refine Vj ⟨rfl,by show 1<=sizeLine;decide,I1.bk _ _ X7,hN.keeps I1.bk,T.keeps I1.bk,λh' e hm=>X1 I1 hm h⟩
end
abbrev jj:=a_->Option Str
def tX (K:PySem.W.Frag)(x:jj)(E:XK):TS:=λ_ σ H=>∃ ρ w nm,Good K ρ σ H w 0/\x ρ=some nm/\∀ C H' w',nsIn K mainGlobals nm=some (some (.ref C))->WL K w' H'->Go H w H' w'->E (.ref C) none H'
def EL (K:PySem.W.Frag)(n:Nat)(F:List D->Option Str):Sp:=λvs H _ E=>vs.length=n/\∃ ds w nm,(∀ a o,w a=some o->o=.f)/\WL K w H/\af K H w .f 0 ds vs []/\F ds=some nm /\
 ∀ C H' w',nsIn K mainGlobals nm=some (some (.ref C))->WL K w' H'->Go H w H' w'->E (.ref C) none H'
def fnX (n:Nat)(x:jj):List D->Option Str:=λds=>x (nU n ds)
def nr (P:Program)(w:World)(K:PySem.W.Frag)(mg:Str->Option Value)(base:Heap)(k:Nat)(x:Str)(n:Nat)(F:List D->Option Str):Prop:=
 ∃ f fd ps,fz P w K mg base (EH P w) k f fd ps (EL K n F)/\mg x=some (.ref f)/\W.keepIn K (.ref f)=true/\qK K fd ps []
theorem nr.mk{mg:Str->Option Value}{base:Heap}{k:Nat}{st:Stmt}{N ps:List Str}{xb:jj}(a:At K mg x st ps)(S:ae N ps (bw st))
  (h:∀ (f:Addr) (cB:Value) (A:Around) (outer:List Env) (s:Shared) (H:Hp) (E:XK),bC k (A.deeper (envOfC x (bw st) s.heap.objs.size f cB))->i3 (lA P w K mg base N x (bw st) f cB A outer s H E) (kI st) (tX K xb E)) :
  nr P w K mg base (k+1) x ps.length (fnX N.length xb):=by obtain⟨f,fd,F,m,b⟩:=a;refine⟨f,fd,ps,?_,m,F.kp,b⟩;obtain⟨oc,od,kV,doc,pm,an,cB,ct,pV,rfl,lk,i4⟩:=F.ex;refine HL lk i4 S (λvs H Q E h=>h.1) λA outer s H vs Q E hr k8=>⟨_,h f cB A outer s H E hr,?_⟩;obtain⟨hn,ds,w,nm,hw,wl,rs,e,k⟩:=k8;exact⟨_,w,nm,D5 hw wl rs,e,k⟩
def EM (F:List D->Option Str)(n:Nat)(g:cf):jj:=λρ=>match g ρ with
 | some (ds,_)=>if ds.length=n then F ds else none
 | none=>none
theorem X8{K:Frag}{s:Shared}{x R:Addr}{ox:Obj}{Q:Bool->Shared->Prop}(X:K.In s.heap)(I:kK s.heap x ox C)(hR:gH K R)(qN:typeIn K (.ref R)=some (.type "type"))
  (dO:subIn K (.ref C) (.ref R)=some true) (h:Q true s):wpAny M A (excMatches (.ref x) (.ref R)) Q E s:=by
 obtain⟨h0,g,d,tt,os⟩:=s;have L0:=I.type (M:=M);have L1:=looks_typeIn (M:=M) X qN;have L2:=DP (M:=M) X hR.ci;have L3:=looks_mroIn (M:=M) X hR.mb;have L4:=V3 (M:=M) X dO;have f:=tc_notTuple;have L5:Looks M h0 (isSubtype (.type "type") (.type "tuple")) false:=YE f;unfold excMatches isInstance isExcClass
 repeat (first|lk|wp_step)
 exact h
section
variable {X:Cx}{Tk:List (Addr×Obj)}{σ:St}{H H':Hp}{s s':Shared}{a C t:Addr}{B:Heap}
theorem X9{Q:Unit->Shared->Prop}(I:Inv X Tk σ H s)(hN:X.N.Nodup)(hi:X.N[i]? = some x)(hx:X.env.scope.names.lookup x=some .local)
  (h:∀ s',Inv X Tk (σ.set i none) H s'->Q () s'):wpAny M A (do bindName X.env x .none;unbindBehindTheSuite X.env x pos) Q E s:=by
 obtain⟨m,hn,hl⟩:=id I.loc;have uc:(X.env.scope.kind == .class||(X.env.scope.kind == .module&&X.env.locals != X.env.globals))=false:=by rw[I.ok.kind];rfl
 have mW:i<σ.length:=by rw[I.len];exact(Qy.mp hi).1
 have oy:=I.oy;refine wpAny_nameGoes_keeps hx hn uc λh' v qF hs=>?_;obtain⟨oL,_,_,Hj,_⟩:=id hn;have tracked:d8 X.prog X.w H h':=λb ob e=>by
  refine(I.aP b ob e).h_ (λc w' hc q=>(hs.2 c ?_).trans q) (λ_ q=>q) λ_ _ q=>q;rintro rfl;rcases hc with rfl|hc
  .rw[I.free]at e;cases e
  .rw[I.free]at hc;cases hc
 refine h _ ⟨I.ok,I.os,I.bare,⟨λb o e n hb hx=>?_,λb o e n hb hx=>?_,I.base.free,λb o e hx=>?_,I.base.fx,I.base.eT,I.base.fy⟩,⟨_,qF,λj y v' e1 e2 e3=>?_⟩,λy c e=>?_,I.free,I.dC,λp hp=>?_,tracked,by simpa using I.len⟩
 .exact(hs.2 b (QS (Qx (Qq e) I.ok.above))).trans (I.base.keep b o e n hb hx)
 .obtain⟨sl,e1⟩:=I.base.slot b o e n hb hx;exact⟨sl,(hs.2 b (QS (Qx (Qq e) I.ok.above))).trans e1⟩
 .obtain⟨o',e1⟩:=I.base.there b o e hx;exact⟨o',(hs.2 b (QS (Qx (Qq e) I.ok.above))).trans e1⟩
 .by_cases hj:j=i
  .subst hj;rw[QN mW]at e2;cases e2
  .rw[QP (Zn hj)]at e2;obtain⟨u',r',q⟩:=hl j y v' e1 e2 e3;refine⟨u',r',?_⟩;rcases q with⟨k,e⟩|⟨k,c,e,z⟩
   .refine .inl ⟨k,?_⟩;have:y≠x:=λe=>hj (CU hN e1 (e ▸ hi));simp[this,e]
   .exact .inr ⟨k,c,e,z.sameBut hs (oy y c e)⟩
 .obtain⟨w',z⟩:=I.cell y c e;exact⟨w',z.sameBut hs (oy y c e)⟩
 .obtain⟨e,n,ne,nf,d⟩:=I.pin p hp;exact⟨(hs.2 p.1 ne).trans e,n,ne,nf,d⟩
def wJ (a:Addr)(oe:Obj):HO:=.gQ oe (.ext λh=>h.get? a=some oe)
theorem rC.EN(I:Inv X Tk σ H s)(F:rC X.prog X.w X.stack H s a C t B H' s')(fl:Heap.FlyingW B X.stack a (.ref C) (.ref t) h')(up:s'.heap.UpToSlots h'):Un (dW X.stack) [] H H' s.heap h'/\d8 X.prog X.w H' h':=by
 have slot:∀ b o,s.heap.get? b=some o->H b=none->b∈dW X.stack->∃ sl,h'.get? b=some { o with slots:=sl }:=λb o q n hb=>by obtain⟨sl,q1⟩:=F.un.slot b o q n hb (by simp);obtain⟨_,o',ho,hd⟩:=I.stack.mem hb;rw[q]at ho;cases ho;obtain⟨pS,q2⟩:=up b _ q1 hd;exact⟨pS,q2⟩
 refine⟨⟨λb o q n hb _=>fl.1 b o (F.old b o q n hb),λb o q n hb _=>slot b o q n hb,F.un.free,λb o q _=>?_,F.un.fx,F.un.eT,F.un.fy⟩,EG F.aP λb u o q e=>fl.1 b o (F.ot b u o q e)⟩;by_cases hb:b∈dW X.stack
 .obtain⟨sl,q2⟩:=slot b o q (I.fS b hb) hb;exact⟨_,q2⟩
 .obtain⟨o2,q2⟩:=F.rD b o q hb;exact⟨o2,fl.1 b o2 q2⟩
theorem rC.inv(I:Inv X Tk σ H s)(F:rC X.prog X.w X.stack H s a C t B H' s')(fl:Heap.FlyingW B X.stack a (.ref C) (.ref t) h')(up:s'.heap.UpToSlots h'):Inv X Tk σ H' { s' with heap:=h' }:=
 I.oA (s':={ s' with heap:=h' }) F.os (F.EN I fl up).1 (F.EN I fl up).2 F.bare (λb hb=>nomatch hb)
theorem rC.inv2(I:Inv X Tk σ H s)(F:rC X.prog X.w X.stack H s a C t B H' s')(fl:Heap.FlyingW B X.stack a (.ref C) (.ref t) h')(up:s'.heap.UpToSlots h'){oe:Obj}{vs:Array Value}(ho:h'.get? a=some oe)(hd:oe.data=.fields vs) :
  Inv X Tk σ (upd H' a (wJ a oe)) { s' with heap:=h' }:=by
 obtain⟨u,hk⟩:=F.EN I fl up;have na:∀ b x,H' b=some x->upd H' a (wJ a oe) b=some x:=λb x q=>by unfold upd;rw[Ql (λz=>by rw[z,F.free]at q;cases q)];exact q
 have X_:a ∉ dW X.stack:=λhb=>by obtain⟨_,o',fm,gF⟩:=fl.2.2.1.mem hb;rw[ho]at fm;cases fm;exact gF vs hd
 refine I.oA (s':={ s' with heap:=h' }) F.os ⟨u.keep,u.slot,λb o q n e=>?_,u.there,λb xs q=>na b _ (u.fx b xs q),λb o' u' q=>na b _ (u.eT b o' u' q),λb ps q=>?_⟩ (λb x q=>?_) F.bare (λb hb=>nomatch hb)
 .unfold upd;rw[Ql (λz=>?_)]
  .exact u.free b o q n e
  .subst z;obtain⟨o2,q2⟩:=F.rD b o q X_;rw[fl.2.1]at q2;cases q2
 .obtain⟨m,q1⟩:=u.fy b ps q;exact⟨m,na b _ q1⟩
 .by_cases hb:b=a
  .subst hb;unfold upd at q;rw[Qh rfl]at q;cases q;exact⟨ho,ho,⟨_,ho⟩,λh1 h2 q1 q2=>q2 _ q1⟩
  .have q':=q;unfold upd at q;rw[Ql hb]at q;exact(hk b x q).h_ (λ_ _ _ z=>z) (λc z=>na c _ z) (λc xs z=>na c _ z)
abbrev Cx.mark (X:Cx)(e:Value):Cx:={ X with A:=X.A.mark (some e),calm:=false,xe:=λ_ _=>False }
theorem Inv.mark(I:Inv X Tk σ H s)(e:Value):Inv (Cx.mark X e) Tk σ H s:=
 ⟨⟨I.ok.mod,I.ok.kind,I.ok.glob,I.ok.blt,I.ok.above,I.ok.inj,I.ok.has,I.ok.vW,(λz=>by cases z),I.ok.frames,I.ok.xJ,I.ok.AO,I.ok.bs,I.ok.ou,I.ok.mU,I.ok.mV,I.ok.gD,I.ok.ua⟩,I.os,I.bare,I.base,I.loc,I.cell,I.free,I.dC,I.pin,I.aP,I.len⟩
theorem Inv.unmark{e:Value}(hX:X.Ok)(I:Inv (Cx.mark X e) Tk σ H s):Inv X Tk σ H s:=⟨hX,I.os,I.bare,I.base,I.loc,I.cell,I.free,I.dC,I.pin,I.aP,I.len⟩
theorem Y_{R n kx:Str}{RA:Addr}{np kp vp apos:Pos}{ie ik:Nat}{Q:Flow->Shared->Prop}(I:Inv X Tk σ H s)(F:rC X.prog X.w X.stack H s a C t B H' s')(gu:X.stack=X.env::X.outer)(EO:X.env.frame=some X.env.locals)
  (hN:X.N.Nodup) (uZ:X.N[ie]? = some n) (wC:X.N[ik]? = some kx) (eJ:X.env.scope.names.lookup n=some .local) (B3:X.env.scope.names.lookup kx=some .local) (hR:gH X.K RA) (ER:typeIn X.K (.ref RA)=some (.type "type")) (dO:subIn X.K (.ref C) (.ref RA)=some true) (hmg:X.mg R=some (.ref RA)) (hg:Gl X R)
  (ib:(R==("__debug__":Str))=false) (ES:(n==("__debug__":Str))=false) (ET:(n==("__classdict__":Str))=false) (uD:swapsWith (.Name n vp) (some (.Name kx kp)) apos.line X.env=pure false)
  (hQ:∀ s5 oe,oe.cls=.ref C->Inv X Tk (((σ.set ie (some (.ref a))).set ik (some (.ref a))).set ie none) (upd H' a (wJ a oe)) s5->Q .next s5) :
  wpAny (model X.prog X.w) X.A (noteFrame (.ref a) X.env) (λ_ mY=>wpAny (model X.prog X.w) X.A (setFlight (.ref a) none) (λ_ k_=>
   wpAny (model X.prog X.w) X.A (handleBy (.ref a) X.env [.ExceptHandler (some (.Name R np)) (some n) [.Assign [.Name kx kp] (.Name n vp) apos] pos]) Q E k_) E mY) E s':=by
 have mW:ie<σ.length:=by rw[I.len];exact(Qy.mp uZ).1
 have KI:=F.fl;have u0:=gu;rw[gu]at KI;refine wpAny_looks_onW (L:=X.env.locals) (outer:=X.outer) (by rw[<- gu];exact I.ok.frames) EO KI λyg o4 tj=>?_;refine wpAny_landsW o4 λyh tm tq=>?_;have lC:=tm;rw[<- gu]at lC;have I5:=F.inv I lC (tj.trans tq);obtain⟨ob,u3,EU⟩:=lC.there;have J5:=Inv.mark I5 (.ref a);refine wpAny_handleBy_cons (codeAny_handlers_test (xP (X:=Cx.mark X (.ref a)) J5 hg hmg ?_ ib)) (by intro q;cases q);refine X8 J5.gE ⟨u3,EU⟩ hR ER dO ?_;refine codeAny_handlers_suite_as ?_;refine lands_againW tm λZ_ yP yQ=>?_;have lD:=yP;rw[<- gu]at lD;obtain⟨oe,ws,hoe,EV,EW,hoe0⟩:=lD.first;have I6:=F.inv2 I lD ((tj.trans tq).trans yQ) hoe EW;refine xO (v:=.ref a) I6 hN uZ (.inl eJ) rfl (λs7 I7=>?_) (.inr eJ);have J7:=Inv.mark I7 (.ref a);have body:=Hn (Hs (X:=Cx.mark X (.ref a)) (i:=ik) (x:=kx) (pos:=apos) (pos':=kp) hN wC (.inl B3) (pv (X:=Cx.mark X (.ref a)) ie (x:=n) (pos:=vp) uZ (.inl eJ) ES ET) uD (.inr B3));refine ZN (body Tk s7 _ _ { nx:=λaX H1=>aX=(σ.set ie (some (.ref a))).set ik (some (.ref a))/\H1=upd H' a (wJ a oe),rt:=λ_ _=>False } J7 ⟨.ref a,QN mW,rfl,rfl⟩) (λfl s8 q=>?_) (λ_ _ z=>False.elim z);cases fl with
 | next=>
  obtain⟨be,H8,J8,rfl,rfl⟩:=q;exact X9 (Inv.unmark I.ok J8) hN uZ eJ λs9 I9=>hQ s9 oe EV I9
 | brk=>obtain⟨_,_,_,z⟩:=q;exact z.elim
 | cont=>obtain⟨_,_,_,z⟩:=q;exact z.elim
 | ret u=>obtain⟨_,_,_,_,_,z⟩:=q;exact z.elim
end
theorem Good.unset{w:Wn}{t:Nat}{v:Option V}(g:Good K ρ σ H w t)(hi:i<σ.length) :
  Good K (ρ.set i none) (σ.set i v) H (jx i w) t/\Go H w H (jx i w):=by
 have st:eU H w H (jx i w):=λa x h n=>⟨sm h,ym n⟩;refine⟨⟨⟨λa o h=>g.wl a o (qV h).1,g.wl.tb⟩,λa j h=>by rw[QL];exact g.ws a j (qV h).1,λa j h=>g.wt a j (qV h).1,by rw[QL,QL];exact g.len,λj d' q' e'=>?_⟩,⟨st,λa o h n=>⟨rfl,wu h (n i)⟩⟩⟩;by_cases hj:i=j
 .subst hj;rw[QN (by rw[g.len];exact hi)]at e';cases e'
 .rw[QP hj]at e';obtain⟨v',F,h1,h2⟩:=g.slot j d' q' e';exact⟨v',F,by rw[QP hj];exact h1,Rep.go g.wl st h2 λa m=>⟨rfl,wu (h2.aY a m) (λz=>hj (by cases z;rfl))⟩⟩
theorem Good.grow{H':Hp}{w:Wn}{t:Nat}(g:Good K ρ σ H w t)(h:∀ b o,H b=some o->Sm o (H' b))(tb:TB K H'):Good K ρ σ H' w t/\Go H w H' w:=by
 have st:eU H w H' w:=λa x e n=>⟨h a x e,n⟩;have kp:∀ a o,w a=some o->H' a=H a:=λa o e=>by obtain⟨vs,q⟩:=g.wl a o e;rw[q,(h a _ q).eq (by cases vs<;>rfl)]
 refine⟨⟨⟨λa o e=>?_,tb⟩,g.ws,g.wt,g.len,λi d q e=>?_⟩,st,λa o e _=>⟨kp a o e,e⟩⟩
 .obtain⟨vs,q⟩:=g.wl a o e;exact⟨vs,(h a _ q).eq (by cases vs<;>rfl)⟩
 .obtain⟨v,F,h1,h2⟩:=g.slot i d q e;exact⟨v,F,h1,Rep.go g.wl st h2 λa m=>⟨kp a _ (h2.aY a m),h2.aY a m⟩⟩
def rF (K:Frag)(mg:Str->Option Value)(R:Str)(L:List Str):Prop:=∃ RA,gH K RA/\typeIn K (.ref RA)=some (.type "type")/\mg R=some (.ref RA) /\
 ∀ nm∈L,∀ C,nsIn K mainGlobals nm=some (some (.ref C))->j7 K nm C/\subIn K (.ref C) (.ref RA)=some true
end L3
namespace L3
open PySem PySem.Spec PyProof.Rows PySem.W L2 PySem.SeqAt
variable {K:PySem.W.Frag}{L:List Str}
def gK (K:Frag)(mg:Str->Option Value)(L:List Str)(nm:Str):Prop:=∃ C,mg nm=some (.ref C)/\∀ n∈L,∀ B,nsIn K mainGlobals n=some (some (.ref B))->(n=nm->isIn K (.ref B) C=true)/\(n≠nm->kin_not K B C=true)
section
variable {X:Cx}{a b c e:Expr}{es:List Expr}{fa fb fc f:aN}{ga gb:cS}{g:cf}{pos p p1 p2 pT aH apos:Pos}
theorem j0t{C:Addr}{nm:Str}(h:∀ n∈L,∀ B,nsIn X.K mainGlobals n=some (some (.ref B))->(n=nm->isIn X.K (.ref B) C=true)/\(n≠nm->kin_not X.K B C=true)) :
  kZ X (.builtin "isinstance") (λxs H Q=>∃ x w o q F n,xs=[x,.ref C]/\n∈L/\Rep X.K H w o q (.exc n) x F/\Q (.bl (n==nm)) H):=by
 intro Tk s σ H xs us Q I r hh;obtain⟨x,w,o,q,F,n,rfl,hn,rd,hq⟩:=hh;obtain⟨u,v,rfl,ru,rv⟩:=AZ r;cases rv;obtain⟨_,_,_,rfl,ha,B,hc,k⟩:=rd.inv
 .cases ru;obtain⟨e1,_⟩:=(show d7 X.prog X.w H s.heap _ (.gQ _ _)from I.aP _ _ ha);obtain⟨h1,h2⟩:=h n hn B k.ns;by_cases z:n=nm
  .rw[ZV.mpr z]at hq;exact UQ I.gE ⟨e1,hc⟩ (h1 z) ⟨.bl true,H,I,rfl,hq⟩
  .rw[ZW.mpr z]at hq;exact UP I.gE ⟨e1,hc⟩ k.xc (h2 z) ⟨.bl false,H,I.tok _,rfl,hq⟩
def tw (L:List Str)(nm:Str)(fa:aN):aN:=λρ=>match fa ρ with
 | some (.exc n,_,ac)=>if n∈L then some (.bl (n==nm),9,ac)else none
 | _=>none
theorem wK{nm:Str}(hC:gK X.K X.mg L nm)(hm:X.mg "isinstance" = none)(ha:QD X a fa)(hg:Gl X "isinstance":=by rfl)(yD:Gl X nm:=by rfl)(Eu:(nm==("__debug__":Str))=false:=by decide)(hs:starEach [a,.Name nm pT] X.env=(false,eval a X.env)::starEach [.Name nm pT] X.env:=by rfl)(cE:(backTo pos (starEach [.Name nm pT] X.env)).any (·.1)=false:=by rfl):QD X (.Call (.Name "isinstance" p) [a,.Name nm pT] [] pos) (tw L nm fa):=⟨have ha:=ha.o;by
 obtain⟨C,hmC,d9⟩:=hC;refine PE.imp (qL (j0t d9) hg hm JH (l0 ha (l0 (Hl (v:=.ref C) yD hmC rfl Eu) oG bT) hs) (by decide) (by decide) hs cE) λσ H Q aj=>?_;obtain⟨ρ,w,t,r',q,am,gd,ee,k⟩:=aj;unfold tw at ee;split at ee;next n q1 ac h1=>
  split at ee;next hL=>
   cases ee;refine⟨ρ,w,t,_,_,_,gd,h1,λv H1 w1 F1 g1 aV r1=>?_⟩;exact⟨v,w1,_,_,F1,n,rfl,hL,r1,k _ H1 (dv t w1) [] g1.drop.up (aV.drop gd.wt) (.bl _)⟩
  .cases ee
 .cases ee⟩
theorem z8i:kZ X (.builtin "isinstance") (λxs H Q=>∃ x w o q F n,xs=[x,.ty "ValueError"]/\Rep X.K H w o q (.exc n) x F/\Q (.bl true) H):=by
 intro Tk s σ H xs us Q I r hh;obtain⟨x,w,o,q,F,n,rfl,rd,hq⟩:=hh;obtain⟨u,v,rfl,ru,rv⟩:=AZ r;cases rv;obtain⟨_,_,_,rfl,ha,B,hc,k⟩:=rd.inv
 .cases ru;obtain⟨e1,_⟩:=(show d7 X.prog X.w H s.heap _ (.gQ _ _)from I.aP _ _ ha);exact UR I.gE ⟨e1,hc⟩ (by kernel_rfl) k.ve ⟨.bl true,H,I,rfl,hq⟩
def EX (fa:aN):aN:=λρ=>match fa ρ with
 | some (.exc n,_,ac)=>some (.bl true,9,ac)
 | _=>none
theorem j72(hm:X.mg "isinstance" = none)(Et:X.mg "ValueError" = none)(ha:QD X a fa)(hg:Gl X "isinstance":=by rfl)(yD:Gl X "ValueError":=by rfl)(hs:starEach [a,.Name "ValueError" pT] X.env=(false,eval a X.env)::starEach [.Name "ValueError" pT] X.env:=by rfl)(cE:(backTo pos (starEach [.Name "ValueError" pT] X.env)).any (·.1)=false:=by rfl):QD X (.Call (.Name "isinstance" p) [a,.Name "ValueError" pT] [] pos) (EX fa):=⟨have ha:=ha.o;by
 refine PE.imp (qL z8i hg hm JH (l0 ha (l0 (Hm (v:=.ty "ValueError") yD Et (by kernel_rfl) rfl (by decide) (by decide)) oG bT) hs) (by decide) (by decide) hs cE) λσ H Q aj=>?_;obtain⟨ρ,w,t,r',q,am,gd,ee,k⟩:=aj;unfold EX at ee;split at ee;next n q1 ac h1=>
  cases ee;refine⟨ρ,w,t,_,_,_,gd,h1,λv H1 w1 F1 g1 aV r1=>?_⟩;exact⟨v,w1,_,_,F1,n,rfl,r1,k _ H1 (dv t w1) [] g1.drop.up (aV.drop gd.wt) (.bl _)⟩
 .cases ee⟩
def B4:D->D->Option D
 | .bc,.bc=>some (.bl true)
 | .exc _,.bc=>some (.bl false)
 | .int _,.bc=>some (.bl false)
 | .tup _,.bc=>some (.bl false)
 | .str _,.bc=>some (.bl false)
 | _,_=>none
def KJ:R2:=λx y H Q=>y=.bc/\((x=.bc/\Q (.bl true) H)\/((∃ i,x=.int i)\/(∃ i,x=.str i)\/(∃ i,x=.ref i))/\Q (.bl false) H)
theorem Hy:dy X (compareOp .Is) KJ:=by
 intro Tk s σ H x y v u Q I rx ry h;obtain⟨rfl,h⟩:=h;cases ry;rcases h with⟨rfl,q⟩|⟨⟨i,rfl⟩|⟨i,rfl⟩|⟨i,rfl⟩,q⟩
 .cases rx;exact Qd ⟨.bl true,H,I,rfl,q⟩
 .obtain⟨t,rfl⟩:=rx;exact Qd ⟨.bl false,H,I,rfl,q⟩
 .obtain⟨t,rfl⟩:=rx;exact Qd ⟨.bl false,H,I,rfl,q⟩
 .cases rx;exact Qd ⟨.bl false,H,I,rfl,q⟩
theorem k2x:∀ σ H Q,tD K (e2 B4 fa fb) σ H Q->j5 KJ (tD K fa) (tD K fb) σ H Q:=sG λx y d h=>by
 unfold B4 at h;split at h
 .cases h;exact⟨_,rfl,λH w o o' q q' u u' F F' r1 r2 _ Q hq=>⟨r2.inv.1,.inl ⟨r1.inv.1,hq⟩⟩⟩
 .cases h;exact⟨_,rfl,λH w o o' q q' u u' F F' r1 r2 _ Q hq=>have ⟨a,_,_,e,_⟩:=r1.inv;⟨r2.inv.1,.inr ⟨.inr (.inr ⟨a,e⟩),hq⟩⟩⟩
 .cases h;exact⟨_,rfl,λH w o o' q q' u u' F F' r1 r2 _ Q hq=>⟨r2.inv.1,.inr ⟨.inl ⟨_,r1.inv.1⟩,hq⟩⟩⟩
 .cases h;exact⟨_,rfl,λH w o o' q q' u u' F F' r1 r2 _ Q hq=>have ⟨a,_,e,_⟩:=r1.inv;⟨r2.inv.1,.inr ⟨.inr (.inr ⟨a,e⟩),hq⟩⟩⟩
 .cases h;exact⟨_,rfl,λH w o o' q q' u u' F F' r1 r2 _ Q hq=>⟨r2.inv.1,.inr ⟨.inr (.inl ⟨_,r1.inv.1⟩),hq⟩⟩⟩
 .cases h
theorem j5z(ha:QD X a fa)(hb:QD X b fb):iY X (.Compare a [.Is] [b] pos) (bg (e2 B4 fa fb)):=⟨have ha:=ha.o;have hb:=hb.o;sJ Hy k2x ha hb (ui _)⟩
def yR (d:D)(ds:List D):Nat:=(eG ds).countP λy=>PyData.eqv y (b6 d)
def k1i (K:PySem.W.Frag):V->List V->Hp->VK->Prop:=λx xs H Q=>∃ ds d y,xs=[y]/\Is K H (.lst ds) x/\Is K H d y/\eS (.lst ds)=true/\eS d=true/\Q (.int (Int.ofNat (yR d ds))) H
theorem j61(hu:X.A.units+65<cLine):Bf X "list.count" (k1i X.K):=by
 intro Tk s σ H x xs v us Q I rx rs ⟨ds,d,y,e,⟨w,o,q,F,h1⟩,⟨w',o',q',F',h2⟩,k1,k2,hq⟩;subst e;obtain⟨u,rfl,ru⟩:=mZ rs;obtain⟨as,ra⟩:=h1.reads I rx (mh k1);obtain⟨bs,rb⟩:=h2.reads I ru (mh k2);replace k1:=mi k1;replace k2:=mi k2;unfold b6 at ra k1;have mj:PyData.canLayAll0 (eG ds)=true:=QT k1;have l3:=QT k2;cases ra with
 | @list a ob vs n _ _ ho kN hd sQ=>
  obtain⟨cls,dd,data,sl⟩:=ob;simp only at kN hd;subst kN hd;have lz:=Y7 _ _ _ mj sQ;have EY:vs.toList.countP (λy=>PyData.eqv (SeqAt.readOf s.heap y) (b6 d))=yR d ds:=by unfold yR;rw[<- lz,List.countP_map];rfl
  refine Jq Vy ⟨_,ho,rfl⟩ PySem.F.entry_list_count (PySem.F.args_list_count_2 _ _)
   (list_countAt a vs n dd sl u (λy=>PyData.eqv (SeqAt.readOf s.heap y) (b6 d))) ⟨ho,Vx sQ rb mj l3 (Jw k2 hu),?_⟩
  rw[EY];exact⟨.int (Int.ofNat (yR d ds)),H,I.tok _,⟨_,rfl⟩,hq⟩
def EZ (fo:aN)(g:cf):aN:=λρ=>match fo ρ with
 | some (.lst ds,_,ac)=>match g ac with
  | some ([d],ap)=>if eS (.lst ds)=true/\eS d=true then some (.int (Int.ofNat (yR d ds)),9,ap)else none
  | _=>none
 | _=>none
def j3y (K:PySem.W.Frag):V->List V->Hp->VK->Prop:=λx xs H Q=>∃ ds d y j,xs=[y]/\Is K H (.lst ds) x/\Is K H d y/\eS (.lst ds)=true/\eS d=true/\wD d ds=some j/\(j:Int)<1000/\Q (.int (Int.ofNat j)) H
theorem z5u(hu:X.A.units+65<cLine):Bf X "list.index" (j3y X.K):=by
 intro Tk s σ H x xs v us Q I rx rs ⟨ds,d,y,j,e,⟨w,o,q,F,h1⟩,⟨w',o',q',F',h2⟩,k1,k2,hj,KN,hq⟩;subst e;obtain⟨u,rfl,ru⟩:=mZ rs;obtain⟨as,ra⟩:=h1.reads I rx (mh k1);obtain⟨bs,rb⟩:=h2.reads I ru (mh k2);replace k1:=mi k1;replace k2:=mi k2;unfold b6 at ra k1;have mj:PyData.canLayAll0 (eG ds)=true:=QT k1;have l3:=QT k2;cases ra with
 | @list a ob vs n _ _ ho kN hd sQ=>
  obtain⟨cls,dd,data,sl⟩:=ob;simp only at kN hd;subst kN hd;have lz:=Y7 _ _ _ mj sQ;have Ef:=Yg.mp hj;obtain⟨Eg,Eh,Ei⟩:=Ef;have hlen:vs.size=(eG ds).length:=by rw[<- lz];simp
  have q_:∀ m (hm:m<vs.size) (fZ:m<(eG ds).length),SeqAt.readOf s.heap vs[m]=(eG ds)[m]:=λm hm fZ=>by
   have:(vs.toList.map (SeqAt.readOf s.heap))[m]? = (eG ds)[m]?:=by rw[lz]
   simpa [hm,fZ]using this
  refine Jq Vz ⟨_,ho,rfl⟩ PySem.F.entry_list_index (PySem.F.args_list_index_2 _ _)
   (list_indexAt a vs n dd sl u (λy=>PyData.eqv (SeqAt.readOf s.heap y) (b6 d)) j (by omega) (by omega) (by rw[q_ j (by omega) Eg];simpa using Eh) (λm hm Ej=>by rw[q_ m hm (by omega)];simpa using Ei m Ej)) ⟨ho,Vx sQ rb mj l3 (Jw k2 hu),?_⟩
  exact⟨.int (Int.ofNat j),H,I.tok _,⟨_,rfl⟩,hq⟩
def E1 (fo:aN)(g:cf):aN:=λρ=>match fo ρ with
 | some (.lst ds,_,ac)=>match g ac with
  | some ([d],ap)=>if eS (.lst ds)=true/\eS d=true then match wD d ds with
   | some j=>if(j:Int)<1000 then some (.int (Int.ofNat j),9,ap)else none
   | none=>none
   else none
  | _=>none
 | _=>none
theorem Rep.KO{H:Hp}{w:Wn}{ds:List D}{v:V}{F:List Addr}(r:Rep K H w .f 0 (.lst ds) v F):∃ a us,v=.ref a/\dE K H a us:=by obtain⟨a,vs,e,h,_⟩:=r.fV;exact⟨a,vs,e,h⟩
theorem j3a{k:Nat}(hr:bC k X.A)(ho:QD X a fa)(ha:gy X [e] g)(c_:attributeBase a "count" X.env (eval a X.env)=eval a X.env:=by rfl)(fA:((backTo aH (starEach [e] X.env)).all (λx=>!x.1)&&(backToKw aH (keywordEach [] X.env)).all (λx=>x.1.isSome)
   && decide ([e].length+([]:List Keyword).length+(if([]:List Keyword).isEmpty then 0 else 1)<30))=true:=by rfl) (da:(apos.endLine==aH.line)=true:=by rfl) (hs:starEach [e] X.env=(false,eval e X.env)::starEach [] X.env:=by rfl) (cG:(backTo aH (starEach [] X.env)).any (·.1)=false:=by rfl):QD X (.Call (.Attribute a "count" apos) [e] [] aH) (EZ fa g):=⟨have ho:=ho.o;have ha:=ha.o;PE.imp (v_ Z4 Vy PySem.F.type_list_count (j61 (yr hr)) ho ha c_ fA da hs cG) λσ H Q aj=>by
 obtain⟨ρ,w,t,r',q,am,gd,ee,k⟩:=aj;unfold EZ at ee;split at ee;next ds q1 ac h1=>
  split at ee;next d ap h2=>
   split at ee;next aP=>
    cases ee;refine⟨ρ,w,t,_,_,_,gd,h1,λv H1 w1 F1 g1 aV r1=>?_⟩;have r0:=r1.drop (o:=.f) (Qj t);have gg:=g1.drop (t':=t);obtain⟨p0,us,rfl,hq⟩:=Rep.KO r0;refine⟨.inl ⟨rfl,us,hq⟩,ac,dv t w1,t,_,_,gg,h2,λKg H2 w2 g2 bZ r2=>?_⟩;obtain⟨v2,rfl,yv⟩:=one r2;have r3:Rep X.K H2 w2 .f 0 (.lst ds) (.ref p0) []:=r0.lj gg.wl bZ.cu;exact⟨ds,d,v2,rfl,⟨_,_,_,_,r3⟩,⟨_,_,_,_,yv⟩,aP.1,aP.2,k _ H2 w2 [] g2.up ((aV.drop gd.wt).trans bZ) (.int _)⟩
   .cases ee
  .cases ee
 .cases ee⟩
theorem z72{k:Nat}(hr:bC k X.A)(ho:QD X a fa)(ha:gy X [e] g)(c_:attributeBase a "index" X.env (eval a X.env)=eval a X.env:=by rfl)(fA:((backTo aH (starEach [e] X.env)).all (λx=>!x.1)&&(backToKw aH (keywordEach [] X.env)).all (λx=>x.1.isSome)
   && decide ([e].length+([]:List Keyword).length+(if([]:List Keyword).isEmpty then 0 else 1)<30))=true:=by rfl) (da:(apos.endLine==aH.line)=true:=by rfl) (hs:starEach [e] X.env=(false,eval e X.env)::starEach [] X.env:=by rfl) (cG:(backTo aH (starEach [] X.env)).any (·.1)=false:=by rfl):QD X (.Call (.Attribute a "index" apos) [e] [] aH) (E1 fa g):=⟨have ho:=ho.o;have ha:=ha.o;PE.imp (v_ Z4 Vz PySem.F.type_list_index (z5u (yr hr)) ho ha c_ fA da hs cG) λσ H Q aj=>by
 obtain⟨ρ,w,t,r',q,am,gd,ee,k⟩:=aj;unfold E1 at ee;split at ee;next ds q1 ac h1=>
  split at ee;next d ap h2=>
   split at ee;next aP=>
    split at ee;next j hj=>
     split at ee;next KN=>
      cases ee;refine⟨ρ,w,t,_,_,_,gd,h1,λv H1 w1 F1 g1 aV r1=>?_⟩;have r0:=r1.drop (o:=.f) (Qj t);have gg:=g1.drop (t':=t);obtain⟨p0,us,rfl,hq⟩:=Rep.KO r0;refine⟨.inl ⟨rfl,us,hq⟩,ac,dv t w1,t,_,_,gg,h2,λKg H2 w2 g2 bZ r2=>?_⟩;obtain⟨v2,rfl,yv⟩:=one r2;have r3:Rep X.K H2 w2 .f 0 (.lst ds) (.ref p0) []:=r0.lj gg.wl bZ.cu;exact⟨ds,d,v2,j,rfl,⟨_,_,_,_,r3⟩,⟨_,_,_,_,yv⟩,aP.1,aP.2,hj,KN,k _ H2 w2 [] g2.up ((aV.drop gd.wt).trans bZ) (.int _)⟩
     .cases ee
    .cases ee
   .cases ee
  .cases ee
 .cases ee⟩
end
end L3
namespace L3
open PySem PySem.Spec PyProof.Rows L2
end L3
namespace L3
open PySem PySem.Spec PyProof.Rows PySem.W L2
variable {j n:Nat}
def KP (K:PySem.W.Frag)(x:jj)(E:XK):St->Hp->Prop:=λσ H=>∃ ρ w t nm,Good K ρ σ H w t/\x ρ=some nm/\∀ C H' w',nsIn K mainGlobals nm=some (some (.ref C))->WL K w' H'->Go H w H' w'->E (.ref C) none H'
theorem tX.e{K:PySem.W.Frag}{x:jj}{E:XK}{D:Ends}{σ:St}{H:Hp}(h:tX K x E D σ H):KP K x E σ H:=by obtain⟨ρ,w,nm,g,e,k⟩:=h;exact⟨ρ,w,0,nm,g,e,k⟩
def KQ:jj:=λ_=>none
def yS (g:cS)(x y:jj):jj:=λρ=>match g ρ with
 | some (b,ac)=>if b=true then x ac else y ac
 | none=>none
def KR (nm:Str):jj:=λ_=>some nm
abbrev PXE (X:Cx)(E:XK)(e:Expr)(x:jj):Prop:=PE X e λσ H _=>KP X.K x E σ H
structure KS (X:Cx) (E:XK) (e:Expr) (x:jj):Prop where mk::o:PXE X E e x
abbrev PXS (X:Cx)(E:XK)(st:Stmt)(x:jj):Prop:=PS X st (tX X.K x E)
structure B5 (X:Cx) (E:XK) (e:Stmt) (x:jj):Prop where mk::o:PXS X E e x
abbrev PXB (X:Cx)(E:XK)(ss:List Stmt)(x:jj):Prop:=i3 X ss (tX X.K x E)
structure yT (X:Cx) (E:XK) (e:List Stmt) (x:jj):Prop where mk::o:PXB X E e x
section
variable {X:Cx}{E:XK}{st:Stmt}{ss rest a b:List Stmt}{x y:jj}{f:aK}{g:cS}{c e:Expr}{es:List Expr}{pos pos' p:Pos}
theorem j0u:yT X E ss KQ:=⟨λ_ _ _ _ _ _ h=>by obtain⟨_,_,_,_,e,_⟩:=h;cases e⟩
theorem E2(h:B5 X E st x):yT X E (st::rest) x:=⟨have h:=h.o;by
 intro Tk s σ H D I hh;refine YA (bE (h Tk s σ H { nx:=λ_ _=>False,rt:=λ_ _=>False } I hh) λfl s1 q=>?_);cases fl with
 | next=>obtain⟨_,_,_,z⟩:=q;exact z.elim
 | brk=>obtain⟨_,_,_,z⟩:=q;exact z.elim
 | cont=>obtain⟨_,_,_,z⟩:=q;exact z.elim
 | ret u=>obtain⟨_,_,_,_,_,z⟩:=q;exact z.elim⟩
theorem j47(hc:iY X c g)(ha:yT X E a x)(hb:yT X E b y):B5 X E (.If c a b pos) (yS g x y):=⟨have hc:=hc.o;have ha:=ha.o;have hb:=hb.o;PS.imp (Hq hc ha hb) λD σ H aj=>by
 obtain⟨ρ,w,nm,gd,e,k⟩:=aj;unfold yS at e;split at e;next b' ac h1=>
  refine⟨ρ,w,0,b',ac,gd,h1,λH1 w1 g1 aV=>?_⟩;cases b' with
  | true=>exact⟨ac,w1,nm,g1,e,λC H2 w2 n wl bZ=>k C H2 w2 n wl (aV.trans bZ)⟩
  | false=>exact⟨ac,w1,nm,g1,e,λC H2 w2 n wl bZ=>k C H2 w2 n wl (aV.trans bZ)⟩
 .cases e⟩
theorem j00(he:KS X E e x)(hs:swapsWith e none pos.line X.env=pure false:=by rfl):B5 X E (.Expr e pos) x:=⟨have he:=he.o;PS.imp (Ho he hs) λD σ H aj=>aj.e⟩
end
section
variable {P:Program}{w:World}{K:PySem.W.Frag}{mg:Str->Option Value}{base:Heap}{N:List Str}{qual:Str}{scope:Scope}{f:Addr}{cd:Value}{A:Around}{outer:List Env}{aD:Shared}{cb:Hp}{E:XK}
theorem z7k{nm txt:Str}{k j:Nat}{np aH rE pos:Pos}(hr:bC k (A.deeper (envOfC qual scope aD.heap.objs.size f cd)))(hC:∃ C,EJ K mg nm C)(hg:Gl (lA P w K mg base N qual scope f cd A outer aD cb E) nm:=by rfl)(ib:(nm==("__debug__":Str))=false:=by decide):B5 (lA P w K mg base N qual scope f cd A outer aD cb E) E (.Raise (some (.Call (.Name nm np) [.Constant (.str txt) j rE] [] aH)) none pos) (KR nm):=⟨by obtain⟨C,hC⟩:=hC;refine PS.imp (X6 hr.hd hC hg ib) λD σ H aj=>?_;obtain⟨ρ,w',EK,g,e,k⟩:=aj;cases e;exact k C H w' hC.ns g.wl Go.refl⟩
theorem z9h{k:Nat}{x:Str}{F:List D->Option Str}{e:Expr}{es:List Expr}{g:cf}{p pos:Pos}(Cx':nr P w K mg base k x n F)(hr:bC j (A.deeper (envOfC qual scope aD.heap.objs.size f cd)))(hk:k<=j)(ha:gy (lA P w K mg base N qual scope f cd A outer aD cb E) (e::es) g)(hg:Gl (lA P w K mg base N qual scope f cd A outer aD cb E) x:=by rfl)(ib:(x==("__debug__":Str))=false:=by decide)(he:starEach (e::es) (envOfC qual scope aD.heap.objs.size f cd)=(false,eval e (envOfC qual scope aD.heap.objs.size f cd))::starEach es (envOfC qual scope aD.heap.objs.size f cd):=by rfl)(cE:(backTo pos (starEach es (envOfC qual scope aD.heap.objs.size f cd))).any (·.1)=false:=by rfl):KS (lA P w K mg base N qual scope f cd A outer aD cb E) E (.Call (.Name x p) (e::es) [] pos) (EM F n g):=⟨have ha:=ha.o;by
 obtain⟨fn,fd,ps,G,hm,yC,hb⟩:=Cx';refine PE.imp (HE (X:=lA P w K mg base N qual scope f cd A outer aD cb E) (E:=E) G (hr.mono hk) hg hm yC hb .nil (λTk σ H s e s' I h=>X2 (λ_ _ h=>h) I h) ha ib he cE) λσ H Q aj=>?_;obtain⟨ρ,w',t,nm,gd,e,k'⟩:=aj;unfold EM at e;split at e;next ds ac h1=>
  split at e;next hn=>
   refine⟨ρ,w',t,ds,ac,gd,h1,λvs H1 w1 g1 aV r1=>?_⟩;show EL K n F (vs++[]) H1 Q E;rw[QX];refine⟨by rw[<- r1.length];exact hn,ds,λa=>(w1 a).map λ_=>Ow.f,nm,λa o e=>?_,⟨λa o e=>?_,g1.wl.tb⟩,?_,e,λC H2 w2 jS yq bZ=>k' C H2 w1 jS ⟨λa o ew=>?_,yq.tb⟩ (aV.trans ⟨λa x e n=>?_,λa o ew no=>?_⟩)⟩
   .try dsimp only at e
    cases ew:w1 a with
    | none=>rw[ew]at e;cases e
    | some o'=>rw[ew]at e;cases e;rfl
   .try dsimp only at e
    cases ew:w1 a with
    | none=>rw[ew]at e;cases e
    | some o'=>exact g1.wl a o' ew
   .exact af.freeze (λa n=>by show(w1 a).map _=_;rw[n];rfl) r1 nM
   .obtain⟨m9,q⟩:=g1.wl a o ew;have:=(bZ.keep a .f (by show(w1 a).map _=_;rw[ew];rfl) (λi z=>nomatch z)).1;exact⟨m9,by rw[this];exact q⟩
   .exact⟨(bZ.cu a x e (by show(w1 a).map _=_;rw[n];rfl)).1,n⟩
   .exact⟨(bZ.keep a .f (by show(w1 a).map _=_;rw[ew];rfl) (λi z=>nomatch z)).1,ew⟩
  .cases e
 .cases e⟩
end
abbrev u4:=a_->Option (Str×a_)
def CE (Y:Cx)(Tk:List (Addr×Obj))(σ:St)(H:Hp)(w:Wn)(nm:Str)(ac:a_)(ev:Value)(s':Shared):Prop:=
 ∃ s1 H1 w1 a C t B H',ev=.ref a/\Inv Y.j4 Tk σ H1 s1/\Good Y.K ac σ H1 w1 0/\Go H w H1 w1/\rC Y.prog Y.w Y.stack H1 s1 a C t B H' s'/\nsIn Y.K mainGlobals nm=some (some (.ref C))/\(∀ b o,H1 b=some o->Sm o (H' b))/\TB Y.K H'
def PTS (Y:Cx)(st:Stmt)(y:u4):Prop:=∀ (Tk:List (Addr×Obj)) (s:Shared) (σ:St) (H:Hp) (ρ:a_) (w:Wn) (nm:Str) (ac:a_),Inv Y.j4 Tk σ H s->Good Y.K ρ σ H w 0->y ρ=some (nm,ac)->
 wpAny (model Y.prog Y.w) Y.A (exec st Y.env) (λ_ _=>False) (CE Y Tk σ H w nm ac) s
structure KU (Y:Cx) (e:Stmt) (y:u4):Prop where mk::o:PTS Y e y
def PTB (Y:Cx)(ss:List Stmt)(y:u4):Prop:=∀ (Tk:List (Addr×Obj)) (s:Shared) (σ:St) (H:Hp) (ρ:a_) (w:Wn) (nm:Str) (ac:a_),Inv Y.j4 Tk σ H s->Good Y.K ρ σ H w 0->y ρ=some (nm,ac)->
 wpAny (model Y.prog Y.w) Y.A (execs ss Y.env) (λ_ _=>False) (CE Y Tk σ H w nm ac) s
structure KW (Y:Cx) (e:List Stmt) (y:u4):Prop where mk::o:PTB Y e y
def yU (Fx:List D->Option Str)(n:Nat)(g:cf):u4:=λρ=>match g ρ with
 | some (ds,ac)=>if ds.length=n then(Fx ds).map λnm=>(nm,ac)else none
 | none=>none
def yV (L:List Str)(f:aK)(y:u4)(ie ik:Nat):aK:=λρ=>match y ρ with
 | some (nm,ac)=>if nm∈L then some (.nx (((ac.set ie (some (.exc nm,9))).set ik (some (.exc nm,9))).set ie none))else none
 | none=>f ρ
section
variable {Y:Cx}{c e:Expr}{es:List Expr}{g:cf}{gt:cS}{x y:u4}{a b ss:List Stmt}{st:Stmt}{pos:Pos}
theorem j5i(h:KU Y st y):KW Y [st] y:=⟨have h:=h.o;λTk s σ H ρ w nm ac I gd e=>
 YA (bE (h Tk s σ H ρ w nm ac I gd e) λ_ _ z=>z.elim)⟩
theorem z9s{z u:Str}{Fx:List D->Option Str}{k:Nat}{yp fp aH j6:Pos}(CX:nr Y.prog Y.w Y.K Y.mg Y.base k z n Fx)(hr:bC j Y.A)(hk:k<=j)(ha:gy Y.j4 (e::es) g)(hgx:Gl Y z:=by rfl)(hdx:(z==("__debug__":Str))=false:=by decide)(hsc:swapsWith (.Call (.Name z fp) (e::es) [] aH) (some (.Name u yp)) j6.line Y.env=pure false:=by rfl)(he:starEach (e::es) Y.env=(false,eval e Y.env)::starEach es Y.env:=by rfl)(cE:(backTo aH (starEach es Y.env)).any (·.1)=false:=by rfl):KU Y (.Assign [.Name u yp] (.Call (.Name z fp) (e::es) [] aH) j6) (yU Fx n g):=⟨have ha:=ha.o;by
 intro Tk s σ H ρ w nm ac I gd ee;unfold yU at ee;split at ee;next ds ap h1=>
  split at ee;next hn=>
   obtain⟨EK,hx,e0⟩:=Zf.mp ee;cases e0;obtain⟨fn,fd,ps,G,hm,yC,hb⟩:=CX;refine wpAny_Assign_Name ?_ hsc;refine Yb (xP (X:=Y.j4) I hgx hm ?_ hdx);refine W.callWith_K (h₀:=Y.base) I.ok.mod.xI yC (ZN (ha aH Tk s σ H (λvs H1=>∃ w1,Good Y.K ac σ H1 w1 0/\Go H w H1 w1/\af Y.K H1 w1 .f 0 ds vs []) I ⟨ρ,w,0,ds,ac,gd,h1,λvs H1 w1 g1 aV r1=>⟨w1,g1,aV,r1⟩⟩) (λus s1 D_=>?_) (λ_ _ z=>False.elim z)) he cE;obtain⟨vs,H1,I1,rv,w1,g1,aV,r1⟩:=D_;refine⟨I1.gE,?_⟩;have k8:EL Y.K n Fx vs H1 (λ_ _=>False) (λc _ H'=>∃ C,c=.ref C/\nsIn Y.K mainGlobals nm=some (some (.ref C))/\(∀ b o,H1 b=some o->Sm o (H' b))/\TB Y.K H'):=by
    refine⟨by rw[<- r1.length];exact hn,ds,λa=>(w1 a).map λ_=>Ow.f,nm,λa o e=>?_,⟨λa o e=>?_,g1.wl.tb⟩,?_,hx,λC H2 w2 jS yq bZ=>⟨C,rfl,jS,λb o e=>?_,yq.tb⟩⟩
    .try dsimp only at e
     cases ew:w1 a with
     | none=>rw[ew]at e;cases e
     | some o'=>rw[ew]at e;cases e;rfl
    .try dsimp only at e
     cases ew:w1 a with
     | none=>rw[ew]at e;cases e
     | some o'=>exact g1.wl a o' ew
    .exact af.freeze (λa n=>by show(w1 a).map _=_;rw[n];rfl) r1 nM
    .cases ew:w1 b with
     | none=>exact(bZ.cu b o e (by show(w1 b).map _=_;rw[ew];rfl)).1
     | some o'=>exact sm (((bZ.keep b .f (by show(w1 b).map _=_;rw[ew];rfl) (λi z=>nomatch z)).1).trans e)
   have hl:us.length=ps.length:=by rw[<- rv.length];exact G.len _ _ _ _ k8
   have Bh:=hb s1 us I1.gE (by rw[QX];exact hl);rw[QX]at Bh;refine VC (JQ (G.run Y.A Y.stack s1 H1 ⟨us,[]⟩ us vs _ _ (hr.mono hk) I1.xS Bh rv k8) λr s' hq=>?_);cases r with
   | ok fl=>
    cases fl with
    | ret u=>obtain⟨_,_,_,z⟩:=I1.after hq;exact z.2.elim
    | next=>exact False.elim hq
    | brk=>exact False.elim hq
    | cont=>exact False.elim hq
   | error ev=>
    obtain⟨a,C,t,B,H',rfl,F',C',eC,jS,rG,E3⟩:=hq;cases eC;exact⟨s1,H1,w1,a,C,t,B,H',rfl,I1,g1,aV,F',jS,rG,E3⟩
  .cases ee
 .cases ee⟩
theorem z9v{R nn kx:Str}{L:List Str}{f:aK}{ie ik:Nat}{np kp vp apos oY:Pos}(hU:rF Y.K Y.mg R L)(hf:iJ Y.j4 ss f)(hx:KW Y ss y)(hN:Y.N.Nodup)(uZ:Y.N[ie]? = some nn)(wC:Y.N[ik]? = some kx)(gu:Y.stack=Y.env::Y.outer:=by rfl)(EO:Y.env.frame=some Y.env.locals:=by rfl)(eJ:Y.env.scope.names.lookup nn=some .local:=by rfl)(B3:Y.env.scope.names.lookup kx=some .local:=by rfl)(hg:Gl Y R:=by rfl)(ib:(R==("__debug__":Str))=false:=by decide)(ES:(nn==("__debug__":Str))=false:=by decide)(ET:(nn==("__classdict__":Str))=false:=by decide)(uD:swapsWith (.Name nn vp) (some (.Name kx kp)) apos.line Y.env=pure false:=by rfl):l_ Y.j4 (.Try ss [.ExceptHandler (some (.Name R np)) (some nn) [.Assign [.Name kx kp] (.Name nn vp) apos] oY] [] [] pos) (yV L f y ie ik):=⟨have hf:=hf.o;have hx:=hx.o;by
 intro Tk s σ H Dn I hh;obtain⟨ρ,w,o,gd,ee,K'⟩:=hh;unfold yV at ee;refine wpAny_Try_except ?_;split at ee;next nm ac h1=>
  split at ee;next hL=>
   cases ee;obtain⟨RA,hR,ER,hmg,d9⟩:=hU;refine ZN (hx Tk s σ H ρ w nm ac I gd h1) (λ_ _ z=>z.elim) λev s' q=>?_;obtain⟨s1,H1,w1,a,C,t,B,H',rfl,I1,g1,aV,F',jS,rG,E3⟩:=q;obtain⟨hXk,dO⟩:=d9 nm hL C jS;refine Y_ (X:=Y.j4) I1 F' gu EO hN uZ wC eJ B3 hR ER dO hmg hg ib ES ET uD λs5 oe AR I5=>?_;have yW:ie<σ.length:=by rw[I.len];exact(Qy.mp uZ).1
   have E4:ik<σ.length:=by rw[I.len];exact(Qy.mp wC).1
   have E5:=F'.free;obtain⟨g2,bZ⟩:=g1.grow (H':=upd H' a (wJ a oe)) (λb o q=>by obtain⟨y,ey,_⟩:=(rG b o q).is;unfold upd;rw[Ql (λz=>by rw[<- z,ey]at E5;cases E5)];exact rG b o q) (E3.upd rfl (.inl E5))
   have rep:∀ w',Rep Y.K (upd H' a (wJ a oe)) w' .f 0 (.exc nm) (.ref a) []:=λw'=>.exc (ob:=oe) (u:=.ext λh=>h.get? a=some oe) (by unfold upd;rw[Qh rfl];rfl) ⟨C,AR,hXk⟩ (λ_ z=>nomatch z);obtain⟨g3,j_⟩:=g2.oS (i:=ie) yW (rep _);obtain⟨g4,oT⟩:=g3.oS (i:=ik) (by rw[QL];exact E4) (rep _);obtain⟨g5,jA⟩:=g4.unset (i:=ie) (v:=none) (by rw[QL,QL];exact yW);exact⟨_,_,I5,K' _ _ _ (by rw[QL,QL,QL]) g5 ((((aV.trans bZ).trans j_).trans oT).trans jA)⟩
  .cases ee
 .refine ZN (hf Tk s σ H Dn I ⟨ρ,w,o,gd,ee,K'⟩) (λfl s1 q=>?_) (λ_ _ z=>False.elim z);cases fl with
  | next=>exact J2 q
  | brk=>exact q
  | cont=>exact q
  | ret u=>exact q⟩
end
end L3
namespace L3
open PySem PySem.Spec PyProof.Rows L2
theorem Rep.E6{K:PySem.W.Frag}{H:Hp}{w:Wn}{o:Ow}{q:Nat}{ds:List D}{v:V}{F:List Addr}(r:Rep K H w o q (.lst ds) v F)(hq:q<=1):∃ a vs,v=.ref a/\dE K H a vs/\af K H w o 0 ds vs []:=by
 match q,hq with
 | 0,_=>exact r.fV
 | 1,_=>
  obtain⟨a,vs,e,F',_,h,_,r,_⟩:=r.inv;have z:=r.zero;subst z;exact⟨a,vs,e,dE.of h,r⟩
end L3
namespace L3
open PySem PySem.Spec PyProof.Rows PySem.W L2
variable {Q:Bool->Shared->Prop}
section
variable {X:Cx}{a b:Expr}{g:cf}{pos p:Pos}
def yX (i j:Nat)(g:cf):aK:=λρ=>match g ρ with
 | some ([d,e],ac)=>some (.nx ((ac.set i (some (d,dP d))).set j (some (e,dP e))))
 | _=>none
theorem j5a{i j:Nat}{x y:Str}{px py pt:Pos}{kt k2 ue}(hc:X.calm=true)(hN:X.N.Nodup)(hi:X.N[i]? = some x)(hj:X.N[j]? = some y)(uf:i≠j)(ha:gy X [a,b] g)(hx:X.env.scope.names.lookup x=some .local:=by rfl)(hy:X.env.scope.names.lookup y=some .local:=by rfl)(hw:swappedStores [.Tuple [.Name x px,.Name y py] kt pt] (.Tuple [a,b] k2 ue) X.env=pure (some [x,y]):=by rfl)(hs:swapsWithSole [.Tuple [.Name x px,.Name y py] kt pt] (.Tuple [a,b] k2 ue) pos.line X.env=pure false:=by rfl):l_ X (.Assign [.Tuple [.Name x px,.Name y py] kt pt] (.Tuple [a,b] k2 ue) pos) (yX i j g):=⟨have ha:=ha.o;by
 intro Tk s σ H D I aj;refine R0 hc hN hi hj uf hx hy ha hw hs Tk s σ H D I ?_;have hli:i<σ.length:=by rw[I.len];exact(Qy.mp hi).1
 have hlj:j<σ.length:=by rw[I.len];exact(Qy.mp hj).1
 obtain⟨ρ,w,o,gd,ee,k⟩:=aj;unfold yX at ee;split at ee;next d e ac h1=>
  cases ee;refine⟨ρ,w,0,_,ac,gd,h1,λvs H1 w1 g1 aV r1=>?_⟩;obtain⟨v,v',rfl,ra,rb⟩:=two r1;obtain⟨g2,bZ⟩:=g1.oS (i:=i) hli ra;obtain⟨g3,j_⟩:=g2.oS (i:=j) (by rw[QL];exact hlj) (rb.lj g1.wl bZ.cu);exact⟨v,v',rfl,k _ _ _ (by rw[QL,QL]) g3 ((aV.trans bZ).trans j_)⟩
 .cases ee⟩
end
theorem z4b:isSubtype (.type "tuple") (.type "set")=pure false:=by rw[Jv];kernel_rfl
theorem z4i:isSubtype (.type "tuple") (.type "frozenset")=pure false:=by rw[Jv];kernel_rfl
abbrev met (ks:List Int):List Int:=firstMet (λi=>ks.getD i 0) ks.length
theorem KY{K:PySem.W.Frag}{H:Hp}{w:Wn}{o:Ow}:∀ {ks:List Int} {vs:List V} {F:List Addr},af K H w o 0 (ks.map D.int) vs F->vs=ks.map V.int
 | [],_,_,h=>by cases h;rfl
 | k::ks,_,_,h=>by
  cases h with
  | cons r rs _=>rw[eV r,KY rs];rfl
def bl (m:Nat):List Nat:=(range 5).filter λi=>m.testBit i
def bt (m:Nat)(led:Bool):SetTable:={ mask:=if(bl m).length<5 then 7 else 31,place:=(bl m).toArray,dummies:=#[],finger:=0,led:=led,moves:=if(bl m).length<5 then 0 else 1,plain:=true }
def esL (m:Nat)(z:Nat->Tok):Array (Int×Value):=((bl m).map λv:Nat=>(Int.ofNat v,Value.int (Int.ofNat v) (z v))).toArray
def so (m:Nat)(z:Nat->Tok)(ep:Nat)(led:Bool):Obj:={ cls:=.type "set",dict:=none,data:=.set (esL m z) ep (bt m led) }
def bor (m v:Nat):Nat:=m ||| 1 <<< v
def mb (val:Nat->Nat):Nat->Nat
 | 0=>0
 | i+1=>bor (mb val i) (val i)
section
variable {prog:Program}{w:World}{A:Around}{E:Tl}{s:Shared}
abbrev iM (w:World):Bool:=w.params.followText "set-order"
theorem KZ(led:Bool):(so 0 (λ_=>0) 0 led)={ cls:=.type "set",dict:=none,data:=.set #[] 0 (.fresh 0 0 led) }:=by unfold so;congr 1
theorem k2y(a:Value){Q₁:Tl}(h:Q₁ (.ref s.heap.objs.size) { s with heap:=s.heap.push (so 0 (λ_=>0) 0 (!iM w)) }) :
  codeAny (model prog w) A (.call (.builtin "set.__new__") ⟨[.type "set",a],[]⟩) (wants Q₁ E) s:=by
 refine codeAny_of_tree ?_;show wpAny _ A.in1 (do checkBuiltinCall "set.__new__" ⟨[.type "set",a],[]⟩;again (.builtin "set.__new__" ⟨[.type "set",a],[]⟩)) _ _ s;refine Qa (wpAny_of_eq (PySem.F.newCall_set_1 a) (Qd ⟨plainId_quiet VU _,Z7 PySem.F.entry_set_new ?_⟩));rw[Jo VU _];unfold Builtin.«set.__new__» Builtin.Frozenset.newClass;have dO:=sub_set_self;obtain⟨hp,g,d,tk,os⟩:=s;dsimp only;wp_walk
 refine VA (Qd ?_);dsimp only;simp only[newObj];refine Qa (wpAny_alloc (Qd ?_));rw[KZ]at h;exact Qd h
end
theorem K0{α:Type}(next:Nat->Nat):∀ (fuel k:Nat) (b_:List α) (out:Array α),b_.length=fuel->(pickOrder.go next fuel k b_ out).toList.Perm (out.toList++b_)
 | 0,k,b_,out,h=>by rw[List.eq_nil_of_length_eq_zero h,QX];exact .rfl
 | fuel+1,k,b_,out,h=>by
  unfold pickOrder.go;have dz:next k % b_.length<b_.length:=VH _ (by omega)
  rw[Qc dz];dsimp only;refine(K0 next fuel (k+1) _ _ (by rw[V7,Qh dz];omega)).trans ?_;rw[Array.toList_push,ZB];refine VW _ ?_;rw[List.eraseIdx_eq_take_drop_succ];have e:b_=b_.take (next k % b_.length)++b_[next k % b_.length]::b_.drop (next k % b_.length+1):=by rw[List.getElem_cons_drop];exact(Jh _ _).symm
  conv=>rhs;rw[e]
  show List.Perm (b_[next k % b_.length]::(b_.take (next k % b_.length)++b_.drop (next k % b_.length+1))) _;exact List.perm_middle.symm
theorem z5d{α:Type}(next:Nat->Nat)(xs:Array α):(pickOrder next xs).toList.Perm xs.toList:=by unfold pickOrder;exact K0 next _ 0 _ #[] (by simp)
theorem z9j:entryFor table "set.__iter__" = some Builtin.«frozenset.__iter__»:=
 entryFor_alias (id':="frozenset.__iter__") (by kernel_rfl) rfl (by decide +kernel) (by kernel_rfl)
theorem wL:Slot "set_iterator" "__next__" "set_iterator.__next__" :=
 .of (owner:="set_iterator") (n:="__next__") (by rw[YO,JJ];kernel_rfl) (by decide +kernel) (by decide +kernel) (by decide +kernel)
  (by first|exact .inl (by decide +kernel)|exact .inr (by decide +kernel)) (by rw[Jv];kernel_rfl)
theorem K1:entryFor table "set_iterator.__next__" = some Builtin.«set_iterator.__next__»:=entryFor_of_tree (by kernel_rfl)
theorem K2(a:Value):argsOk "set_iterator.__next__" ⟨[a],[]⟩:=by unfold argsOk;kernel_rfl
theorem K3:Slot "set_iterator" "__iter__" "set_iterator.__iter__" :=
 .of (owner:="set_iterator") (n:="__iter__") (by rw[YO,JJ];kernel_rfl) (by decide +kernel) (by decide +kernel) (by decide +kernel)
  (by first|exact .inl (by decide +kernel)|exact .inr (by decide +kernel)) (by rw[Jv];kernel_rfl)
theorem j0h(a:Value):argsOk "set_iterator.__iter__" ⟨[a],[]⟩:=by unfold argsOk;kernel_rfl
theorem z5t:entryFor table "set_iterator.__iter__" = some Builtin.«dict_keyiterator.__iter__»:=
 entryFor_alias (id':="dict_keyiterator.__iter__") (by kernel_rfl) rfl (by decide +kernel) (by kernel_rfl)
def io (a:Addr)(sl i n ep:Nat):Obj:={ cls:=.type "set_iterator",dict:=none,data:=.fields #[.int (Int.ofNat sl) 0,.int (Int.ofNat i) 0,.ref a,.int (Int.ofNat n) 0,.int (Int.ofNat ep) 0],slots:=#[] }
section
variable {prog:Program}{w:World}{A:Around}{E:Tl}{s:Shared}{a I:Addr}{m ep:Nat}{z:Nat->Tok}
theorem E7(h:Q (iM w) s):wpAny (model prog w) A setsByText Q E s:=by unfold setsByText;exact Qa (VA (Qd h))
theorem k1s(hT:s.TypeIs (.ref a) "set")(h:Q false s):wpAny (model prog w) A (Builtin.List.listLengthHint (.ref a)) Q E s:=by
 unfold Builtin.List.listLengthHint;refine Qa (J6 hT PySem.F.slot_set_len.lookup ?_);generalize uY:("set.__len__":String)=id0
 wp_delta
 rw[show splitId id0=some ("set","__len__")from by subst uY;decide +kernel];subst uY;refine Qa (Jb (T:="set") (b:=true) hT (by rw[Jv];kernel_rfl) ?_);refine wpAny_ite_split (λmq=>absurd mq (by decide)) (λ_=>?_);refine wpAny_ite_split (λ_=>?_) (λmq=>absurd (by decide +kernel) mq);refine Qa (Yj hT ?_);exact Qd h
end
section
variable {X:Cx}{Tk:List (Addr×Obj)}{σ:St}{H:Hp}{s:Shared}{a:Addr}{h1 h':Heap}{o:HO}{t':Nat}
theorem K4{P:Program}{w:World}{h:Heap}(x:d8 P w H h)(k:∀ b u,h.get? b=some u->h1.get? b=some u)(hp:h1.objs.size<=a):H a=none:=by
 cases q:H a with
 | none=>rfl
 | some u=>exact absurd (Qx ((x a u q).h_ (h':=h1) (H':=H) (λb u _ e=>k b u e) (λ_ e=>e) (λ_ _ e=>e)).lt hp) (QW _)
theorem k1v(I:Inv X Tk σ H s)(k1:∀ b u,s.heap.get? b=some u->h1.get? b=some u)(hp:h1.objs.size<=a)(k:∀ b u,s.heap.get? b=some u->h'.get? b=some u)(new:d7 X.prog X.w (upd H a o) h' a o) :
  Inv X Tk σ (upd H a o) { s with heap:=h',toks:=t' }:=by
 have hn:=K4 I.aP k1 hp;refine I.un ⟨λb u q _ _ _=>k b u q,λb u q _ _ _=>⟨u.slots,k b u q⟩,λb u q n _=>?_,λb u q _=>⟨u,k b u q⟩,λb xs q=>by rw[bV (ju q hn)];exact q,λb u xs q=>by rw[bV (ju q hn)];exact q,
  λb ps q=>⟨#[],by rw[bV (ju q hn),q];simp⟩⟩ λb u e=>?_
 .rw[bV (QS (Qx (Qq (k1 b u q)) hp))];exact n
 .by_cases hb:b=a
  .subst hb;rw[jh]at e;cases e;exact new
  .rw[bV hb]at e;exact(I.aP b u e).h_ (λc v _ q=>k c v q) (λc q=>by rw[bV (ju q hn)];exact q) λc xs q=>by rw[bV (ju q hn)];exact q
end
end L3
namespace L3
open PySem PySem.Spec PyProof.Rows L2
end L3
namespace L3
open PySem PySem.Spec PyProof.Rows PySem.W L2
end L3
namespace L3
open PySem PySem.Spec PyProof.Rows L2
end L3
namespace L3
open PySem PySem.Spec PyProof.Rows PySem.W L2
end L3
namespace L3
open PySem PySem.Spec PyProof.Rows L2
@[simp] def k40:List D->Option D
 | [.int i,.int j]=>some (.int (if j<i then j else i))
 | _=>none
@[simp] def u5:List D->Option D
 | [.int i]=>some (.int i)
 | [.bl k]=>some (.int (if k then 1 else 0))
 | _=>none
section
variable {X:Cx}{a:Expr}{es:List Expr}{g:cf}{p pos:Pos}
theorem B6(hm:X.mg "int" = none)(ha:gy X [a] g)(hb:bootBuiltins "int" = some (.type "int"):=by kernel_rfl)(hg:Gl X "int":=by rfl)(he:starEach [a] X.env=(false,eval a X.env)::starEach [] X.env:=by rfl)(cE:(backTo pos (starEach [] X.env)).any (·.1)=false:=by rfl):QD X (.Call (.Name "int" p) [a] [] pos) (eB u5 g):=⟨have ha:=ha.o;PE.imp (v7 SI hg hm hb ha (by decide) (by decide) he cE) (BM λds d h=>by
  unfold u5 at h;split at h;next i=>
   cases h;refine⟨_,rfl,λH w vs wl r Q hq=>?_⟩;obtain⟨v,rfl,r1⟩:=one r;exact .inl ⟨i,by rw[eV r1],hq⟩
  next k=>
   cases h;refine⟨_,rfl,λH w vs wl r Q hq=>?_⟩;obtain⟨v,rfl,r1⟩:=one r;exact .inr ⟨k,by rw[r1.inv.1],hq⟩
  .cases h)⟩
end
end L3
namespace L3
open PySem PySem.Spec PyProof.Rows PySem.W L2
theorem z8r{α β:Type}{f:α->β}{ps qs:List β}(h:ps.Perm qs):∀ {l:List α},qs=l.map f->∃ l':List α,l'.Perm l/\ps=l'.map f:=by
 induction h with
 | nil=>
  intro l e;have:=List.map_eq_nil_iff.mp e.symm;subst this;exact⟨[],.nil,rfl⟩
 | cons x _ ih=>
  intro l e;cases l with
  | nil=>cases e
  | cons a l=>
   rw[QM]at e;cases e;obtain⟨l',p,e'⟩:=ih rfl;exact⟨a::l',p.cons a,by rw[e'];rfl⟩
 | swap x y _=>
  intro l e
  match l,e with
  | [],e=>cases e
  | [a],e=>simp at e
  | a::b::l,e=>
   rw[QM,QM]at e;cases e;exact⟨b::a::l,.swap a b l,rfl⟩
 | trans _ _ qR qS=>
  intro l e;obtain⟨l2,p2,e2⟩:=qS e;obtain⟨l1,p1,e1⟩:=qR e2;exact⟨l1,p1.trans p2,e1⟩
end L3
namespace L3
open PySem PySem.SetTable
variable {hs:List Int}{i j mask n:Nat}{xs:Array Nat}
def Rs (xs:Array Nat):Prop:=∀ a b,a<b->b<xs.size->xs.getD a 0<xs.getD b 0
theorem K5(h:i<xs.size)(a b:Nat):xs.getD i a=xs.getD i b:=by unfold Array.getD;rw[VI h,VI h]
theorem E8(r:Rs xs)(j:Nat):∀ (fuel lo hi:Nat),hi-lo<=fuel->lo<=hi->hi<=xs.size->(∀ i,i<lo->xs.getD i 0<j)->(∀ i,hi<=i->i<xs.size->j<=xs.getD i 0)->
  below.go xs j fuel lo hi<=xs.size/\(∀ i,i<below.go xs j fuel lo hi->xs.getD i 0<j)/\(∀ i,below.go xs j fuel lo hi<=i->i<xs.size->j<=xs.getD i 0)
 | 0,lo,hi,hf,hl,hs,h1,h2=>by unfold below.go;exact⟨by omega,h1,λi a b=>h2 i (by omega) b⟩
 | fuel+1,lo,hi,hf,hl,hs,h1,h2=>by
  unfold below.go;by_cases c:lo<hi
  .rw[Qh c];have hm:(lo+hi) / 2<xs.size:=by omega
   by_cases d:xs.getD ((lo+hi) / 2) j<j
   .rw[Qh d];rw[K5 hm j 0]at d;refine E8 r j fuel _ hi (by omega) (by omega) hs (λi bW=>?_) h2;by_cases e:i=(lo+hi) / 2
    .rw[e];exact d
    .exact JR (r i _ (by omega) hm) d
   .rw[Ql d];rw[K5 hm j 0]at d;refine E8 r j fuel lo _ (by omega) (by omega) (by omega) h1 (λi a b=>?_);by_cases e:i=(lo+hi) / 2
    .rw[e];omega
    .have:=r ((lo+hi) / 2) i (by omega) b;omega
  .rw[Ql c];exact⟨by omega,h1,λi a b=>h2 i (by omega) b⟩
theorem u6(r:Rs xs)(j:Nat):below xs j<=xs.size/\(∀ i,i<below xs j->xs.getD i 0<j)/\(∀ i,below xs j<=i->i<xs.size->j<=xs.getD i 0):=
 E8 r j xs.size 0 xs.size (by omega) (by omega) (Qj _) (λ_ h=>absurd h (Ze _)) (λi a b=>by omega)
theorem z9e(r:Rs xs)(h:xs[i]? = some j):below xs j=i:=by
 obtain⟨a,b,c⟩:=u6 r j;have hi:i<xs.size:=(Jf.mp h).1;have e:xs.getD i 0=j:=by rw[QJ,h];rfl
 by_cases l:i<below xs j
 .have:=b i l;omega
 .by_cases l2:below xs j<i
  .have h1:=c (below xs j) (Qj _) (by omega);have h2:=r (below xs j) i l2 hi;omega
  .omega
theorem yY{t:SetTable}(r:Rs t.place)(h:t.place[i]? = some j):t.slot j=.live i:=by unfold SetTable.slot;rw[z9e r h];show(if(t.place[i]? == some j)=true then Slot.live i else _)=_;rw[h];simp
theorem z44{t:SetTable}(hd:t.dummies = #[])(h:∀ i:Nat,t.place[i]? ≠ some j):t.slot j=.empty:=by
 unfold SetTable.slot SetTable.has;rw[hd];have:(t.place[below t.place j]? == some j)=false:=by rw[ZW];exact h _
 simp[this]
theorem yZ{t:SetTable}(r:Rs t.place)(hd:t.dummies = #[])(j:Nat):(∃ i:Nat,t.place[i]? = some j/\t.slot j=.live i)\/((∀ i:Nat,t.place[i]? ≠ some j)/\t.slot j=.empty):=by
 by_cases h:∃ i:Nat,t.place[i]? = some j
 .obtain⟨i,e⟩:=h;exact .inl ⟨i,e,yY r e⟩
 .have h':∀ i:Nat,t.place[i]? ≠ some j:=λi e=>h ⟨i,e⟩;exact .inr ⟨h',z44 hd h'⟩
def mv (mask:Nat)(p:Probe):Probe:=if p.more > 0 then { p with j:=p.j+1,more:=p.more-1 }else { p with j:=(leap mask p.i p.perturb).1,more:=runEnd mask (leap mask p.i p.perturb).1-(leap mask p.i p.perturb).1,i:=(leap mask p.i p.perturb).1,perturb:=(leap mask p.i p.perturb).2 }
def cy (mask:Nat)(h:Int):Probe:={ j:=bits h % (mask+1),more:=runEnd mask (bits h % (mask+1))-bits h % (mask+1),i:=bits h % (mask+1),perturb:=bits h,dummy:=none }
def bJ (mask:Nat)(p:Probe):Nat->Probe
 | 0=>p
 | m+1=>bJ mask (mv mask p) m
theorem o5(mask:Nat):∀ (m k:Nat) (p:Probe),bJ mask p (m+k)=bJ mask (bJ mask p m) k
 | 0,k,p=>by rw[Yo];rfl
 | m+1,k,p=>by rw[Uh];exact o5 mask m k (mv mask p)
def lp (mask a pb:Nat):Probe:={ j:=a,more:=runEnd mask a-a,i:=a,perturb:=pb,dummy:=none }
theorem E9(mask:Nat):∀ (k:Nat) (p:Probe),k<=p.more->bJ mask p k={ p with j:=p.j+k,more:=p.more-k }
 | 0,p,_=>rfl
 | k+1,p,h=>by
  show bJ mask (mv mask p) k=_;have e:mv mask p={ p with j:=p.j+1,more:=p.more-1 }:=by unfold mv;rw[Qh (by omega)]
  rw[e,E9 mask k _ (by show k<=p.more-1;omega)];show({ p with j:=p.j+1+k,more:=p.more-1-k }:Probe)={ p with j:=p.j+(k+1),more:=p.more-(k+1) };congr 1
  .omega
  .omega
theorem j30(mask a:Nat):runEnd mask a-a<=9:=by unfold runEnd;split<;>omega
theorem K6(mask a pb:Nat):bJ mask (lp mask a pb) (runEnd mask a-a+1)=lp mask (leap mask a pb).1 (leap mask a pb).2:=by rw[o5,E9 mask (runEnd mask a-a) (lp mask a pb) (Qj _)];show mv mask { lp mask a pb with j:=a+(runEnd mask a-a),more:=runEnd mask a-a-(runEnd mask a-a) }=_;unfold mv;rw[Ql (by show ¬ runEnd mask a-a-(runEnd mask a-a) > 0;omega)];rfl
def lst (mask:Nat):Nat->Nat×Nat->Nat×Nat
 | 0,x=>x
 | s+1,x=>lst mask s (leap mask x.1 x.2)
theorem K7(mask:Nat):∀ (s:Nat) (x:Nat×Nat),∃ m,m<=10*s/\bJ mask (lp mask x.1 x.2) m=lp mask (lst mask s x).1 (lst mask s x).2
 | 0,x=>⟨0,Qj _,rfl⟩
 | s+1,x=>by obtain⟨m,hm,e⟩:=K7 mask s (leap mask x.1 x.2);have h:=j30 mask x.1;refine⟨runEnd mask x.1-x.1+1+m,by omega,?_⟩;rw[o5,K6];exact e
theorem K8(mask:Nat):∀ (s r:Nat) (x:Nat×Nat),lst mask (s+r) x=lst mask r (lst mask s x)
 | 0,r,x=>by rw[Yo];rfl
 | s+1,r,x=>by rw[Uh];exact K8 mask s r _
theorem K9(mask:Nat):∀ (s:Nat) (x:Nat×Nat),(lst mask s x).2=x.2 / 32 ^ s
 | 0,x=>by rw[Nat.pow_zero,Nat.div_one];rfl
 | s+1,x=>by show(lst mask s (leap mask x.1 x.2)).2=_;rw[K9 mask s,Nat.pow_succ'];show x.2 / 32 / 32 ^ s=_;rw[Nat.div_div_eq_div_mul]
theorem K_(mask:Nat):∀ (s:Nat) (x:Nat×Nat),x.1<=mask->(lst mask s x).1<=mask
 | 0,_,h=>h
 | s+1,x,_=>K_ mask s _ (by show(x.1*5+1+x.2 / 32) % (mask+1)<=mask;exact YT.mp (VH _ (JB mask)))
def qe (mask:Nat):Nat->Nat->Nat
 | 0,a=>a
 | s+1,a=>qe mask s ((a*5+1) % (mask+1))
theorem La(mask:Nat):∀ (s a:Nat),lst mask s (a,0)=(qe mask s a,0)
 | 0,_=>rfl
 | s+1,a=>by show lst mask s ((a*5+1+0 / 32) % (mask+1),0 / 32)=_;rw[Nat.zero_div,Nat.add_zero];exact La mask s _
theorem B7(mask:Nat):∀ (s r a:Nat),qe mask (s+r) a=qe mask r (qe mask s a)
 | 0,r,a=>by rw[Yo];rfl
 | s+1,r,a=>by rw[Uh];exact B7 mask s r _
def E_ (mask:Nat):Nat->Nat->List Nat
 | 0,_=>[]
 | s+1,a=>a::E_ mask s ((a*5+1) % (mask+1))
theorem Lb(mask:Nat):∀ (n a:Nat) {e:Nat},e∈E_ mask n a->∃ s,s<n/\qe mask s a=e
 | 0,_,_,h=>nomatch h
 | n+1,a,e,h=>by
  rcases Qm.mp h with rfl|h
  .exact⟨0,JB _,rfl⟩
  .obtain⟨s,hs,q⟩:=Lb mask n _ h;exact⟨s+1,Nat.succ_lt_succ hs,q⟩
structure Mk (mask:Nat):Prop where
 all:∀ e,e<=mask->∃ s,s<mask+1/\qe mask s 0=e
 back:qe mask (mask+1) 0=0
 odd:mask % 2=1
 pW:mask<=511
theorem Mk.of(mask:Nat)(o:mask % 2=1)(fw:mask<=511)(h:((range (mask+1)).all λe=>(E_ mask (mask+1) 0).contains e)=true)(b:qe mask (mask+1) 0=0):Mk mask:=
 ⟨λe he=>Lb mask _ 0 (by have:=ZG.mp h e (QA.mpr (by omega));exact List.contains_iff_mem.mp this),b,o,fw⟩
theorem Lc:Mk 7:=.of 7 rfl (by decide) (by decide +kernel) (by decide +kernel)
theorem k33:Mk 31:=.of 31 rfl (by decide) (by decide +kernel) (by decide +kernel)
theorem k17:Mk 127:=.of 127 rfl (by decide) (by decide +kernel) (by decide +kernel)
theorem k0r:Mk 511:=.of 511 rfl (by decide) (by decide +kernel) (by decide +kernel)
theorem Mk.any(k:Mk mask){a e:Nat}(ha:a<=mask)(he:e<=mask):∃ s,s<mask+1/\qe mask s a=e:=by
 obtain⟨s0,h0,e0⟩:=k.all a ha;obtain⟨s1,h1,e1⟩:=k.all e he;by_cases c:s0<=s1
 .refine⟨s1-s0,by omega,?_⟩;rw[<- e0,<- B7,show s0+(s1-s0)=s1 by omega];exact e1
 .refine⟨s1+(mask+1)-s0,by omega,?_⟩;rw[<- e0,<- B7,show s0+(s1+(mask+1)-s0)=(mask+1)+s1 by omega,B7,k.back];exact e1
theorem j3o(h:Int):bits h<2 ^ 64:=by unfold bits;omega
theorem Fb(k:Mk mask)(h:Int){e:Nat}(he:e<=mask):∃ m,m<10*turns mask/\(bJ mask (cy mask h) m).j=e/\∃ s,s<turns mask/\(lst mask s (bits h % (mask+1),bits h)).1=e:=by
 have h0:bits h % (mask+1)<=mask:=YT.mp (VH _ (JB mask));have z:(lst mask 13 (bits h % (mask+1),bits h)).2=0:=by rw[K9];exact Nat.div_eq_of_lt (Qx (j3o h) (by decide))
 have a13:=K_ mask 13 (bits h % (mask+1),bits h) h0;obtain⟨s,hs,es⟩:=k.any a13 he;have e1:lst mask (13+s) (bits h % (mask+1),bits h)=(e,0):=by
  rw[K8];have:lst mask 13 (bits h % (mask+1),bits h)=((lst mask 13 (bits h % (mask+1),bits h)).1,0):=by rw[<- z]
  rw[this,La,es]
 obtain⟨m,hm,em⟩:=K7 mask (13+s) (bits h % (mask+1),bits h);rw[e1]at em;refine⟨m,by unfold turns;omega,?_,13+s,by unfold turns;omega,by rw[e1]⟩;have:cy mask h=lp mask (bits h % (mask+1)) (bits h):=rfl;rw[this,em];rfl
theorem Ld(mask:Nat):∀ (m:Nat) (p:Probe),p.dummy=none->(bJ mask p m).dummy=none
 | 0,_,h=>h
 | m+1,p,h=>Ld mask m _ (by unfold mv;split<;>exact h)
theorem Le(t:SetTable)(hashAt:Nat->Int)(h:Int)(r:Rs t.place)(hd:t.dummies = #[]):∀ (fuel:Nat) (p:Probe),p.dummy=none->(∃ m,m<fuel/\t.slot (bJ t.mask p m).j=.empty)->
  ∃ m,m<fuel/\(∀ m',m'<m->∃ i,t.slot (bJ t.mask p m').j=.live i/\hashAt i≠h)/\((t.slot (bJ t.mask p m).j=.empty/\probe.go t hashAt h fuel p=some (.empty (bJ t.mask p m).j none))\/∃ i,t.slot (bJ t.mask p m).j=.live i/\hashAt i=h/\probe.go t hashAt h fuel p=some (.candidate (bJ t.mask p m).j i (bJ t.mask p (m+1))))
 | 0,_,_,⟨m,hm,_⟩=>absurd hm (Ze _)
 | fuel+1,p,hp,⟨M,hM,eM⟩=>by
  rcases yZ r hd p.j with⟨i,_,e⟩|⟨_,e⟩
  .by_cases c:hashAt i=h
   .refine⟨0,JB _,λ_ z=>absurd z (Ze _),.inr ⟨i,e,c,?_⟩⟩;show probe.go t hashAt h (fuel+1) p=some (.candidate p.j i (mv t.mask p));unfold probe.go;rw[e];show(if(hashAt i==h)=true then _ else _)=_;rw[Qh (by rw[c];exact Zz h)];rfl
   .have n0:M≠0:=λz=>by subst z;have:t.slot p.j=.empty:=eM;rw[e]at this;cases this
    obtain⟨M',rfl⟩:=YI n0;have nR:(mv t.mask p).dummy=none:=by unfold mv;split<;>exact hp
    obtain⟨m,hm,a,b⟩:=Le t hashAt h r hd fuel (mv t.mask p) nR ⟨M',by omega,eM⟩;have go:probe.go t hashAt h (fuel+1) p=probe.go t hashAt h fuel (mv t.mask p):=by
     conv=>lhs;unfold probe.go
     rw[e];show(if(hashAt i==h)=true then _ else _)=_;rw[Ql (by rw[ZV];exact c)];rfl
    refine⟨m+1,by omega,λm' fZ=>?_,?_⟩
    .match m' with
     | 0=>exact⟨i,e,c⟩
     | m'+1=>exact a m' (by omega)
    .rw[go];exact b
  .refine⟨0,JB _,λ_ z=>absurd z (Ze _),.inl ⟨e,?_⟩⟩;show probe.go t hashAt h (fuel+1) p=some (.empty p.j none);unfold probe.go;rw[e];show some (Met.empty p.j p.dummy)=_;rw[hp]
structure iq (t:SetTable) (hs:List Int):Prop where
 sz:t.place.size=hs.length
 rs:Rs t.place
 nd:t.dummies = #[]
 rd:Mk t.mask
 le:∀ (i j:Nat),t.place[i]? = some j->j<=t.mask
 room:hs.length<=t.mask
 y_:∀ (i j:Nat) (h:Int),t.place[i]? = some j->hs[i]? = some h->∃ m,m<10*turns t.mask/\(bJ t.mask (cy t.mask h) m).j=j/\∀ m',m'<m->∃ i',t.slot (bJ t.mask (cy t.mask h) m').j=.live i'
theorem Fc:∀ {l l':List Nat},l.Nodup->(∀ x∈l,x∈l')->l.length<=l'.length
 | [],_,_,_=>Q1 _
 | a::l,l',nd,h=>by
  have ha:=h a Qg;have i:=Fc (l:=l) (l':=l'.erase a) (Q3.mp nd).2 λx hx=>by have ne:x≠a:=λz=>(Q3.mp nd).1 (z ▸ hx);exact(YJ ne).mpr (h x (Qf _ hx))
  rw[JZ ha]at i;have:0<l'.length:=Yp ha;show l.length+1<=l'.length;omega
section
variable {t:SetTable}{hs:List Int}(T:iq t hs)
include T
theorem iq.hole:∃ e,e<=t.mask/\t.slot e=.empty:=by
 by_cases h:∃ e,e<=t.mask/\t.slot e=.empty
 .exact h
 .have all:∀ e∈range (t.mask+1),e∈t.place.toList:=λe he=>by
   have Fd:=QA.mp he;rcases yZ T.rs T.nd e with⟨i,a,_⟩|⟨_,a⟩
   .obtain⟨hi,q⟩:=Jf.mp a;rw[<- q];exact YG.mpr (Vk hi)
   .exact absurd ⟨e,by omega,a⟩ h
  have:=Fc YC all;rw[QK,QG,T.sz]at this;have:=T.room;omega
theorem iq.met(h:Int):∃ m,m<10*turns t.mask/\t.slot (bJ t.mask (cy t.mask h) m).j=.empty/\∀ m',m'<m->∃ i,t.slot (bJ t.mask (cy t.mask h) m').j=.live i:=by
 obtain⟨e,he,q⟩:=T.hole;obtain⟨M,hM,eM,_⟩:=Fb T.rd h he;have ex:∃ m,t.slot (bJ t.mask (cy t.mask h) m).j=.empty:=⟨M,by rw[eM];exact q⟩;have key:∀ k,(∃ m,m<k/\t.slot (bJ t.mask (cy t.mask h) m).j=.empty)->∃ m,m<k/\t.slot (bJ t.mask (cy t.mask h) m).j=.empty/\∀ m',m'<m->t.slot (bJ t.mask (cy t.mask h) m').j ≠ .empty:=by
  intro k;induction k with
  | zero=>exact λ⟨m,hm,_⟩=>absurd hm (Ze _)
  | succ k ih=>
   intro ⟨m,hm,em⟩;by_cases c:∃ m,m<k/\t.slot (bJ t.mask (cy t.mask h) m).j=.empty
   .obtain⟨m',a,b⟩:=ih c;exact⟨m',by omega,b⟩
   .exact⟨m,hm,em,λm' fZ z=>c ⟨m',by omega,z⟩⟩
 obtain⟨m,hm,em,bm⟩:=key (10*turns t.mask) ⟨M,hM,by rw[eM];exact q⟩;refine⟨m,hm,em,λm' fZ=>?_⟩;rcases yZ T.rs T.nd (bJ t.mask (cy t.mask h) m').j with⟨i,_,a⟩|⟨_,a⟩
 .exact⟨i,a⟩
 .exact absurd a (bm m' fZ)
end
theorem v5{α:Type}(xs:Array α)(p:Nat)(x:α)(hp:p<=xs.size)(i:Nat):(insertAt xs p x)[i]? = if i<p then xs[i]? else if i=p then some x else xs[i-1]?:=by
 have e:(insertAt xs p x).toList=xs.toList.take p++x::xs.toList.drop p:=by unfold insertAt;simp;exact Yq (by rw[ZZ,QG];exact Qj _)
 rw[<- Zs,e];by_cases h1:i<p
 .rw[Qh h1,QU (by rw[Zg,QG];omega),Z2 h1,Zs]
 .rw[Ql h1,Zk (by rw[Zg,QG];omega),Zg,QG,Nat.min_eq_left hp];by_cases h2:i=p
  .rw[Qh h2,h2,VJ];rfl
  .rw[Ql h2];obtain⟨k,rfl⟩:∃ k,i=p+k+1:=⟨i-p-1,by omega⟩;rw[show p+k+1-p=k+1 by omega,Zl,List.getElem?_drop,Zs];rfl
theorem Lf{α:Type}(xs:Array α)(p:Nat)(x:α)(hp:p<=xs.size):(insertAt xs p x).size=xs.size+1:=by unfold insertAt;simp;omega
theorem Fe(h:xs[i]? = some j):xs.getD i 0=j:=by rw[QJ,h];rfl
theorem B8(h:i<xs.size):xs[i]? = some (xs.getD i 0):=by unfold Array.getD;rw[VI h];exact ZH h
theorem j7h(r:Rs xs)(hj:∀ i:Nat,xs[i]? ≠ some j):Rs (insertAt xs (below xs j) j):=by
 obtain⟨a,b,c⟩:=u6 r j;have sz:=Lf xs (below xs j) j a;have g:∀ i,i<xs.size+1->(insertAt xs (below xs j) j).getD i 0=if i<below xs j then xs.getD i 0 else if i=below xs j then j else xs.getD (i-1) 0:=λi hi=>by
  refine Fe ?_;rw[v5 xs _ j a];by_cases h1:i<below xs j
  .rw[Qh h1,Qh h1];exact B8 (by omega)
  .rw[Ql h1,Ql h1];by_cases h2:i=below xs j
   .rw[Qh h2,Qh h2]
   .rw[Ql h2,Ql h2];exact B8 (by omega)
 have c':∀ i,below xs j<=i->i<xs.size->j<xs.getD i 0:=λi h1 h2=>by have:=c i h1 h2;have ne:xs.getD i 0≠j:=λz=>hj i (by rw[B8 h2,z]);omega
 intro x y mx hy;rw[sz]at hy;rw[g x (by omega),g y hy];by_cases h1:y<below xs j
 .rw[Qh (by omega),Qh h1];exact r x y mx (by omega)
 .rw[Ql h1];by_cases h2:y=below xs j
  .rw[Qh h2,Qh (by omega)];exact b x (by omega)
  .rw[Ql h2];by_cases h3:x<below xs j
   .rw[Qh h3];have:=b x h3;have:=c' (y-1) (by omega) (by omega);omega
   .rw[Ql h3];by_cases h4:x=below xs j
    .rw[Qh h4];exact c' (y-1) (by omega) (by omega)
    .rw[Ql h4];exact r (x-1) (y-1) (by omega) (by omega)
def jb {α:Type}(l:List α)(p:Nat)(x:α):List α:=l.take p++x::l.drop p
theorem Ff{α:Type}(l:List α)(p:Nat)(x:α)(hp:p<=l.length)(i:Nat):(jb l p x)[i]? = if i<p then l[i]? else if i=p then some x else l[i-1]?:=by
 unfold jb;by_cases h1:i<p
 .rw[Qh h1,QU (by rw[Zg];omega),Z2 h1]
 .rw[Ql h1,Zk (by rw[Zg];omega),Zg,Nat.min_eq_left hp];by_cases h2:i=p
  .rw[Qh h2,h2,VJ];rfl
  .rw[Ql h2];obtain⟨k,rfl⟩:∃ k,i=p+k+1:=⟨i-p-1,by omega⟩;rw[show p+k+1-p=k+1 by omega,Zl,List.getElem?_drop];rfl
theorem u7{α:Type}(l:List α)(p:Nat)(x:α):(jb l p x).length=l.length+1:=by unfold jb;rw[Qk,QB,Zg,ZZ];omega
theorem iq.put{t:SetTable}(T:iq t hs){h:Int}{m:Nat}(hm:m<10*turns t.mask)(em:t.slot (bJ t.mask (cy t.mask h) m).j=.empty)(bm:∀ m',m'<m->∃ i,t.slot (bJ t.mask (cy t.mask h) m').j=.live i)(hj:(bJ t.mask (cy t.mask h) m).j<=t.mask)(hr:hs.length+1<=t.mask) :
  (t.put (bJ t.mask (cy t.mask h) m).j).2<=hs.length/\(t.put (bJ t.mask (cy t.mask h) m).j).1.mask=t.mask/\iq (t.put (bJ t.mask (cy t.mask h) m).j).1 (jb hs (t.put (bJ t.mask (cy t.mask h) m).j).2 h):=by
 generalize hjj:(bJ t.mask (cy t.mask h) m).j=j at *
 have ne:∀ i:Nat,t.place[i]? ≠ some j:=λi e=>by rw[yY T.rs e]at em;cases em
 have pe:t.put j=({ t with place:=insertAt t.place (below t.place j) j,dummies:=#[] },below t.place j):=by unfold SetTable.put SetTable.has;rw[T.nd];simp
 rw[pe];obtain⟨a,b,c⟩:=u6 T.rs j;have sz:=T.sz;have BP:Rs (insertAt t.place (below t.place j) j):=j7h T.rs ne;have lv:∀ (k i:Nat),t.slot k=.live i->∃ i',({ t with place:=insertAt t.place (below t.place j) j,dummies:=#[] }:SetTable).slot k=.live i':=λk i e=>by
  rcases yZ T.rs T.nd k with⟨i',e',_⟩|⟨_,e'⟩
  .refine⟨if i'<below t.place j then i' else i'+1,yY BP ?_⟩;show(insertAt t.place (below t.place j) j)[_]? = some k;rw[v5 t.place _ j a];by_cases h1:i'<below t.place j
   .rw[Qh h1,Qh h1];exact e'
   .rw[Ql h1,Ql (by omega),Ql (by omega)];exact e'
  .rw[e]at e';cases e'
 refine⟨by show below t.place j<=hs.length;omega,rfl,?_⟩;refine⟨by show(insertAt t.place (below t.place j) j).size=_;rw[Lf _ _ _ a,u7];omega,BP,rfl,T.rd,λi k e=>?_,by rw[u7];exact hr,λi k h' e eh=>?_⟩
 .have e':(insertAt t.place (below t.place j) j)[i]? = some k:=e;rw[v5 t.place _ j a]at e';by_cases h1:i<below t.place j
  .rw[Qh h1]at e';exact T.le i k e'
  .rw[Ql h1]at e';by_cases h2:i=below t.place j
   .rw[Qh h2]at e';cases e';exact hj
   .rw[Ql h2]at e';exact T.le _ k e'
 .have e':(insertAt t.place (below t.place j) j)[i]? = some k:=e;have tz:(jb hs (below t.place j) h)[i]? = some h':=eh;rw[v5 t.place _ j a]at e';rw[Ff hs _ h (by omega)]at tz;have old:∀ i0,t.place[i0]? = some k->hs[i0]? = some h'->∃ m,m<10*turns t.mask/\(bJ t.mask (cy t.mask h') m).j=k/\∀ m',m'<m->∃ i',({ t with place:=insertAt t.place (below t.place j) j,dummies:=#[] }:SetTable).slot (bJ t.mask (cy t.mask h') m').j=.live i':=λi0 x y=>by obtain⟨m0,q1,q2,q3⟩:=T.y_ i0 k h' x y;refine⟨m0,q1,q2,λm' fZ=>?_⟩;obtain⟨i',q⟩:=q3 m' fZ;exact lv _ _ q
  by_cases h1:i<below t.place j
  .rw[Qh h1]at e' tz;exact old _ e' tz
  .rw[Ql h1]at e' tz;by_cases h2:i=below t.place j
   .rw[Qh h2]at e' tz;cases e';cases tz;refine⟨m,hm,hjj,λm' fZ=>?_⟩;obtain⟨i',q⟩:=bm m' fZ;exact lv _ _ q
   .rw[Ql h2]at e' tz;exact old _ e' tz
theorem za(mask:Nat)(h:Int)(m:Nat):(bJ mask (cy mask h) m).j<=mask:=by
 have key:∀ (m:Nat) (p:Probe),p.j+p.more<=mask->(bJ mask p m).j<=mask:=by
  intro m;induction m with
  | zero=>intro p hp;show p.j<=mask;omega
  | succ m ih=>
   intro p hp;refine ih _ ?_;unfold mv;split
   .show p.j+1+(p.more-1)<=mask;omega
   .show(leap mask p.i p.perturb).1+(runEnd mask (leap mask p.i p.perturb).1-(leap mask p.i p.perturb).1)<=mask;have:(leap mask p.i p.perturb).1<=mask:=YT.mp (VH _ (JB mask));unfold runEnd;split<;>omega
 refine key m _ ?_;show bits h % (mask+1)+(runEnd mask (bits h % (mask+1))-bits h % (mask+1))<=mask;have:bits h % (mask+1)<=mask:=YT.mp (VH _ (JB mask));unfold runEnd;split<;>omega
theorem iq.fresh(finger moves:Nat)(led:Bool):iq (.fresh finger moves led) []:=
 ⟨rfl,λa b _ h=>absurd h (Ze _),rfl,Lc,λi j e=>by
   have:(#[]:Array Nat)[i]? = some j:=e;simp at this,Q1 _,λi j h e _=>by have:(#[]:Array Nat)[i]? = some j:=e;simp at this⟩
abbrev n8:=Array (Option Nat)
def lF (ow:n8)(j:Nat):Bool:=(ow.getD j (some 0)).isNone
theorem z3q{p:Nat->Bool}:(∃ k,k<n/\(range n).find? p=some k/\p k=true/\∀ k',k'<k->p k'=false)\/((range n).find? p=none/\∀ k',k'<n->p k'=false):=by
 cases h:(range n).find? p with
 | none=>exact .inr ⟨rfl,λk' hk=>by have:=List.find?_eq_none.mp h k' (QA.mpr hk);simpa using this⟩
 | some k=>
  rw[List.find?_range_eq_some]at h;refine .inl ⟨k,QA.mp h.2.1,rfl,h.1,λk' sW=>?_⟩;have:=h.2.2 k' sW;simpa using this
theorem Lg(mask:Nat)(ow:n8):∀ (fuel:Nat) (x:Nat×Nat),(∃ s,s<fuel/\lF ow (lst mask s x).1=true)->∃ m,layClean.free mask ow fuel x.1 x.2=some (bJ mask (lp mask x.1 x.2) m).j/\lF ow (bJ mask (lp mask x.1 x.2) m).j=true/\∀ m',m'<m->lF ow (bJ mask (lp mask x.1 x.2) m').j=false
 | 0,_,⟨s,hs,_⟩=>absurd hs (Ze _)
 | fuel+1,x,⟨s,hs,es⟩=>by
  have run:∀ k,k<=runEnd mask x.1-x.1->(bJ mask (lp mask x.1 x.2) k).j=x.1+k:=λk hk=>by rw[E9 mask k _ hk];rfl
  have ge:x.1<=runEnd mask x.1:=by unfold runEnd;split<;>omega
  rcases z3q (n:=runEnd mask x.1+1-x.1) (p:=λk=>(ow.getD (x.1+k) (some 0)).isNone)with⟨k,hk,e,pk,bk⟩|⟨e,bk⟩
  .refine⟨k,?_,?_,λm' fZ=>?_⟩
   .unfold layClean.free;rw[e,run k (by omega)]
   .rw[run k (by omega)];exact pk
   .rw[run m' (by omega)];exact bk m' fZ
  .have s0:s≠0:=λz=>by subst z;have h1:(ow.getD (x.1+0) (some 0)).isNone=false:=bk 0 (by omega);have h2:(ow.getD x.1 (some 0)).isNone=true:=es;rw[Nat.add_zero,h2]at h1;cases h1
   obtain⟨s',rfl⟩:=YI s0;obtain⟨m,a,b,c⟩:=Lg mask ow fuel (leap mask x.1 x.2) ⟨s',by omega,es⟩;have go:∀ m,bJ mask (lp mask x.1 x.2) (runEnd mask x.1-x.1+1+m)=bJ mask (lp mask (leap mask x.1 x.2).1 (leap mask x.1 x.2).2) m:=λm=>by rw[o5,K6]
   refine⟨runEnd mask x.1-x.1+1+m,?_,?_,λm' fZ=>?_⟩
   .rw[go,<- a]
    conv=>lhs;unfold layClean.free
    rw[e]
   .rw[go];exact b
   .by_cases h1:m'<=runEnd mask x.1-x.1
    .rw[run m' h1];exact bk m' (by omega)
    .obtain⟨q,rfl⟩:∃ q,m'=runEnd mask x.1-x.1+1+q:=⟨m'-(runEnd mask x.1-x.1+1),by omega⟩;rw[go];exact c q (by omega)
def gV (mask:Nat)(ow:n8):List (Nat×Nat):=(range (mask+1)).filterMap λj=>(ow.getD j none).map (j,·)
theorem Fg{α β:Type}{f g:α->Option β}:∀ {l:List α},(∀ x∈l,g x=f x)->l.filterMap g=l.filterMap f
 | [],_=>rfl
 | x::l,h=>by rw[Js,Js,h x Qg,Fg λy hy=>h y (Qf _ hy)]
theorem Lh{α β:Type}[DecidableEq α]{f g:α->Option β}{a:α}{b:β}(hf:f a=none)(hg:g a=some b):∀ {l:List α},l.Nodup->a∈l->(∀ x∈l,x≠a->g x=f x)->(l.filterMap g).Perm (b::l.filterMap f)
 | [],_,h,_=>nomatch h
 | x::l,nd,h,e=>by
  by_cases c:x=a
  .subst c;have same:l.filterMap g=l.filterMap f:=Fg λy hy=>e y (Qf _ hy) λz=>(Q3.mp nd).1 (z ▸ hy);rw[Jr hg,J0 hf,same]
  .have ha:a∈l:=by
    rcases Qm.mp h with z|z
    .exact absurd z.symm c
    .exact z
   have ih:=Lh hf hg (Q3.mp nd).2 ha λy hy=>e y (Qf _ hy);have ex:=e x Qg c;cases q:f x with
   | none=>
    rw[q]at ex;rw[J0 ex,J0 q];exact ih
   | some y=>
    rw[q]at ex;rw[Jr ex,Jr q];exact(ih.cons y).trans (List.Perm.swap b y _)
structure jB (mask:Nat) (hs:List Int) (ow:n8) (js:List Nat):Prop where
 sz:ow.size=mask+1
 pm:(gV mask ow).Perm js.zipIdx
 y_:∀ j k,j<=mask->ow.getD j none=some k->∃ h m,hs[k]? = some h/\m<10*turns mask/\(bJ mask (cy mask h) m).j=j/\∀ m',m'<m->lF ow (bJ mask (cy mask h) m').j=false
theorem zb{ow:n8}(h:j<ow.size):lF ow j=(ow.getD j none).isNone:=by unfold lF Array.getD;rw[VI h,VI h]
theorem B9{ow:n8}{k:Nat}:(j,k)∈gV mask ow ↔ j<=mask/\ow.getD j none=some k:=by
 unfold gV;rw[J9];constructor
 .rintro ⟨x,hx,e⟩;rw[Zf]at e;obtain⟨y,a,b⟩:=e;cases b;exact⟨by have:=QA.mp hx;omega,a⟩
 .rintro ⟨a,b⟩;exact⟨j,QA.mpr (by omega),by rw[b];rfl⟩
theorem z9l{ow:n8}(sz:ow.size=mask+1)(h:(gV mask ow).length<=mask):∃ e,e<=mask/\lF ow e=true:=by
 by_cases c:∃ e,e<=mask/\lF ow e=true
 .exact c
 .have all:∀ e∈range (mask+1),e∈(gV mask ow).map (·.1):=λe he=>by
   have Fd:=QA.mp he;cases q:ow.getD e none with
   | none=>exact absurd ⟨e,by omega,by rw[zb (by omega),q];rfl⟩ c
   | some k=>exact Qo.mpr ⟨(e,k),B9.mpr ⟨by omega,q⟩,rfl⟩
  have:=Fc YC all;rw[QK,Qb]at this;omega
theorem jB.add(K:Mk mask){ow:n8}{js:List Nat}(O:jB mask hs ow js)(h:Int)(hh:hs[js.length]? = some h)(room:js.length<=mask) :
  ∃ j,layClean.free mask ow (turns mask) (bits h % (mask+1)) (bits h)=some j/\jB mask hs (ow.setIfInBounds j (some js.length)) (js++[j]):=by
 have len:(gV mask ow).length=js.length:=by rw[O.pm.length_eq,List.length_zipIdx]
 obtain⟨e,he,q⟩:=z9l O.sz (by omega);obtain⟨_,_,_,s,uC,es⟩:=Fb K h he;obtain⟨m,a,b,c⟩:=Lg mask ow (turns mask) (bits h % (mask+1),bits h) ⟨s,uC,by rw[es];exact q⟩;have a':layClean.free mask ow (turns mask) (bits h % (mask+1)) (bits h)=some (bJ mask (cy mask h) m).j:=a;have b':lF ow (bJ mask (cy mask h) m).j=true:=b;have c':∀ m',m'<m->lF ow (bJ mask (cy mask h) m').j=false:=c;have hm:m<10*turns mask:=by
  obtain⟨M,hM,eM,_⟩:=Fb K h he;by_cases z:m<10*turns mask
  .exact z
  .have:=c' M (by omega);rw[eM,q]at this;cases this
 have jl:=za mask h m;refine⟨(bJ mask (cy mask h) m).j,a',?_⟩;generalize hj:(bJ mask (cy mask h) m).j=j at *
 have sz:=O.sz;have get:∀ x,(ow.setIfInBounds j (some js.length)).getD x none=if x=j then some js.length else ow.getD x none:=λx=>by
  rw[QJ,QJ,Array.getElem?_setIfInBounds];by_cases z:x=j
  .subst z;rw[Qh rfl,Qh (by omega),Qh rfl];rfl
  .rw[Ql λy=>z y.symm,Ql z]
 have jn:ow.getD j none=none:=by have:=b';rw[zb (by omega)]at this;exact Option.isNone_iff_eq_none.mp this
 have hl:∀ x,x<=mask->lF ow x=false->lF (ow.setIfInBounds j (some js.length)) x=false:=λx hx y=>by
  rw[zb (by omega)]at y;rw[zb (by rw[Vr];omega),get];by_cases z:x=j
  .rw[Qh z];rfl
  .rw[Ql z];exact y
 refine⟨by rw[Vr];exact sz,?_,λx k hx e=>?_⟩
 .have p1:(gV mask (ow.setIfInBounds j (some js.length))).Perm ((j,js.length)::gV mask ow):=Lh (a:=j) (by rw[jn];rfl) (by rw[get,Qh rfl];rfl) YC (QA.mpr (by omega)) λx _ z=>by rw[get,Ql z]
  have e:(js++[j]).zipIdx=js.zipIdx++[(j,js.length)]:=by rw[List.zipIdx_append];simp
  rw[e];exact p1.trans ((O.pm.cons _).trans (List.perm_append_singleton _ _).symm)
 .rw[get]at e;by_cases z:x=j
  .rw[Qh z]at e;cases e;subst z;exact⟨h,m,hh,hm,hj,λm' fZ=>hl _ (za mask h m') (c' m' fZ)⟩
  .rw[Ql z]at e;obtain⟨h',m0,q1,q2,q3,q4⟩:=O.y_ x k hx e;exact⟨h',m0,q1,q2,q3,λm' fZ=>hl _ (za mask h' m') (q4 m' fZ)⟩
theorem jB.start(mask:Nat)(hs:List Int):jB mask hs (Array.replicate (mask+1) none) []:=by
 have g:∀ j,(Array.replicate (mask+1) (none:Option Nat)).getD j none=none:=λj=>by rw[QJ,Array.getElem?_replicate];split<;>rfl
 refine⟨Array.size_replicate,?_,λj k _ e=>by rw[g]at e;cases e⟩;have:gV mask (Array.replicate (mask+1) none)=[]:=by unfold gV;exact List.filterMap_eq_nil_iff.mpr λj _=>by rw[g];rfl
 rw[this];exact List.Perm.nil
theorem j6q(K:Mk mask)(hs:List Int)(room:hs.length<=mask):∃ ow js,layClean mask hs.toArray=some ow/\js.length=hs.length/\jB mask hs ow js:=by
 have key:∀ (r:List Int) (ow:n8) (js:List Nat),jB mask hs ow js->(∀ i h,r[i]? = some h->hs[js.length+i]? = some h)->js.length+r.length<=mask->
   ∃ B_ zc,r.foldl (λ(acc:Option (n8×Nat)) h=>(do
    let (owner,k) <- acc
    let j <- layClean.free mask owner (turns mask) (bits h % (mask+1)) (bits h)
    pure (owner.setIfInBounds j (some k),k+1))) (some (ow,js.length))=some (B_,zc.length)/\zc.length=js.length+r.length/\jB mask hs B_ zc:=by
  intro r;induction r with
  | nil=>intro ow js O _ _;exact⟨ow,js,rfl,rfl,O⟩
  | cons h r ih=>
   intro ow js O e len;rw[QB]at len;obtain⟨j,ej,O'⟩:=O.add K h (e 0 h rfl) (by omega);obtain⟨B_,zc,e1,e2,e3⟩:=ih _ (js++[j]) O' (λi x hx=>by have:=e (i+1) x (by rw[Zl];exact hx);rw[Qk];show hs[js.length+1+i]? = some x;rw[show js.length+1+i=js.length+(i+1)by omega];exact this) (by rw[Qk];show js.length+1+r.length<=mask;omega)
   refine⟨B_,zc,?_,by rw[e2,Qk];show js.length+1+r.length=js.length+(r.length+1);omega,e3⟩;rw[List.foldl_cons];have:(do
    let (owner,k) <- some (ow,js.length)
    let j <- layClean.free mask owner (turns mask) (bits h % (mask+1)) (bits h)
    pure (owner.setIfInBounds j (some k),k+1):Option (n8×Nat))=some (ow.setIfInBounds j (some js.length),(js++[j]).length):=by show(layClean.free mask ow (turns mask) (bits h % (mask+1)) (bits h)).bind _=_;rw[ej,Qk];rfl
   rw[this];exact e1
 obtain⟨ow,js,e1,e2,e3⟩:=key hs _ [] (jB.start mask hs) (λi h e=>by rw[Jk,Yo];exact e) (by rw[Jk,Yo];exact room);refine⟨ow,js,?_,by rw[e2,Jk,Yo],e3⟩;unfold layClean;rw[List.foldl_toArray];have Li:=e1;rw[Jk]at Li;rw[Li];rfl
theorem j8g(mask:Nat)(ow:n8):(gV mask ow).Pairwise λa b=>a.1<b.1:=by unfold gV;refine List.Pairwise.filterMap _ (λa a' h b hb b' my=>?_) List.pairwise_lt_range;have e1:(ow.getD a none).map (a,·)=some b:=hb;have e2:(ow.getD a' none).map (a',·)=some b':=my;obtain⟨_,_,rfl⟩:=Zf.mp e1;obtain⟨_,_,rfl⟩:=Zf.mp e2;exact h
theorem j2i(K:Mk mask)(hs:List Int)(room:hs.length<=mask)(finger moves:Nat)(led plain:Bool):∃ (pl od:List Nat),laid mask finger moves led plain hs.toArray=some ({ mask,place:=pl.toArray,dummies:=#[],finger,led,moves,plain },od.toArray)/\od.Perm (range hs.length) /\
  iq { mask,place:=pl.toArray,dummies:=#[],finger,led,moves,plain } (od.map λk=>hs.getD k 0):=by
 obtain⟨ow,js,e,hl,O⟩:=j6q K hs room;have up:=j8g mask ow;have len:(gV mask ow).length=hs.length:=by rw[O.pm.length_eq,List.length_zipIdx,hl]
 refine⟨(gV mask ow).map (·.1),(gV mask ow).map (·.2),?_,?_,?_⟩
 .unfold laid;rw[e];rfl
 .have:=O.pm.map (·.2);rw[List.zipIdx_map_snd,hl,<- V5]at this;exact this
 .have get:∀ (i j:Nat),((gV mask ow).map (·.1)).toArray[i]? = some j->∃ k,(gV mask ow)[i]? = some (j,k):=λi j h=>by rw[Ji,Qp,Zf]at h;obtain⟨⟨a,b⟩,h1,h2⟩:=h;exact⟨b,by rw[h1];cases h2;rfl⟩
  have rs:Rs ((gV mask ow).map (·.1)).toArray:=λa b mq hb=>by
   rw[Qn,Qb]at hb;have h1:((gV mask ow).map (·.1)).toArray[a]? = some ((gV mask ow)[a]'(by omega)).1:=by rw[Ji,Qp,Qc (by omega)];rfl
   have h2:((gV mask ow).map (·.1)).toArray[b]? = some ((gV mask ow)[b]'hb).1:=by rw[Ji,Qp,Qc hb];rfl
   rw[Fe h1,Fe h2];exact JU.mp up a b (by omega) hb mq
  have mem:∀ {i:Nat} {x:Nat×Nat},(gV mask ow)[i]? = some x->x∈gV mask ow:=λh=>by obtain⟨hi,q⟩:=Qy.mp h;rw[<- q];exact Q7 hi
  refine⟨?_,rs,rfl,K,λi j h=>?_,?_,λi j h hp hh=>?_⟩
  .show((gV mask ow).map (·.1)).toArray.size=_;rw[Qn,Qb,Qb,Qb]
  .obtain⟨k,q⟩:=get i j h;exact(B9.mp (mem q)).1
  .rw[Qb,Qb,len];exact room
  .obtain⟨k,q⟩:=get i j hp;rw[Qp,Qp,q]at hh;have hh':hs.getD k 0=h:=by cases hh;rfl
   obtain⟨jm,ek⟩:=B9.mp (mem q);obtain⟨h',m,q1,q2,q3,q4⟩:=O.y_ j k jm ek;have:h'=h:=by rw[<- hh',Qi,q1];rfl
   subst this;refine⟨m,q2,q3,λm' fZ=>?_⟩;have u9:=q4 m' fZ;have Ca:=za mask h' m';rw[zb (by rw[O.sz];omega)]at u9;cases c:ow.getD (bJ mask (cy mask h') m').j none with
   | none=>rw[c]at u9;cases u9
   | some k'=>
    have mm:=B9.mpr ⟨Ca,c⟩;obtain⟨i',bW,qi⟩:=Z8 mm;refine⟨i',yY rs ?_⟩;show((gV mask ow).map (·.1)).toArray[i']? = some _;rw[Ji,Qp,Qc bW,qi];rfl
theorem Lj:∀ n,n<512->(sizeAbove n-1=7/\n<8)\/(sizeAbove n-1=15/\8<=n/\n<16)\/(sizeAbove n-1=31/\16<=n/\n<32)\/(sizeAbove n-1=63/\32<=n/\n<64)\/(sizeAbove n-1=127/\64<=n/\n<128)\/(sizeAbove n-1=255/\128<=n/\n<256)\/(sizeAbove n-1=511/\256<=n/\n<512):=by decide +kernel
theorem k3m:Mk 15:=.of 15 rfl (by decide) (by decide +kernel) (by decide +kernel)
theorem k3e:Mk 63:=.of 63 rfl (by decide) (by decide +kernel) (by decide +kernel)
theorem k18:Mk 255:=.of 255 rfl (by decide) (by decide +kernel) (by decide +kernel)
theorem Lk(h:n<512):Mk (sizeAbove n-1)/\n<=sizeAbove n-1:=by
 rcases Lj n h with⟨e,a⟩|⟨e,_,a⟩|⟨e,_,a⟩|⟨e,_,a⟩|⟨e,_,a⟩|⟨e,_,a⟩|⟨e,_,a⟩<;>rw[e]
 .exact⟨Lc,by omega⟩
 .exact⟨k3m,by omega⟩
 .exact⟨k33,by omega⟩
 .exact⟨k3e,by omega⟩
 .exact⟨k17,by omega⟩
 .exact⟨k18,by omega⟩
 .exact⟨k0r,by omega⟩
end L3
namespace L3
open PySem PySem.W PyProof.Rows
variable {Q:Bool->Shared->Prop}{a b:Addr}{items:Array Value}{m n:Nat}{o:Obj}{v:Value}{vs:List Value}
abbrev It:=Nat ⊕ List Nat
abbrev Ky:=List It
instance:LawfulBEq It where
 rfl:=λ{x}=>match x with
  | .inl a=>show(a==a)=true from Zz a
  | .inr a=>show(a==a)=true from Zz a
 eq_of_beq:=λ{x y}=>match x,y with
  | .inl a,.inl b=>λh=>Zy _ (eq_of_beq (show(a==b)=true from h))
  | .inr a,.inr b=>λh=>Zy _ (eq_of_beq (show(a==b)=true from h))
  | .inl _,.inr _=>λh=>nomatch h
  | .inr _,.inl _=>λh=>nomatch h
abbrev kQ (l:List Nat):List Int:=l.map Int.ofNat
def sh:It->Nat:=Sum.elim (λ_=>0) λl=>l.length+1
section
variable (prog:Program)(w:World)
def n9 (h:Heap)(k:It)(v:Value):Prop:=(∃ n t,k=.inl n/\v=.int (Int.ofNat n) t)\/∃ l c,k=.inr l/\v=.ref c/\IsTupleKey (intKind prog w) h (kQ l) c
inductive jk (h:Heap):Ky->List Value->Prop
 | nil:jk h [] []
 | cons {k:It} {v:Value} {ks:Ky} {vs:List Value}:n9 prog w h k v->jk h ks vs->jk h (k::ks) (v::vs)
def eI (σ:List Nat)(h:Heap)(k:Ky)(a:Addr):Prop:=∃ o items n,h.get? a=some o/\o.cls=.type "tuple" /\ o.data=.seq items n/\jk prog w h k items.toList/\k.map sh=σ
def u_:It->Int:=Sum.elim (λn=>hashInt (Int.ofNat n)) λl=>tupleKeyHash (intKind prog w) (kQ l)
def dM (k:Ky):Int:=reduceHash (Builtin.Tuple.tupleHashOf (k.map (u_ prog w)))
end
section
variable {prog:Program}{w:World}{A:Around}{E:Tl}{s:Shared}{σ:List Nat}{h h':Heap}
def tB (h h':Heap):Prop:=∀ b o vs n,h.get? b=some o->o.cls=.type "tuple"->o.data=.seq vs n->h'.get? b=some o
theorem Ll{x y:List Nat}(h:kQ x=kQ y):x=y:=(List.map_inj_right λ_ _ e=>J1 e).mp h
theorem j6x{k:List Int}(q:tB h h')(x:IsTupleKey (intKind prog w) h k b):IsTupleKey (intKind prog w) h' k b:=by obtain⟨o,items,n,ho,hc,hd,hi⟩:=x;exact⟨o,items,n,q b o items n ho hc hd,hc,hd,hi⟩
theorem n9.keep{k:It}(q:tB h h'):n9 prog w h k v->n9 prog w h' k v:=by
 rintro (⟨n,t,r⟩|⟨l,c,r1,r2,r3⟩)
 .exact .inl ⟨n,t,r⟩
 .exact .inr ⟨l,c,r1,r2,j6x q r3⟩
theorem jk.keep{k:Ky}(q:tB h h')(x:jk prog w h k vs):jk prog w h' k vs:=by
 induction x with
 | nil=>exact .nil
 | cons a _ ih=>exact .cons (a.keep q) ih
theorem eI.keep{k:Ky}(x:eI prog w σ h k a)(q:tB h h'):eI prog w σ h' k a:=by obtain⟨o,items,n,ho,hc,hd,hi,hs⟩:=x;exact⟨o,items,n,q a o items n ho hc hd,hc,hd,hi.keep q,hs⟩
theorem n9.inj{x y:It}(hx:n9 prog w h x v)(hy:n9 prog w h y v):x=y:=by
 rcases hx with⟨n,t,rfl,rfl⟩|⟨l,c,rfl,rfl,r⟩
 .rcases hy with⟨m,u,rfl,e⟩|⟨l,c,rfl,e,r⟩
  .injection e with e1 e2;rw[J1 e1]
  .cases e
 .rcases hy with⟨m,u,rfl,e⟩|⟨l',c',rfl,e,r'⟩
  .cases e
  .cases e;rw[Ll (r.inj r')]
theorem jk.inj{x y:Ky}(hx:jk prog w h x vs)(hy:jk prog w h y vs):x=y:=by
 induction hx generalizing y with
 | nil=>cases hy;rfl
 | cons h1 _ ih=>
  cases hy with
  | cons h2 t2=>rw[h1.inj h2,ih t2]
theorem eI.inj{x y:Ky}(hx:eI prog w σ h x a)(hy:eI prog w σ h y a):x=y:=by obtain⟨o,items,n,ho,_,hd,hi,_⟩:=hx;obtain⟨o',Fh,n',fm,_,gF,bW,_⟩:=hy;obtain rfl:o=o':=QI (ho.symm.trans fm);rw[hd]at gF;injection gF with h1 _;subst h1;exact hi.inj bW
theorem eI.typeIs{k:Ky}(x:eI prog w σ s.heap k a):s.TypeIs (.ref a) "tuple":=let ⟨o,_,_,ho,hc,_⟩:=x;⟨o,ho,hc⟩
theorem Fi{x:List Int}(hx:ItemsAre (intKind prog w) x vs):∀ v∈vs,∃ i t,v=.int i t:=by
 induction hx with
 | nil=>intro v hv;simp at hv
 | @cons k v' ks vs h1 _ ih=>
  intro v hv;rcases Qm.mp hv with rfl|hv
  .obtain⟨t,rfl⟩:=Yh h1;exact⟨_,_,rfl⟩
  .exact ih v hv
theorem Lm(ho:s.heap.get? a=some o)(hc:o.cls=.type "tuple")(hd:o.data=.seq items m)(hi:∀ v∈items.toList,∀ Q:Bool->Shared->Prop,Q false s->wpAny (model prog w) A (ofAClassStatement n v) Q E s)(h:Q false s):wpAny (model prog w) A (ofAClassStatement (n+1) (.ref a)) Q E s:=by
 unfold ofAClassStatement;refine Qa (Yj ⟨o,ho,hc⟩ ?_);dsimp only;rw[Qh (by decide)];refine Qa (Qd ?_);simp only[Zx,Qs,Zm];refine Qa (ZM ho hd ?_);dsimp only;refine Qa ?_;show wpAny _ _ (forIn items _ _) _ _ s;rw[<- Yd];refine Z1 _ (λrest r s'=>r.1=none/\s'=s/\∀ v∈rest,v∈items.toList) _ ?_ ?_ _ _ ⟨rfl,rfl,λ_ h=>h⟩
 .rintro v rest r s' ⟨hr,rfl,d9⟩;refine Qa (hi v (d9 v Qg) _ ?_);simp only[Qs,Zm];exact Qd ⟨rfl,rfl,λu oO=>d9 u (Qf _ oO)⟩
 .rintro ⟨r1,r2⟩ s' ⟨hr,rfl,_⟩;simp only at hr;subst hr;exact Qd h
theorem Ln(ho:s.heap.get? a=some o)(hc:o.cls=.type "tuple")(hd:o.data=.seq items m)(hi:∀ v∈items.toList,∀ Q:Bool->Shared->Prop,Q true s->wpAny (model prog w) A (eqIsQuiet n v) Q E s)(h:Q true s):wpAny (model prog w) A (eqIsQuiet (n+1) (.ref a)) Q E s:=by
 have hT:s.TypeIs (.ref a) "tuple":=⟨o,ho,hc⟩;unfold eqIsQuiet;refine Qa (J6 hT Yx.lookup ?_);show wpAny _ _ (isInstance (.ref a) (.type "tuple") >>= _) _ _ s;refine Qa (Jb hT Yy ?_);simp only[Zx,Qs,Zm];refine Qa (ZM ho hd ?_);refine Qa ?_;show wpAny _ _ (forIn items _ _) _ _ s;rw[<- Yd];refine Z1 _ (λrest r s'=>r.1=none/\s'=s/\∀ v∈rest,v∈items.toList) _ ?_ ?_ _ _ ⟨rfl,rfl,λ_ h=>h⟩
 .rintro v rest r s' ⟨hr,rfl,d9⟩;refine Qa (hi v (d9 v Qg) _ ?_);simp only[Zx,Qs,Zm];exact Qd ⟨rfl,rfl,λu oO=>d9 u (Qf _ oO)⟩
 .rintro ⟨r1,r2⟩ s' ⟨hr,rfl,_⟩;simp only at hr;subst hr;exact Qd h
theorem Lq(ho:s.heap.get? a=some o)(hc:o.cls=.type "tuple")(hd:o.data=.seq items m)(hi:∀ v∈items.toList,∀ Q:Bool->Shared->Prop,Q true s->wpAny (model prog w) A (hashByValue n v) Q E s)(h:Q true s):wpAny (model prog w) A (hashByValue (n+1) (.ref a)) Q E s:=by
 unfold hashByValue;refine Qa (J6 ⟨o,ho,hc⟩ Z5.lookup ?_);dsimp only;refine Qa (ZM ho hd ?_);refine Qa ?_;show wpAny _ _ (forIn items _ _) _ _ s;rw[<- Yd];refine Z1 _ (λrest r s'=>r.1=none/\s'=s/\∀ v∈rest,v∈items.toList) _ ?_ ?_ _ _ ⟨rfl,rfl,λ_ h=>h⟩
 .rintro v rest r s' ⟨hr,rfl,d9⟩;refine Qa (hi v (d9 v Qg) _ ?_);simp only[Zx,Qs,Zm];exact Qd ⟨rfl,rfl,λu oO=>d9 u (Qf _ oO)⟩
 .rintro ⟨r1,r2⟩ s' ⟨hr,rfl,_⟩;simp only at hr;subst hr;exact Qd h
theorem wM(n:Nat)(i:Int)(t:Tok):ofAClassStatement n (.int i t)=pure false/\eqIsQuiet n (.int i t)=pure true/\hashByValue n (.int i t)=pure true:=
 ⟨by first|rfl|(unfold ofAClassStatement;rfl)|(cases n<;>rfl),eqIsQuiet_byValue n rfl,by cases n<;>rfl⟩
theorem jk.each{k:Ky}(x:jk prog w h k vs):∀ v∈vs,(∃ i t,v=.int i t)\/∃ l c,v=.ref c/\IsTupleKey (intKind prog w) h l c:=by
 induction x with
 | nil=>intro v hv;simp at hv
 | cons h1 _ ih=>
  intro v hv;rcases Qm.mp hv with rfl|hv
  .rcases h1 with⟨n,t,_,e⟩|⟨l,c,_,e,r⟩
   .exact .inl ⟨_,_,e⟩
   .exact .inr ⟨_,c,e,r⟩
  .exact ih v hv
theorem zd{k:Ky}(x:eI prog w σ s.heap k a):(∀ Q:Bool->Shared->Prop,Q false s->wpAny (model prog w) A (ofAClassStatement 8 (.ref a)) Q E s)/\(∀ Q:Bool->Shared->Prop,Q true s->wpAny (model prog w) A (eqIsQuiet 8 (.ref a)) Q E s)/\∀ Q:Bool->Shared->Prop,Q true s->wpAny (model prog w) A (hashByValue 8 (.ref a)) Q E s:=by
 obtain⟨o,items,m,ho,hc,hd,hi,_⟩:=x;have each:=hi.each;refine⟨λQ hq=>Lm ho hc hd (λv hv Q hq=>?_) hq,λQ hq=>Ln ho hc hd (λv hv Q hq=>?_) hq,λQ hq=>Lq ho hc hd (λv hv Q hq=>?_) hq⟩
 .rcases each v hv with⟨i,t,rfl⟩|⟨l,c,rfl,o',it,m',fm,kH,gF,bW⟩
  .rw[(wM _ i t).1];exact Qd hq
  .refine Lm fm kH gF (λv hv Q hq=>?_) hq;obtain⟨i,t,rfl⟩:=Fi bW v hv;rw[(wM _ i t).1];exact Qd hq
 .rcases each v hv with⟨i,t,rfl⟩|⟨l,c,rfl,o',it,m',fm,kH,gF,bW⟩
  .rw[(wM _ i t).2.1];exact Qd hq
  .refine Ln fm kH gF (λv hv Q hq=>?_) hq;obtain⟨i,t,rfl⟩:=Fi bW v hv;rw[(wM _ i t).2.1];exact Qd hq
 .rcases each v hv with⟨i,t,rfl⟩|⟨l,c,rfl,o',it,m',fm,kH,gF,bW⟩
  .rw[(wM _ i t).2.2];exact Qd hq
  .refine Lq fm kH gF (λv hv Q hq=>?_) hq;obtain⟨i,t,rfl⟩:=Fi bW v hv;rw[(wM _ i t).2.2];exact Qd hq
theorem j5v{k:It}{Q:Int->Shared->Prop}(hu:A.units<cLine)(x:n9 prog w s.heap k v)(h:∀ tk,s.toks<=tk->Q (u_ prog w k) { s with toks:=tk }):wpAny (model prog w) A (pyHash v) Q E s:=by
 rcases x with⟨n,t,rfl,rfl⟩|⟨l,c,rfl,rfl,r⟩
 .exact wpAny_pyHash_int (h _ (Z0 _ _))
 .exact wpAny_pyHash_tuple hu r (h _ (Z0 _ _))
theorem j4k{k:Ky}{Q:Int->Shared->Prop}(hu:A.units+1<cLine)(hk:eI prog w σ s.heap k a)(h:∀ tk,s.toks<=tk->Q (dM prog w k) { s with toks:=tk }) :
  wpAny (model prog w) A (pyHash (.ref a)) Q E s:=by
 have hT:=hk.typeIs;obtain⟨o,items,n,ho,_,hd,hi,_⟩:=hk;unfold pyHash
 first|unfold pyHashByItsType|skip
 first|refine Qa (wpAny_cRoomFor_or (.inr (by omega)) ?_)|skip
 refine Qa (J6 hT Z5.lookup ?_);show wpAny _ _ (if(some (Value.builtin "tuple.__hash__")==some Value.none)=true then _ else _) Q E s;rw[Ql (by rw[beq_builtin_none];exact Zd)];refine Qa (J6 hT Z5.lookup ?_);show wpAny _ _ (callSpecialIfBoundUnlessNone? (.ref a) "__hash__" _ >>= _) Q E s;refine Qa (wpAny_callSpecialIfBoundUnlessNone?_slot hT Z5 (Zh Z5 hT PySem.F.entry_tuple_hash ?_ (PySem.F.args_tuple_hash_1 _)));show wpAny _ _ (Builtin.Tuple.tupleItemsOf (.ref a) >>= _) _ _ s;refine Qa (JC ho hd ?_);refine Qa ?_;rw[<- Yd];refine Z1 _
  (λrest (b:Array Int) s'=>∃ done b_ tk,k=done++b_/\jk prog w s.heap b_ rest/\b.toList=done.map (u_ prog w)/\s.toks<=tk/\s'={ s with toks:=tk })
  _ ?_ ?_ _ _ ⟨[],k,s.toks,rfl,hi,rfl,Qj _,rfl⟩
 .rintro x rest b s' ⟨done,b_,tk,rfl,hl,hb,le,rfl⟩;cases hl with
  | @cons k' _ jC _ h1 oz=>
   refine Qa (j5v (by show A.units+1<cLine;exact hu) h1 λwB Ca=>?_)
   first
    | exact Qd ⟨done++[k'],jC,wB,by simp,oz,by simp[hb],Qw le Ca,rfl⟩
    | exact Qa (Qd (Qd ⟨done++[k'],jC,wB,by simp,oz,by simp[hb],Qw le Ca,rfl⟩))
 .rintro b s' ⟨done,b_,tk,rfl,hl,hb,le,rfl⟩;cases hl;rw[QX]at h;show wpAny _ _ (retInt (Builtin.Tuple.tupleHashOf b.toList)) _ _ _;rw[hb];refine wpAny_ret_mkInt ?_;show wpAny _ _ (if(decide (-(2:Int) ^ 63<=Builtin.Tuple.tupleHashOf (done.map (u_ prog w)))&&decide (Builtin.Tuple.tupleHashOf (done.map (u_ prog w))<2 ^ 63))=true then _ else _) Q E _;unfold dM reduceHash at h;by_cases hr:(decide (-(2:Int) ^ 63<=Builtin.Tuple.tupleHashOf (done.map (u_ prog w)))&&decide (Builtin.Tuple.tupleHashOf (done.map (u_ prog w))<2 ^ 63))=true
  .rw[Qh hr];rw[Qh hr]at h;exact Qd (h _ (Qw le (Z0 _ _)))
  .rw[Ql hr];rw[Ql hr]at h;exact Qa (JO (Qd (h _ (Qw le (Z0 _ _)))))
theorem Lr{x y:It}{u:Value}(hu:sh x≠0->A.units<cLine)(hx:n9 prog w s.heap x u)(hy:n9 prog w s.heap y v)(hs:sh x=sh y)(h:Q (decide (x=y)) s):wpAny (model prog w) A (eqBool u v) Q E s:=by
 rcases hx with⟨n,t,rfl,rfl⟩|⟨l,c,rfl,rfl,r⟩
 .rcases hy with⟨m,t',rfl,rfl⟩|⟨l,c,rfl,rfl,r⟩
  .refine Vs ?_;have e:(Int.ofNat n==Int.ofNat m)=decide ((Sum.inl n:It)=Sum.inl m):=by
    by_cases c:n=m
    .subst c;rw[Qr rfl];exact Zz _
    .rw[QF λz=>c (YF z)];exact ZW.mpr λz=>c (J1 z)
   rw[e];exact h
  .cases hs
 .rcases hy with⟨m,t',rfl,rfl⟩|⟨l',c',rfl,rfl,r'⟩
  .cases hs
  .refine wpAny_eqBool_tuple (hu (JS _)) r r' ?_;have e:decide (kQ l=kQ l')=decide ((Sum.inr l:It)=Sum.inr l'):=ZR.mpr ⟨λz=>by rw[Ll z],λz=>by rw[Vh z]⟩;rw[e];exact h
theorem z4k{x y:Ky}{P:PySem.Fin->Shared->Prop}(hu:A.units<cLine)(hx:eI prog w σ s.heap x a)(hy:eI prog w σ s.heap y b)(h:P (.done (.ret (.bool (decide (x=y))))) s) :
  wpAny (model prog w) A (Builtin.«tuple.__eq__» ⟨[.ref a,.ref b],[]⟩) P E s:=by
 have Fj:=hy.typeIs;obtain⟨oa,xs,na,zf,_,zg,tE,sa⟩:=hx;obtain⟨ob,ys,nb,u3,_,ib,tF,sb⟩:=hy;have len:∀ {k:Ky} {vs:List Value},jk prog w s.heap k vs->k.length=vs.length:=λq=>by
  induction q with
  | nil=>rfl
  | cons _ _ ih=>rw[QB,QB,ih]
 have zh:xs.size=ys.size:=by rw[<- QG,<- QG,<- len tE,<- len tF,<- Qb (f:=sh),sa,<- sb,Qb]
 show wpAny _ _ (isInstance (.ref b) (.type "tuple") >>= _) _ _ s;refine Qa (Jb Fj Yy ?_);simp only[Zx,Qs,Zm];refine Qa (JC zf zg ?_);refine Qa (JC u3 ib ?_);refine Qa ?_;refine Z1 _
  (λrest r s'=>r.1=none/\s'=s/\∃ x' y' rH rJ,rest=List.zip rH rJ/\jk prog w s.heap x' rH/\jk prog w s.heap y' rJ/\x'.map sh=y'.map sh/\decide (x'=y')=decide (x=y))
  _ ?_ ?_ _ _ ⟨rfl,rfl,x,y,xs.toList,ys.toList,rfl,tE,tF,sa.trans sb.symm,rfl⟩
 .rintro ⟨u,v⟩ rest r s' ⟨hr,rfl,x',y',rH,rJ,hz,fT,ir,nQ,jD⟩;cases fT with
  | nil=>simp at hz
  | @cons k1 u' wN Fl h1 va=>
   cases ir with
   | nil=>simp at hz
   | @cons k2 v' wO Fm h2 o7=>
    simp only[Ye,List.cons.injEq,Prod.mk.injEq]at hz;obtain⟨⟨rfl,rfl⟩,rfl⟩:=hz;rw[QM,QM]at nQ;injection nQ with sh1 sh2;refine Qa (Lr (λ_=>hu) h1 h2 sh1 ?_);by_cases hk:k1=k2
    .subst hk;rw[Qr rfl];simp only[Zx,Qs,Zm];refine Qd ⟨rfl,rfl,wN,wO,Fl,Fm,rfl,va,o7,sh2,?_⟩;rw[<- jD];by_cases mx:wN=wO
     .simp[mx]
     .simp[mx]
    .rw[QF hk];simp only[Yr,ZE];have hf:decide (x=y)=false:=by rw[<- jD];simp[hk]
     rw[hf]at h;exact Qa (Qd (Qd (Qd h)))
 .rintro ⟨r1,r2⟩ s' ⟨hr,rfl,x',y',rH,rJ,hz,fT,ir,nQ,jD⟩;simp only at hr;subst hr;refine Qd ?_;have vb:(xs.size==ys.size)=decide (x=y):=by
   rw[<- jD,zh,Zz];cases fT with
   | nil=>
    cases ir with
    | nil=>rfl
    | cons _ _=>cases nQ
   | cons _ _=>
    cases ir with
    | nil=>cases nQ
    | cons _ _=>simp at hz
  show P (.done (.ret (.bool (xs.size==ys.size)))) s';rw[vb];exact h
theorem Ls{x y:Ky}(hu:A.units+1<cLine)(hx:eI prog w σ s.heap x a)(hy:eI prog w σ s.heap y b)(h:Q (decide (x=y)) s) :
  wpAny (model prog w) A (eqBool (.ref a) (.ref b)) Q E s:=by
 unfold eqBool
 try with_reducible refine Zq ?_
 show wpAny _ _ (if(Value.ref a==Value.ref b)=true then _ else _) Q E s;by_cases mq:(Value.ref a==Value.ref b)=true
 .rw[Qh mq];have e:a=b:=by have:=eq_of_beq mq;injection this
  subst e;obtain rfl:=hx.inj hy;exact Qa (JO (Qd (by simpa using h)))
 .rw[Ql mq];exact Qa (Y0 (op:=.Eq) hx.typeIs hy.typeIs Yx
   (Zh Yx hx.typeIs PySem.F.entry_tuple_eq (z4k (by show A.units+1<cLine;exact hu) hx hy ⟨_,rfl,(λe=>nomatch e),ZJ h⟩) (PySem.F.args_tuple_eq_2 _ _)) (by omega))
end
end L3
namespace L3
open PySem PySem.SetTable
variable {a bx:Addr}{ep i n:Nat}{h h':Heap}{kx:Ky}{o:Obj}
section
variable {prog:Program}{w:World}{σ:List Nat}{A:Around}{E:Tl}{s:Shared}
theorem j6v{Q:Bool->Shared->Prop}(hx:eI prog w σ s.heap kx bx)(l:List Value)(hl:∀ y∈l,∃ k b,y=.ref b/\eI prog w σ s.heap k b)(h:Q false s):wpAny (model prog w) A (searchCouldBeSeen (.ref bx) l) Q E s:=by
 unfold searchCouldBeSeen;refine Qa ?_;refine Z1 _ (λrest r s'=>r.1=none/\s'=s/\∀ y∈rest,∃ k b,y=.ref b/\eI prog w σ s.heap k b) _ ?_ ?_ _ _ ⟨rfl,rfl,hl⟩
 .rintro y rest r s' ⟨hr,rfl,d9⟩;obtain⟨k,b,rfl,hb⟩:=d9 y Qg;have tG:∀ y∈rest,∃ k b,y=.ref b/\eI prog w σ s'.heap k b:=λu hu=>d9 u (Qf _ hu);dsimp only;by_cases c:(bx==b||(carriedByValue (.ref bx)&&carriedByValue (.ref b)))=true
  .rw[Qh c];exact Qd ⟨rfl,rfl,tG⟩
  .rw[Ql c];refine Qa ((zd hx).2.1 _ ?_);simp only[Zx,Qs,Zm];refine Qa ((zd hb).2.1 _ ?_);simp only[Zx,Qs,Zm];refine Qa ((zd hx).1 _ ?_);simp only[Qs,Zm];refine Qa ((zd hb).1 _ ?_);simp only[Qs,Zm];exact Qd ⟨rfl,rfl,tG⟩
 .rintro ⟨r1,r2⟩ s' ⟨hr,rfl,_⟩;simp only at hr;subst hr;exact Qd h
structure cV (prog:Program) (w:World) (σ:List Nat) (h:Heap) (es:Array (Int×Value)) (t:SetTable) (kl:List Ky) (bs:List Addr):Prop where
 es:es.toList=(kl.zip bs).map λx=>(dM prog w x.1,Value.ref x.2)
 len:kl.length=bs.length
 is:∀ (i:Nat) (k:Ky) (b:Addr),kl[i]? = some k->bs[i]? = some b->eI prog w σ h k b
 tb:iq t (kl.map (dM prog w))
 nd:kl.Nodup
section
variable {es:Array (Int×Value)}{t:SetTable}{kl:List Ky}{bs:List Addr}
theorem cV.size(S:cV prog w σ h es t kl bs):es.size=kl.length:=by rw[<- QG,S.es,Qb,YS,S.len,Nat.min_self]
theorem cV.fits(S:cV prog w σ h es t kl bs):t.fits es.size=true:=by unfold SetTable.fits SetTable.fill;have e1:=S.tb.sz;have e2:=S.tb.room;have e3:=S.size;rw[Qb]at e1 e2;rw[S.tb.nd,e3,e1];simp;exact e2
theorem cV.get(S:cV prog w σ h es t kl bs){k:Ky}(hk:kl[i]? = some k):∃ b,bs[i]? = some b/\es[i]? = some (dM prog w k,Value.ref b)/\eI prog w σ h k b:=by obtain⟨hi,_⟩:=Qy.mp hk;have hb:bs[i]? = some (bs[i]'(by rw[<- S.len];exact hi)):=Qc _;refine⟨_,hb,?_,S.is i k _ hk hb⟩;rw[<- Zs,S.es,Qp,List.zip,Yz,hk,hb];rfl
theorem cV.of(S:cV prog w σ h es t kl bs){x:Int×Value}(hx:es[i]? = some x):∃ k b,kl[i]? = some k/\x=(dM prog w k,Value.ref b)/\eI prog w σ h k b:=by
 have hi:i<kl.length:=by rw[<- S.size];exact(Jf.mp hx).1
 obtain⟨b,_,e,q⟩:=S.get (Qc hi);rw[hx]at e;exact⟨_,b,Qc hi,QI e,q⟩
theorem z00{Q:SetFound->Shared->Prop}(hu:A.units+1<cLine)(ho:s.heap.get? a=some o)(hd:o.data=.set es ep t)(S:cV prog w σ s.heap es t kl bs)(hx:eI prog w σ s.heap kx bx)
  {M:Nat} (hM:M<10*turns t.mask) (eM:t.slot (bJ t.mask (cy t.mask (dM prog w kx)) M).j=.empty) (bM:∀ m',m'<M->∃ i,t.slot (bJ t.mask (cy t.mask (dM prog w kx)) m').j=.live i)
  (q1:kx∈kl->Q (.there none) s) (q2:kx ∉ kl->Q (.free (bJ t.mask (cy t.mask (dM prog w kx)) M).j false) s) :
  ∀ (fuel m:Nat) (mz:Option Probe),mz.getD (t.probeStart (dM prog w kx))=bJ t.mask (cy t.mask (dM prog w kx)) m->m<=M->M-m<fuel->
   (∀ m',m'<m->∀ i,t.slot (bJ t.mask (cy t.mask (dM prog w kx)) m').j=.live i->kl[i]? ≠ some kx)->wpAny (model prog w) A (setSearchFrom a (.ref bx) (dM prog w kx) true fuel mz) Q E s:=by
 intro fuel;induction fuel with
 | zero=>intro m mz _ _ h _;exact absurd h (Ze _)
 | succ fuel ih=>
  intro m mz gu hm hf inv;generalize hh:dM prog w kx=h at *
  unfold setSearchFrom;refine Qa (Z6 ho hd S.fits ?_);dsimp only;have gw:t.gaveWay=false:=by unfold SetTable.gaveWay;rw[S.tb.rd.odd];rfl
  rw[gw];simp only[Qs,Zm];rw[gu];have pn:(bJ t.mask (cy t.mask h) m).dummy=none:=Ld _ _ _ rfl;have ex:∃ m1,m1<10*turns t.mask/\t.slot (bJ t.mask (bJ t.mask (cy t.mask h) m) m1).j=.empty:=⟨M-m,by omega,by rw[<- o5,show m+(M-m)=M by omega];exact eM⟩;have key:∀ (hashAt:Nat->Int),(∀ i x,es[i]? = some x->hashAt i=x.1)->∃ met,t.probe hashAt h (bJ t.mask (cy t.mask h) m)=some met/\((∃ j,met=.empty j none/\kx ∉ kl/\j=(bJ t.mask (cy t.mask h) M).j)\/∃ m1 i k b,m+m1<M/\met=.candidate (bJ t.mask (cy t.mask h) (m+m1)).j i (bJ t.mask (cy t.mask h) (m+m1+1))/\t.slot (bJ t.mask (cy t.mask h) (m+m1)).j=.live i/\kl[i]? = some k/\es[i]? = some (dM prog w k,Value.ref b)/\eI prog w σ s.heap k b/\∀ m',m'<m+m1->∀ i,t.slot (bJ t.mask (cy t.mask h) m').j=.live i->kl[i]? ≠ some kx):=by
   intro hashAt hA;obtain⟨m1,h1,bf,c⟩:=Le t hashAt h S.tb.rs S.tb.nd (10*turns t.mask) (bJ t.mask (cy t.mask h) m) pn ex;have o8:∀ m',m'<m+m1->∀ i,t.slot (bJ t.mask (cy t.mask h) m').j=.live i->kl[i]? ≠ some kx:=λm' fZ i e z=>by
    by_cases l:m'<m
    .exact inv m' l i e z
    .obtain⟨i',e',ne⟩:=bf (m'-m) (by omega);rw[<- o5,show m+(m'-m)=m' by omega,e]at e';cases e';obtain⟨b,_,q,_⟩:=S.get z;exact ne (by rw[hA i _ q];exact hh)
   rcases c with⟨e,g⟩|⟨i,e,eh,g⟩
   .rw[<- o5]at e g;have eM':m+m1=M:=by
     by_cases l:m+m1<M
     .obtain⟨i,q⟩:=bM _ l;rw[e]at q;cases q
     .by_cases l2:M<m+m1
      .obtain⟨i',e',_⟩:=bf (M-m) (by omega);rw[<- o5,show m+(M-m)=M by omega,eM]at e';cases e'
      .omega
    refine⟨_,g,.inl ⟨_,rfl,λz=>?_,by rw[eM']⟩⟩;obtain⟨i,hi,q⟩:=Z8 z;have hk:kl[i]? = some kx:=by rw[Qc hi,q]
    have cE:t.place[i]? = some (t.place[i]'(by rw[S.tb.sz,Qb];exact hi)):=ZH _;obtain⟨m0,z1,z2,z3⟩:=S.tb.y_ i _ h cE (by rw[Qp,hk];exact Zy some hh);have lv:=yY S.tb.rs cE;rw[<- z2]at lv;by_cases l:m0<M
    .exact o8 m0 (by omega) i lv hk
    .by_cases l2:m0=M
     .rw[l2,eM]at lv;cases lv
     .obtain⟨i',q'⟩:=z3 M (by omega);rw[eM]at q';cases q'
   .rw[<- o5]at e g;have lt:m+m1<M:=by
     by_cases l:m+m1<M
     .exact l
     .by_cases l2:m+m1=M
      .rw[l2,eM]at e;cases e
      .obtain⟨i',e',_⟩:=bf (M-m) (by omega);rw[<- o5,show m+(M-m)=M by omega,eM]at e';cases e'
    have cE:∃ j,t.place[i]? = some j:=by
     rcases yZ S.tb.rs S.tb.nd (bJ t.mask (cy t.mask h) (m+m1)).j with⟨i',a',b'⟩|⟨_,b'⟩
     .rw[e]at b';cases b';exact⟨_,a'⟩
     .rw[e]at b';cases b'
    obtain⟨j,hj⟩:=cE;have hi:i<kl.length:=by have:=(Jf.mp hj).1;rw[S.tb.sz,Qb]at this;exact this
    obtain⟨b,_,q,r⟩:=S.get (Qc hi);refine⟨_,g,.inr ⟨m1,i,_,b,lt,?_,e,Qc hi,q,r,o8⟩⟩;rw[<- o5];rfl
  obtain⟨met,pr,cs⟩:=key _ λi x hx=>show(es[i]?.map (·.1)).getD 0=x.1 by rw[hx];rfl
  generalize hp:t.probe _ h (bJ t.mask (cy t.mask h) m)=pr0;have Lu:pr0=some met:=by rw[<- hp];exact pr
  subst Lu;clear hp;dsimp only;rcases cs with⟨j,rfl,nk,rfl⟩|⟨m1,i,k,b,lt,rfl,lv,ek,ee,kb,o8⟩
  .exact Qd (q2 nk)
  .dsimp only;have sm:t.sameMemory t.moves t.mask=some true:=by unfold SetTable.sameMemory;simp
   cases hled:t.led with
   | false=>
    simp only[Yr,ZE];refine Qa (j6v hx _ (λy hy=>?_) ?_)
    .obtain⟨e,he,rfl⟩:=Qo.mp hy;have Fd:=(Array.mem_filter.mp (YG.mp he)).1;obtain⟨i',bW,q⟩:=V8 Fd;obtain⟨k',b',_,r1,r2⟩:=S.of (i:=i') (x:=e) (by rw[ZH bW,q]);exact⟨k',b',by rw[r1],r2⟩
    simp only[Qs,Zm];rw[ee];dsimp only;refine Qa (Zq (Ls hu kb hx ?_));refine Qa (Z6 ho hd S.fits ?_);dsimp only;by_cases c:k=kx
    .rw[Qr c];simp only[Uf,ZE];exact Qd (q1 (by rw[<- c];exact QR ek))
    .rw[QF c];simp only[Jd,Qs,Zm,sm,ZE,lv,ee];refine Qa (wpAny_isSame_ref_self ?_);simp only[ZE];refine Qa (Qd ?_);dsimp only;exact ih (m+m1+1) (some (bJ t.mask (cy t.mask h) (m+m1+1))) rfl (by omega) (by omega) λm' fZ i' e'=>by
      by_cases l:m'<m+m1
      .exact o8 m' l i' e'
      .have:m'=m+m1:=by omega
       subst this;rw[lv]at e';cases e';rw[ek];exact λz=>c (QI z)
   | true=>
    simp only[Zx,Qs,Zm];rw[ee];dsimp only;refine Qa (Zq (Ls hu kb hx ?_));refine Qa (Z6 ho hd S.fits ?_);dsimp only;by_cases c:k=kx
    .rw[Qr c];simp only[Uf,ZE];exact Qd (q1 (by rw[<- c];exact QR ek))
    .rw[QF c];simp only[Jd,Qs,Zm,sm,ZE,lv,ee];refine Qa (wpAny_isSame_ref_self ?_);simp only[ZE];refine Qa (Qd ?_);dsimp only;exact ih (m+m1+1) (some (bJ t.mask (cy t.mask h) (m+m1+1))) rfl (by omega) (by omega) λm' fZ i' e'=>by
      by_cases l:m'<m+m1
      .exact o8 m' l i' e'
      .have:m'=m+m1:=by omega
       subst this;rw[lv]at e';cases e';rw[ek];exact λz=>c (QI z)
end
end
section
variable {prog:Program}{w:World}{σ:List Nat}{A:Around}{E:Tl}{s:Shared}
variable {es:Array (Int×Value)}{t:SetTable}{kl:List Ky}{bs:List Addr}
theorem Lv{es:Array (Int×Value)}{t:SetTable}(ho:h.get? a=some o)(hd:o.data=.set es ep t)(sb:Heap.SameBut a h h'):tB h h':=λb o' vs n fm _ gF=>by
 have eJ:b≠a:=by rintro rfl;obtain rfl:o'=o:=QI (fm.symm.trans ho);rw[hd]at gF;exact nomatch gF
 exact(sb.2 b eJ).trans fm
theorem j4v{α β:Type}{l:List α}{m:List β}(e:l.length=m.length)(p:Nat)(x:α)(y:β):(jb l p x).zip (jb m p y)=jb (l.zip m) p (x,y):=by
 unfold jb;rw[List.zip_append (by rw[Zg,Zg,e]),Ye];congr 1
 .unfold List.zip;exact List.take_zipWith.symm
 .congr 1;unfold List.zip;exact List.drop_zipWith.symm
theorem Lw{α β:Type}(f:α->β)(l:List α)(p:Nat)(x:α):(jb l p x).map f=jb (l.map f) p (f x):=by unfold jb;rw[Q4,QM,List.map_take,List.map_drop]
theorem Fn{α:Type}(l:List α)(p:Nat)(x:α):(jb l p x).Perm (x::l):=by unfold jb;have:=List.perm_middle (a:=x) (l₁:=l.take p) (l₂:=l.drop p);rw[Jh]at this;exact this
theorem j13{α:Type}(xs:Array α)(p:Nat)(x:α):(insertAt xs p x).toList=jb xs.toList p x:=by unfold insertAt jb;simp;exact Yq (by rw[ZZ,QG];exact Qj _)
theorem cV.put(S:cV prog w σ h es t kl bs)(hx:eI prog w σ h kx bx)(nk:kx ∉ kl){m:Nat}(hm:m<10*turns t.mask)(em:t.slot (bJ t.mask (cy t.mask (dM prog w kx)) m).j=.empty)(bm:∀ m',m'<m->∃ i,t.slot (bJ t.mask (cy t.mask (dM prog w kx)) m').j=.live i)(hr:kl.length+1<=t.mask) :
  cV prog w σ h (insertAt es (t.put (bJ t.mask (cy t.mask (dM prog w kx)) m).j).2 (dM prog w kx,.ref bx)) (t.put (bJ t.mask (cy t.mask (dM prog w kx)) m).j).1 (jb kl (t.put (bJ t.mask (cy t.mask (dM prog w kx)) m).j).2 kx) (jb bs (t.put (bJ t.mask (cy t.mask (dM prog w kx)) m).j).2 bx):=by
 obtain⟨p1,p2,p3⟩:=S.tb.put hm em bm (za _ _ _) (by rw[Qb];exact hr);generalize (bJ t.mask (cy t.mask (dM prog w kx)) m).j=j at *
 rw[Qb]at p1;generalize (t.put j).2=p at *
 have pm:=Fn kl p kx;refine⟨?_,?_,λi k b x y=>?_,?_,?_⟩
 .rw[j13,S.es,j4v S.len,Lw]
 .rw[u7,u7,S.len]
 .rw[Ff kl p kx p1]at x;rw[Ff bs p bx (by rw[<- S.len];exact p1)]at y;by_cases h1:i<p
  .rw[Qh h1]at x y;exact S.is i k b x y
  .rw[Ql h1]at x y;by_cases h2:i=p
   .rw[Qh h2]at x y;cases x;cases y;exact hx
   .rw[Ql h2]at x y;exact S.is _ k b x y
 .rw[Lw];exact p3
 .exact pm.nodup_iff.mpr (Q3.mpr ⟨nk,S.nd⟩)
theorem cV.hashes(S:cV prog w σ h es t kl bs):es.map (·.1)=(kl.map (dM prog w)).toArray:=by
 apply Array.ext';rw[Array.toList_map,S.es,QO];have:∀ (l:List Ky) (m:List Addr),l.length=m.length->(l.zip m).map ((λx:Int×Value=>x.1) ∘ λx=>(dM prog w x.1,Value.ref x.2))=l.map (dM prog w):=by
  intro l;induction l with
  | nil=>intro m _;rfl
  | cons a l ih=>
   intro m hm;cases m with
   | nil=>cases hm
   | cons b m=>rw[Ye,QM,QM,ih m (by simpa using hm)];rfl
 exact this kl bs S.len
theorem Lx{α:Type}{l:List α}{od:List Nat}(d:α)(h:od.Perm (range l.length)):(od.map λk=>l.getD k d).Perm l:=by
 have h1:=h.map λk=>l.getD k d;have h2:(range l.length).map (λk=>l.getD k d)=l:=by
  apply Zp;intro i;by_cases hi:i<l.length
  .rw[Qp,Za hi,Qc hi];show some (l.getD i d)=_;rw[Qi,Qc hi];rfl
  .rw[Qz (by rw[Qb,QK];omega),Qz (by omega)]
 rw[h2]at h1;exact h1
theorem cV.relaid(S:cV prog w σ h es t kl bs)(hn:n<512)(hl:kl.length<=n):∃ (t':SetTable) (od:List Nat),t.relaid (es.map (·.1)) n=some (t',od.toArray)/\t'.led=t.led/\t'.plain=t.plain/\t'.mask=sizeAbove n-1/\(∀ k∈od,k<es.size)/\od.length=kl.length /\
  cV prog w σ h (od.toArray.filterMap λi=>es[i]?) t' (od.map λk=>kl.getD k []) (od.map λk=>bs.getD k 0)/\(od.map λk=>kl.getD k []).Perm kl:=by
 obtain⟨mk,ln⟩:=Lk hn;obtain⟨pl,od,e,pm,T⟩:=j2i mk (kl.map (dM prog w)) (by rw[Qb];omega) t.finger (t.movedTo (sizeAbove n-1)) t.led t.plain;rw[Qb]at pm;have sz:=S.size;have lt:∀ k∈od,k<kl.length:=λk hk=>QA.mp (pm.mem_iff.mp hk);refine⟨{ mask:=sizeAbove n-1,place:=pl.toArray,dummies:=#[],finger:=t.finger,led:=t.led,moves:=t.movedTo (sizeAbove n-1),plain:=t.plain },od,by rw[S.hashes];exact e,rfl,rfl,rfl,λk hk=>by rw[sz];exact lt k hk,by rw[pm.length_eq,QK],?_,Lx [] pm⟩;have lb:∀ k∈od,k<bs.length:=λk hk=>by rw[<- S.len];exact lt k hk
 refine⟨?_,by rw[Qb,Qb],λi k b x y=>?_,?_,(Lx [] pm).nodup_iff.mpr S.nd⟩
 .have e1:(od.toArray.filterMap λi=>es[i]?).toList=od.filterMap λi=>es.toList[i]?:=by rw[Array.toList_filterMap];exact Fg λi _=>(Zs).symm
  rw[e1,S.es];have:∀ (o:List Nat),(∀ k∈o,k<kl.length)->o.filterMap (λi=>((kl.zip bs).map λx=>(dM prog w x.1,Value.ref x.2))[i]?)=((o.map λk=>kl.getD k []).zip (o.map λk=>bs.getD k 0)).map λx=>(dM prog w x.1,Value.ref x.2):=by
   intro o;induction o with
   | nil=>intro _;rfl
   | cons k o ih=>
    intro h;have hk:=h k Qg;have hb:k<bs.length:=by rw[<- S.len];exact hk
    have g:((kl.zip bs).map λx=>(dM prog w x.1,Value.ref x.2))[k]? = some (dM prog w (kl.getD k []),Value.ref (bs.getD k 0)):=by rw[Qp,List.zip,Yz,Qc hk,Qc hb,Qi,Qc hk,Qi,Qc hb];rfl
    rw[Jr g,ih λj hj=>h j (Qf _ hj)];rfl
  exact this od lt
 .rw[Qp,Zf]at x y;obtain⟨j,q1,q2⟩:=x;obtain⟨j',q3,q4⟩:=y;rw[q1]at q3;cases q3;have hj:=lt j (QR q1);have hb:=lb j (QR q1);rw[Qi,Qc hj]at q2;rw[Qi,Qc hb]at q4;exact S.is j k b (by rw[Qc hj];exact Zy some q2) (by rw[Qc hb];exact Zy some q4)
 .have:(od.map λk=>kl.getD k []).map (dM prog w)=od.map λk=>(kl.map (dM prog w)).getD k 0:=by rw[QO];refine Zb λk hk=>?_;have hj:=lt k hk;show dM prog w (kl.getD k [])=_;rw[Qi,Qc hj,Qi,Qp,Qc hj];rfl
  rw[this];exact T
theorem cV.move{ep0:Nat}{e0:Array (Int×Value)}{t0:SetTable}(S:cV prog w σ h es t kl bs)(ho:h.get? a=some o)(hd:o.data=.set e0 ep0 t0)(sb:Heap.SameBut a h h'):cV prog w σ h' es t kl bs:=
 ⟨S.es,S.len,λi k b x y=>(S.is i k b x y).keep (Lv ho hd sb),S.tb,S.nd⟩
structure vc (prog:Program) (w:World) (σ:List Nat) (h:Heap) (o:Obj) (ep:Nat) (led:Bool) (kl:List Ky) (es:Array (Int×Value)) (t:SetTable) (bs:List Addr):Prop where
 d:o.data=.set es ep t
 S:cV prog w σ h es t kl bs
 pl:t.plain=true
 ld:t.led=led
 rm:kl.length*5<t.mask*3
theorem z9k{Q:Unit->Shared->Prop}(ho:s.heap.get? a=some o)(hd:o.data=.set es ep t)(S:cV prog w σ s.heap es t kl bs)(hn:n<512)(hl:kl.length<=n)(h4:kl.length*4<=n)(h0:0<n)
  (h:∀ h' kG t' jW p9,Heap.SameBut a s.heap h'->h'.get? a=some { o with data:=.set kG (ep+1) t' }->cV prog w σ h' kG t' jW p9->jW.Perm kl->t'.plain=t.plain->t'.led=t.led->jW.length*5<t'.mask*3->(∀ b∈p9,b∈bs)->Q () { s with heap:=h' }) :
  wpAny (model prog w) A (setRelay a n) Q E s:=by
 obtain⟨t',od,e,ld,pl,mk,lt,len,S',pm⟩:=S.relaid hn hl;have ln:=(Lk hn).2;unfold setRelay;refine Qa (Z6 ho hd S.fits ?_);dsimp only;have sl:¬ sizeAbove n > sizeLine:=by rw[Jl];rcases Lj n hn with⟨e,_⟩|⟨e,_⟩|⟨e,_⟩|⟨e,_⟩|⟨e,_⟩|⟨e,_⟩|⟨e,_⟩<;>omega
 rw[Ql sl,e];have Ly:(od.toArray.filterMap λi=>es[i]?).size=es.size:=by rw[S'.size,Qb,len,S.size]
 refine Qa (show wpAny _ _ (do
  if(od.toArray.filterMap λi=>es[i]?).size != es.size then unsupported "internal:set-table-lost-an-element"
  pure ((od.toArray.filterMap λi=>es[i]?),t')) _ _ _ from ?_)
 rw[Ly];simp only[Ys,Qs,Zm];refine Qd ?_;dsimp only;have sb:=Jt s.heap a (Obj.putSet (od.toArray.filterMap λi=>es[i]?) t');have hz:(od.toArray.filterMap λi=>es[i]?).size<=sizeLine:=by rw[Ly,S.size,Jl];omega
 refine wpAny_storeSet_of ho hd (h _ _ t' _ _ sb ?_ (S'.move ho hd sb) pm pl ld ?_ λb hb=>?_) hz
 .have:=Jg (Obj.putSet (od.toArray.filterMap λi=>es[i]?) t') ho (by rw[putSet_of _ _ hd];rfl);rw[putSet_of _ _ hd]at this;exact this
 .rw[Qb,len,mk];omega
 .obtain⟨k,hk,rfl⟩:=Qo.mp hb;have:=lt k hk;rw[S.size,S.len]at this;rw[Qi,Qc this];exact Q7 this
theorem k36{led:Bool}{Q:Bool->Shared->Prop}(hu:A.units+1<cLine)(ho:s.heap.get? a=some o)(So:vc prog w σ s.heap o ep led kl es t bs)(hx:eI prog w σ s.heap kx bx)(pW:kl.length<=100)
  (h:∀ h' qE jW kG t' p9 r,Heap.SameBut a s.heap h'->h'.get? a=some { o with data:=.set kG qE t' }->vc prog w σ h' { o with data:=.set kG qE t' } qE led jW kG t' p9->jW.Perm (if kx∈kl then kl else kx::kl)->(∀ b∈p9,b=bx\/b∈bs)->Q r { s with heap:=h' }) :
  wpAny (model prog w) A (setAddHashed a (.ref bx) (dM prog w kx)) Q E s:=by
 obtain⟨hd,S,pl,ld,rm⟩:=So;obtain⟨M,hM,eM,bM⟩:=S.tb.met (dM prog w kx);have odd:=S.tb.rd.odd;have few5:=S.tb.rd.pW;unfold setAddHashed setAddHashedIn;refine Zq (Qa (Z6 ho hd S.fits ?_));dsimp only;have ns:byScan (.ref bx) es=false:=rfl;rw[ns];simp only[Qs,Zm];refine Qa (z00 (M:=M) hu ho hd S hx hM eM bM (λs_=>?_) (λnk=>?_) 100000 0 none rfl (Q1 _) (by unfold turns at hM;omega) λ_ z=>absurd z (Ze _))
 .dsimp only;have e:s={ s with heap:=s.heap }:=by cases s;rfl
  refine Qd ?_;rw[e];have eo:({ o with data:=.set es ep t }:Obj)=o:=by obtain⟨c,d,dt,sl⟩:=o;simp only at hd;subst hd;rfl
  refine h s.heap ep kl es t bs _ (Heap.SameBut.refl a s.heap) (by rw[eo];exact ho) ⟨rfl,S,pl,ld,rm⟩ ?_ λb hb=>.inr hb;rw[Qh s_]
 .dsimp only;refine Qa (Z6 ho hd S.fits ?_);dsimp only;have Sp:=S.put hx nk hM eM bM (by omega);generalize hj:(bJ t.mask (cy t.mask (dM prog w kx)) M).j=j at *
  have zi:(t.put j).1.plain=true:=pl;have Lz:(t.put j).1.led=led:=ld;have mk':(t.put j).1.mask=t.mask:=rfl;have fl':(t.put j).1.fill=kl.length+1:=by unfold SetTable.fill;rw[Sp.tb.sz,Sp.tb.nd,Qb,u7];rfl
  rw[zi];simp only[ZE];refine Qa ((zd hx).2.2 _ ?_);simp only[ZE];have LA:=Fn kl (t.put j).2 kx;generalize hes:insertAt es (t.put j).2 (dM prog w kx,Value.ref bx)=wQ at *
  generalize ht1:(t.put j).1=t1 at *
  have hz:wQ.size<=sizeLine:=by rw[Sp.size,u7,Jl];omega
  refine Qa (wpAny_storeSet_of ho hd ?_ hz);have sb:=Jt s.heap a (Obj.putSet wQ t1);have LB:(s.heap.update a (Obj.putSet wQ t1)).get? a=some { o with data:=.set wQ (ep+1) t1 }:=by have:=Jg (Obj.putSet wQ t1) ho (by rw[putSet_of _ _ hd];rfl);rw[putSet_of _ _ hd]at this;exact this
  have S1:=Sp.move ho hd sb;have bI:∀ b∈jb bs (t.put j).2 bx,b=bx\/b∈bs:=λb hb=>Qm.mp ((Fn bs (t.put j).2 bx).mem_iff.mp hb);have lG:(jb kl (t.put j).2 kx).length=kl.length+1:=u7 _ _ _;cases Fp:t1.tooFull with
  | false=>
   simp only[Yr,JI,Qs,Zm];refine Qd (h _ (ep+1) _ wQ t1 _ _ sb LB ⟨rfl,S1,zi,Lz,?_⟩ (by rw[Ql nk];exact LA) bI);unfold SetTable.tooFull at Fp;rw[fl']at Fp;rw[lG];have:=JD Fp;omega
  | true=>
   simp only[Yr,JI,ZE];have g4:SetTable.grown (es.size+1)=(kl.length+1)*4:=by unfold SetTable.grown;rw[S.size,Ql (by omega)]
   rw[g4];refine Qa (z9k (s:={ s with heap:=_ }) LB rfl S1 (by omega) (by rw[lG];omega) (by rw[lG];omega) (by omega) λh' kG t' jW p9 sb' rn S' pm' EB ld2 rm' mb'=>?_);exact Qd (h h' _ jW kG t' p9 _ (sb.trans sb') rn ⟨rfl,S',EB.trans zi,ld2.trans Lz,rm'⟩ (by rw[Ql nk];exact pm'.trans LA) λb hb=>bI b (mb' b hb))
end
end L3
namespace L3
open PySem PySem.Spec PyProof.Rows PySem.W L2
variable {Q:Tl}{ad:Nat->Addr}{b:Bool}{h h':Heap}{i:Nat}{kl:List Ky}{o:Obj}{prog:Program}{w:World}{xs:Array Value}
abbrev o9 (es:Array (Int×Value))(ep:Nat)(t:SetTable):Obj:={ cls:=.type "set",dict:=none,data:=.set es ep t }
section
variable {prog:Program}{w:World}{σ:List Nat}{A:Around}{R:Result->Shared->Prop}{I:Addr}{fp wr:List Addr}{G:Array GenState->Array GenState->Prop}{n:Nat}{P:Nat->Value->Prop}{St:Nat->Shared->Prop}
def vd (prog:Program)(w:World)(σ:List Nat)(led:Bool)(S:Addr)(ad:Nat->Addr)(n:Nat)(h:Heap)(kl:List Ky):Prop:=∃ es ep t bs,h.get? S=some (o9 es ep t)/\vc prog w σ h (o9 es ep t) ep led kl es t bs/\∀ b∈bs,∃ j,j<n/\b=ad j
theorem vd.go{led:Bool}{S:Addr}(H:vd prog w σ led S ad n h kl)(hS:∀ o,h.get? S=some o->h'.get? S=some o)(hA:tB h h'):vd prog w σ led S ad n h' kl:=by obtain⟨es,ep,t,bs,g,⟨d,T,pl,ld,rm⟩,hb⟩:=H;exact⟨es,ep,t,bs,hS _ g,⟨d,⟨T.es,T.len,λi k b x y=>(T.is i k b x y).keep hA,T.tb,T.nd⟩,pl,ld,rm⟩,hb⟩
theorem k0k(W:WalksS prog w A.in1 I fp wr G n P St)(hu:A.in1.units+1<cLine)(S:Addr)(LC:S ∉ fp)(led:Bool)(hn:n<=100)
  (val:Nat->Ky) (ad:Nat->Addr) (vf:∀ i v,P i v->v=.ref (ad i)) (hwr:∀ i s,St i s->∀ b∈wr,∀ o,s.heap.get? b=some o->o.cls ≠ .type "tuple") :
  ∀ (k i:Nat) (s:Shared) (kl:List Ky),n-i=k->i<=n->St i s->(∀ j,j<n->eI prog w σ s.heap (val j) (ad j))->vd prog w σ led S ad n s.heap kl->kl.length<=i->(∀ x,x∈kl ↔ ∃ j,j<i/\val j=x)->
   (∀ s' jW,Moved (S::wr) G s s'->vd prog w σ led S ad n s'.heap jW->(∀ x,x∈jW ↔ ∃ j,j<n/\val j=x)->R (.ok (.ret .none)) s')->
   codeAny (model prog w) A (.builtin "set.update.loop" ⟨[.ref S,.ref I],[]⟩) R s:=by
 have LD:S ∉ wr:=λh=>LC (W.sub _ h);have dO:∀ b∈wr,b∈S::wr:=λb hb=>Qf _ hb;have kt:∀ {i s s'},St i s->Moved wr G s s'->tB s.heap s'.heap:=λgu qf b o vs n e c d=>qf.heap b o (λhb=>hwr _ _ gu b hb o e c) e;intro k;induction k with
 | zero=>
  intro i s kl hk hi gu hT hS hl hm hR;have s_:i=n:=by omega
  subst s_;refine Z7 JV ?_;rw[Jo Z9 _];show wpAny _ A.in1 (pyNext (.ref I) >>= _) _ _ s;refine Qa (W.done s _ _ gu λs' qf=>?_);show wpAny _ A.in1 (ret Value.none) _ _ s';exact Qd (hR s' kl (qf.mono dO) (hS.go (λo e=>qf.heap S o LD e) (kt gu qf)) hm)
 | succ k ih=>
  intro i s kl hk hi gu hT hS hl hm hR;have dz:i<n:=by omega
  refine Z7 JV ?_;rw[Jo Z9 _];show wpAny _ A.in1 (pyNext (.ref I) >>= _) _ _ s;refine Qa (W.item i s _ _ dz gu λv s' hP u0 qf=>?_);have hv:=vf i v hP;subst hv;have Fq:∀ j,j<n->eI prog w σ s'.heap (val j) (ad j):=λj hj=>(hT j hj).keep (kt gu qf);obtain⟨es,ep,t,bs,g,So,hb⟩:=hS.go (λo e=>qf.heap S o LD e) (kt gu qf);show wpAny _ A.in1 (holding [Value.ref (ad i)] (setAdd S (.ref (ad i))) >>= _) _ _ s';refine Qa (Zq ?_);unfold setAdd;refine Zq ?_;refine Qa (j4k hu (Fq i dz) λtk le=>?_);refine k36 (s:={ s' with toks:=tk }) hu g So (Fq i dz) (by omega) λh' qE jW kG t' p9 r Fs hS2 So' pm hbs=>?_;have hT2:∀ j,j<n->eI prog w σ h' (val j) (ad j):=λj hj=>(Fq j hj).keep (Lv (by exact g) rfl Fs);have mem:∀ x,x∈jW ↔ ∃ j,j<i+1/\val j=x:=λx=>by
   rw[pm.mem_iff];have ax:x∈(if val i∈kl then kl else val i::kl) ↔ x=val i\/x∈kl:=by
    by_cases c:val i∈kl
    .rw[Qh c];exact⟨.inr,λz=>z.elim (λy=>y ▸ c) id⟩
    .rw[Ql c];exact Qm
   rw[ax,hm x];constructor
   .rintro (rfl|⟨j,a,b⟩)
    .exact⟨i,by omega,rfl⟩
    .exact⟨j,by omega,b⟩
   .rintro ⟨j,a,b⟩;by_cases c:j=i
    .subst c;exact .inl b.symm
    .exact .inr ⟨j,by omega,b⟩
  have len:jW.length<=i+1:=by
   have e:=pm.length_eq;by_cases c:val i∈kl
   .rw[Qh c]at e;omega
   .rw[Ql c,QB]at e;omega
  refine Qd ⟨plainId_quiet Z9 _,ih (i+1) _ jW (by omega) dz (W.frame _ s' _ _ u0 le λb my o e=>?_) hT2 ⟨kG,qE,t',p9,hS2,So',λb my=>?_⟩ len mem λsj Ft Fu Fv mm=>?_⟩
  .rw[Fs.2 b (λh:b=S=>LC (by rw[<- h];exact my))];exact e
  .rcases hbs b my with rfl|z
   .exact⟨i,dz,rfl⟩
   .exact hb b z
  .refine hR sj Ft (Moved.trans W.gtrans ((qf.mono dO).then_heap le λb o my e=>?_) Fu) Fv mm;rw[Fs.2 b (λh:b=S=>my (by rw[h];exact Qg))];exact e
end
abbrev cT (b:Bool):String:=if b=true then "list" else "tuple"
theorem jV.obj{t:Addr}(x:jV b h t xs):∃ o,h.get? t=some o/\o.cls=.type (cT b)/\∃ n,o.data=.seq xs n:=by
 cases b
 .obtain⟨o,e,c,n,d⟩:=(show h.IsTuple t xs from x);exact⟨o,e,c,n,d⟩
 .obtain⟨o,e,c,n,d⟩:=(show h.IsList t xs from x);exact⟨o,e,c,n,d⟩
theorem j0j{A:Around}(hh:A.handled=none)(I ax:Addr)(eJ:ax≠I)(items:Array Value):Walks prog w A I [I,ax] [I] items.size (λi v=>items[i]? = some v) (λi h=>kc b h I ax i/\jV b h ax items):=by
 cases b
 .exact Walks.tuple hh I ax eJ items
 .exact Walks.list hh I ax eJ items
theorem jV.at{a:Addr}(x:jV b h a xs)(e:∀ c o,h.get? c=some o->h'.get? c=some o):jV b h' a xs:=by
 cases b
 .obtain⟨o,ho,r⟩:=(show h.IsTuple a xs from x);exact⟨o,e _ _ ho,r⟩
 .obtain⟨o,ho,r⟩:=(show h.IsList a xs from x);exact⟨o,e _ _ ho,r⟩
theorem kc.ne{i p:Addr}{n:Nat}(x:kc b h i p n)(e:h.get? i=some o):o.cls ≠ .type "tuple":=by
 cases b
 .obtain⟨o',e',c,_⟩:=(show h.IsTupleIter i p n from x);rw[e]at e';cases e';rw[c];exact λz=>absurd (Value.type.inj z) (by decide)
 .obtain⟨o',e',c,_⟩:=(show h.IsListIter i p n from x);rw[e]at e';cases e';rw[c];exact λz=>absurd (Value.type.inj z) (by decide)
section
variable {prog:Program}{w:World}{σ:List Nat}{A:Around}{E:Tl}{s:Shared}
theorem j3w{l:Addr}{items:Array Value}(hl:jV b s.heap l items)(hQ:∀ h',h'.objs.size=s.heap.objs.size+1->kc b h' s.heap.objs.size l 0->(∀ c o,s.heap.get? c=some o->h'.get? c=some o)->Q (.ref s.heap.objs.size) { s with heap:=h' }):wpAny (model prog w) A (pyIter (.ref l)) Q E s:=by
 cases b
 .exact JA (show s.heap.IsTuple l items from hl) (hQ _ (Zv ..) ⟨_,Qv _ rfl,rfl,rfl⟩ λc o e=>Qe _ e)
 .exact Yl (show s.heap.IsList l items from hl) (hQ _ (Zv ..) ⟨_,Qv _ rfl,rfl,rfl⟩ λc o e=>Qe _ e)
set_option maxHeartbeats 3200000 in
theorem k35{t:Addr}{us:List Value}{ks:List Ky}(hA:A.handled=none)(hu:A.in1.in1.in1.units+1<cLine)(ht:jV b s.heap t us.toArray)(hlen:us.length=ks.length)(hk:∀ (i:Nat) (v:Value),us[i]? = some v->v=.ref (ad i))(zj:∀ i,i<ks.length->eI prog w σ s.heap (ks.getD i []) (ad i))(vg:ks.length<=100)
  (q:∀ (h':Heap) (tk:Nat) kl,vd prog w σ (!iM w) s.heap.objs.size ad ks.length h' kl->(∀ x,x∈kl ↔ ∃ j,j<ks.length/\ks.getD j []=x)->(∀ b o,b<s.heap.objs.size->s.heap.get? b=some o->h'.get? b=some o)->Q (.ref s.heap.objs.size) { s with heap:=h',toks:=tk }) :
  wpAny (model prog w) A (call (.type "set") [.ref t]) Q E s:=by
 have c1:=ZO.made;have c2:=ZO.sub;obtain⟨cc,tl,c3⟩:=ZO.mro;have c4:=ZO.notType;have c5:=ZO.canCreate;have c6:=PySem.F.typeCall_set_1 (.ref t);refine VC (codeAny_of_tree (show wpAny _ _ (callAny (.type "set") _) _ _ _ from Qd ⟨Y4 _ (by decide +kernel),Z7 PySem.F.entry_type_call ?_⟩));rw[Around.under_plain (weight_type_call_type "set" [.ref t] []) rfl]
 repeat (any_goals (first|assumption|wp_step))
 refine JQ (k2y (.ref t) (E:=E) (Q₁:=λob s1=>ob=.ref s.heap.objs.size/\s1={ s with heap:=s.heap.push (so 0 (λ_=>0) 0 (!iM w)) }) ⟨rfl,rfl⟩) λr s1 hr=>?_;cases r with
 | error e=>exact hr
 | ok fl=>
  cases fl with
  | ret ob=>
   obtain⟨rfl,rfl⟩:=hr;have g0:(s.heap.push (so 0 (λ_=>0) 0 (!iM w))).get? s.heap.objs.size=some (so 0 (λ_=>0) 0 (!iM w)):=Qv _ rfl;have g1:Shared.TypeIs { s with heap:=s.heap.push (so 0 (λ_=>0) 0 (!iM w)) } (.ref s.heap.objs.size) "set":=⟨_,g0,rfl⟩;have g2:=ZO.init.lookup;have g3:=ZO.init.bind (.ref s.heap.objs.size)
   repeat (any_goals (first|assumption|wp_step))
   refine JQ (Jn (R:=wants (λr s2=>r=.none/\∃ h' tk kl,s2={ s with heap:=h',toks:=tk }/\vd prog w σ (!iM w) s.heap.objs.size ad ks.length h' kl/\(∀ x,x∈kl ↔ ∃ j,j<ks.length/\ks.getD j []=x)/\(∀ b o,b<s.heap.objs.size->s.heap.get? b=some o->h'.get? b=some o)) E)
    ZO.init.plain PySem.F.entry_set_init (check_set_init_1 g1 ?_)) λr2 s2 wR=>?_
   .obtain⟨ol,lF,kN,nl,LF⟩:=ht.obj;obtain⟨oc,od,odt,pV⟩:=ol;simp only at kN LF;subst kN LF;have zk:(s.heap.push (so 0 (λ_=>0) 0 (!iM w))).get? t=some _:=Qe _ lF;have n1:isSubtype (.type (cT b)) (.type "set")=pure false:=by cases b;exact z4b;exact PySem.F.sub_list_set
    have n2:isSubtype (.type (cT b)) (.type "frozenset")=pure false:=by cases b;exact z4i;exact PySem.F.sub_list_frozenset
    have n3:(Value.type (cT b)==Value.type "dict")=false:=by cases b<;>decide
    have tt:jV b (s.heap.push (so 0 (λ_=>0) 0 (!iM w))) t us.toArray:=by cases b;exact⟨_,zk,rfl,nl,rfl⟩;exact⟨_,zk,rfl,nl,rfl⟩
    unfold Builtin.«set.__init__» noKeywords Builtin.Frozenset.updateFrom;generalize hPI:pyIter=PI;wp_walk
    subst hPI;refine j3w tt λhI es hit up=>Qa (wpAny_runValue ?_);have lt:=Qq lF;have e1:(s.heap.push (so 0 (λ_=>0) 0 (!iM w))).objs.size=s.heap.objs.size+1:=Zv ..;have sz:us.toArray.size=ks.length:=by rw[Qn,hlen]
    have vf:∀ (i:Nat) (v:Value),us.toArray[i]? = some v->v=.ref (ad i):=λi v hv=>hk i v (by rw[<- hv];simp);refine k0k (σ:=σ) (n:=us.toArray.size) ((j0j (A:=A.in1.in1.in1) (b:=b) (by simp[hA]) _ t (by rw[e1];exact QS (ZU lt)) us.toArray).toS) hu s.heap.objs.size (by rw[e1];simp only[Qm,QC,Ym,not_or];exact⟨QS (ZP _),VB lt⟩) (!iM w) (by rw[sz];exact vg) (λi=>ks.getD i []) ad vf (λi s' gu b hb o e=>?zz3) (us.toArray.size-0) 0 _ [] (by omega) (Q1 _) ⟨hit,tt.at up⟩ (λj hj=>?zz0) ?zz1 (Q1 _) (λx=>⟨λz=>(QC z).elim,λ⟨j,z,_⟩=>absurd z (Ze _)⟩) ?zz2
    case zz0=>
     rw[sz]at hj;exact(zj j hj).keep λb o _ _ ho _ _=>up _ _ (Qe _ ho)
    case zz3=>
     cases Q6.mp hb;exact gu.1.ne e
    case zz1=>
     refine⟨#[],0,.fresh 0 0 (!iM w),[],up _ _ (g0.trans (Zy some (KZ _))),⟨rfl,⟨rfl,rfl,λi k b x _=>by simp at x,iq.fresh _ _ _,Y8⟩,rfl,rfl,by show 0*5<7*3;decide⟩,λb hb=>(QC hb).elim⟩
    case zz2=>
     intro s' jW hm hS mm;rw[sz]at hS mm;obtain⟨h',g',d',wB,Df⟩:=s';cases (show g'=s.gens from hm.gens);cases (show d'=s.drawn from hm.drawn);cases (show Df=s.os from hm.os);refine Qd (show wpAny _ _ (ret Value.none) _ _ _ from Qd ⟨rfl,h',wB,jW,rfl,hS,mm,λc o hc e=>hm.heap c o ?_ (up _ _ (Qe _ e))⟩);rw[e1];simp only[Qm,QC,Ym,not_or];exact⟨QS hc,QS (ZU hc)⟩
   .cases r2 with
    | error e=>exact wR
    | ok fl2=>
     cases fl2 with
     | ret r=>
      obtain⟨rfl,h',tk,jW,rfl,hS,mm,kp⟩:=wR
      repeat (any_goals (first|assumption|wp_step))
      exact q _ _ _ hS mm kp
     | _=>exact wR.elim
  | _=>exact hr.elim
end
theorem j0d{xs:Array Nat}(r:Rs xs)(hi:i<=xs.size):SetTable.below xs (if i=0 then 0 else xs.getD (i-1) 0+1)=i:=by
 by_cases h0:i=0
 .subst h0;rw[Qh rfl];obtain⟨a,b,c⟩:=u6 r 0;by_cases z:SetTable.below xs 0=0
  .exact z
  .exact absurd (b 0 (by omega)) (Ze _)
 .rw[Ql h0];obtain⟨a,b,c⟩:=u6 r (xs.getD (i-1) 0+1);generalize SetTable.below xs (xs.getD (i-1) 0+1)=q at *
  by_cases l:q<i
  .have h1:=c (i-1) (by omega) (by omega);omega
  .by_cases l2:i<q
   .have h1:=b i l2;have h2:=r (i-1) i (by omega) (by omega);omega
   .omega
structure wU (w:World) (es:Array (Int×Value)) (t:SetTable):Prop where
 ft:t.fits es.size=true
 pl:t.plain=true
 ld:t.led = !iM w
 rs:Rs t.place
 sz:t.place.size=es.size
theorem vc.gd{σ:List Nat}{ep:Nat}{es:Array (Int×Value)}{t:SetTable}{bs:List Addr}(S:vc prog w σ h o ep (!iM w) kl es t bs):wU w es t:=
 ⟨S.S.fits,S.pl,S.ld,S.S.tb.rs,by rw[S.S.tb.sz,Qb,S.S.size]⟩
def kR (w:World)(a:Addr)(es:Array (Int×Value))(ep:Nat):Array (Int×Value):=if iM w then pickOrder (w.params.setOrder a ep) es else es
def n_ (w:World)(t:SetTable)(i:Nat):Nat:=if iM w then 0 else if i=0 then 0 else t.place.getD (i-1) 0+1
theorem LG(w:World)(a:Addr)(es:Array (Int×Value))(ep:Nat):(kR w a es ep).toList.Perm es.toList:=by
 unfold kR;split
 .exact z5d _ _
 .exact .rfl
theorem Cb(w:World)(a:Addr)(es:Array (Int×Value))(ep:Nat):(kR w a es ep).size=es.size:=by rw[<- QG,(LG w a es ep).length_eq,QG]
section
variable {prog:Program}{w:World}{A:Around}{E:Tl}{s:Shared}{a I:Addr}{ep:Nat}{es:Array (Int×Value)}{t:SetTable}
theorem fO{Q:(Array (Int×Value)×Nat×SetTable)->Shared->Prop}(hm:wU w es t)(ho:s.heap.get? a=some (o9 es ep t))(h:Q (es,ep,t) s):wpAny (model prog w) A (setState a) Q E s:=
 Z6 ho rfl hm.ft h
theorem k10(hm:wU w es t)(ho:s.heap.get? a=some (o9 es ep t))
  (hQ:Q (.ref s.heap.objs.size) { s with heap:=s.heap.push (io a 0 0 es.size ep) }):wpAny (model prog w) A (pyIter (.ref a)) Q E s:=by
 have hT:s.TypeIs (.ref a) "set":=⟨_,ho,rfl⟩;refine wpAny_pyIter_slot hT VX (Zh VX hT z9j ?_ (PySem.F.args_set_iter_1 _));unfold Builtin.«frozenset.__iter__» Builtin.Frozenset.slot0 slotArgs;simp only[List.isEmpty_nil,Zx,Qs,↓reduceIte,bind_assoc,Jk,Ys];unfold Builtin.Frozenset.addrOf Builtin.Frozenset.sizeOf;refine Qa (Qd ?_)
 try dsimp only
 refine Qa (Qd ?_);have zm:∀ {R:Array (Int×Value)->Shared->Prop},R es s->wpAny (model prog w) A.in1 (setEntries a) R E s:=λh=>by unfold setEntries;exact Qa (fO hm ho (Qd h))
 refine Qa (Qa (zm (Qd ?_)));have hdr:∀ {R:Bool->Shared->Prop},R false s->wpAny (model prog w) A.in1 (setDrawn a) R E s:=λh=>by
  unfold setDrawn;refine Qa (fO hm ho (Qa (E7 (Qd ?_))));have e:(!iM w&&(!t.plain&&decide (es.size > 1)))=false:=by rw[hm.pl];cases iM w<;>rfl
  exact e ▸ h
 refine Qa (hdr ?_);simp only[Qs,↓reduceIte];refine Qa (Qd ?_);have hep:∀ {R:Nat->Shared->Prop},R ep s->wpAny (model prog w) A.in1 (setEpoch a) R E s:=λh=>by unfold setEpoch;exact Qa (fO hm ho (Qd h))
 refine Qa (hep ?_);unfold newFields;refine Qa (Zj (Qd ⟨_,rfl,"set_iterator",_,⟨_,Qv _ rfl,rfl⟩,wL.lookup,?_⟩));exact hQ
theorem LH{R:Option (Value×Nat)->Shared->Prop}(hm:wU w es t)(hi:i<=es.size)(ho:s.heap.get? a=some (o9 es ep t))
  (h:R (((kR w a es ep)[i]?).map λe=>(e.2,n_ w t (i+1))) s):wpAny (model prog w) A (setNext a (n_ w t i) i ep) R E s:=by
 unfold setNext;refine Qa (fO hm ho (Qa (E7 ?_)));dsimp only;cases hb:iM w with
 | true=>
  rw[Qh rfl];rw[Ql (by simp)];refine Qa (m:=setWalk a) ?_;unfold setWalk;refine Qa (fO hm ho (Qa (E7 ?_)));rw[hb,Qh rfl];refine Qa (VA (Qd (Qd ?_)));unfold kR n_ at h;rw[hb]at h;simp only[↓reduceIte]at h;unfold n_;rw[hb,Qh rfl];exact h
 | false=>
  rw[Ql (by simp)];have lt:t.led=true:=by rw[hm.ld,hb];rfl
  refine(show wpAny _ _ (if((!t.plain&&decide (es.size > 1))=true)then _ else _) _ _ _ from ?_);rw[Ql (show ¬ ((!t.plain&&decide (es.size > 1))=true)from by rw[hm.pl];simp)];refine Qa (show wpAny _ _ (if((!t.led && !es.isEmpty)=true)then unsupported "set:maker-not-led" else pure ()) _ _ _ from ?_);rw[Ql (show ¬ ((!t.led && !es.isEmpty)=true)from by rw[lt];simp)];refine Qd ?_;unfold kR n_ at h;rw[hb]at h;simp only[Qs,↓reduceIte,Nat.add_one_ne_zero,Nat.add_sub_cancel]at h;unfold n_;rw[hb];simp only[Qs,↓reduceIte];refine Qd ?_;rw[j0d hm.rs (by rw[hm.sz];exact hi)];rcases Nat.lt_or_ge i es.size with dz|hge
  .have e1:es[i]? = some es[i]:=ZH dz;have e2:t.place[i]? = some (t.place.getD i 0):=B8 (by rw[hm.sz];exact dz);rw[e1]at h ⊢;rw[e2];exact h
  .have e1:es[i]? = none:=Yt hge;rw[e1]at h ⊢;exact h
theorem k19(hh:A.handled=none)(eJ:a≠I)(hm:wU w es t):Walks prog w A I [I,a] [I] es.size (λi v=>∃ e,(kR w a es ep)[i]? = some e/\v=e.2)
  (λi h=>h.get? I=some (io a (n_ w t i) i es.size ep)/\h.get? a=some (o9 es ep t)) where
 sub:=λb hb=>by simp at hb;simp[hb]
 frame:=λ_ _ _ st hk=>⟨hk I (by simp) _ st.1,hk a (by simp) _ st.2⟩
 self:=λi s Q E st hQ=>by have hT:s.TypeIs (.ref I) "set_iterator":=⟨_,st.1,rfl⟩;refine wpAny_pyIter_slot hT K3 (Zh K3 hT z5t ?_ (j0h _));show wpAny _ _ (ret (.ref I)) _ _ s;exact Qd ⟨_,rfl,"set_iterator",_,hT,wL.lookup,hQ⟩
 item:=λi s Q E hi st hQ=>by
  have hT:s.TypeIs (.ref I) "set_iterator":=⟨_,st.1,rfl⟩;unfold pyNext;refine Qa (JY (Zu (name:=Str.ofString "__next__") hT wL (Zh wL hT K1 ?_ (K2 _))));unfold Builtin.«set_iterator.__next__»;refine Qa (Qd ?_);refine Qa (wpAny_fieldsOf st.1 rfl ?_);show wpAny _ _ (setEntries a >>= _) _ _ _;have zm:∀ {R:Array (Int×Value)->Shared->Prop} {E:Tl},R es s->wpAny (model prog w) A.in1 (setEntries a) R E s:=λh=>by unfold setEntries;exact Qa (fO hm st.2 (Qd h))
  refine Qa (zm ?_);dsimp only;rw[Ql (by simp)];show wpAny _ _ (setNext a (n_ w t i) i ep >>= _) _ _ _;refine Qa (LH hm (Jx hi) st.2 ?_);have ew:(kR w a es ep)[i]? = some ((kR w a es ep)[i]'(by rw[Cb];exact hi)):=ZH (by rw[Cb];exact hi);rw[ew];show wpAny _ _ (setField (.ref I) 0 (rawInt (n_ w t (i+1))) >>= _) _ _ _;refine Qa (wpAny_setField_rec st.1 (by simp) λh1 g1 b1=>?_);refine Qa (wpAny_setField_rec (s:={ s with heap:=h1 }) g1 (by simp) λh2 g2 b2=>?_);refine Qd ⟨_,rfl,Qd (hQ _ h2 s.toks ⟨_,ew,rfl⟩ ⟨?_,?_⟩ λb o hb e=>?_)⟩
  .rw[g2];simp[io,rawInt]
  .have n1:=(b1.2 a eJ);have n2:=(b2.2 a eJ);rw[n2,n1];exact st.2
  .have my:b≠I:=λh=>hb (by simp[h]);rw[b2.2 b my,b1.2 b my];exact e
 done:=λs Q E st hQ=>by
  have hT:s.TypeIs (.ref I) "set_iterator":=⟨_,st.1,rfl⟩;unfold pyNext;refine Qa (JY (Zu (name:=Str.ofString "__next__") hT wL (Zh wL hT K1 ?_ (K2 _))));unfold Builtin.«set_iterator.__next__»;refine Qa (Qd ?_);refine Qa (wpAny_fieldsOf st.1 rfl ?_);show wpAny _ _ (setEntries a >>= _) _ _ _;have zm:∀ {R:Array (Int×Value)->Shared->Prop} {E:Tl},R es s->wpAny (model prog w) A.in1 (setEntries a) R E s:=λh=>by unfold setEntries;exact Qa (fO hm st.2 (Qd h))
  refine Qa (zm ?_);dsimp only;rw[Ql (by simp)];show wpAny _ _ (setNext a (n_ w t es.size) es.size ep >>= _) _ _ _;refine Qa (LH hm (Qj _) st.2 ?_);have ew:(kR w a es ep)[es.size]? = none:=Yt (by rw[Cb];exact Qj _);rw[ew];show wpAny _ _ (setField (.ref I) 2 .none >>= _) _ _ _;refine Qa (wpAny_setField_rec st.1 (by simp) λh1 g1 b1=>?_);show wpAny _ _ (newExc (.type "StopIteration") [] >>= _) _ _ _;refine Qa ?_;simp only[newExc,newTuple];refine Qa (Zj ?_ (by size_fits));refine Qa (m:=firstArgMember _ _) (wpAny_of_eq (a:=Value.none) (by first|rfl|(simp only[firstArgMember];rfl)) ?_);refine Zj ?_ (by size_fits);simp only[raiseNew];refine Qa (wpAny_handled ?_);rw[show A.in1.handled=none from hh];refine Qa (Qd (wpAny_throw ?_));refine Qa (Jb (T:="StopIteration") (b:=true) ⟨_,Qv _ rfl,rfl⟩ V6 ?_);refine Qd (hQ _ s.toks λb o hb e=>?_);have my:b≠I:=λh=>hb (by simp[h]);exact Qe _ (Qe _ (by rw[b1.2 b my];exact e))
theorem k3w(hm:wU w es t):KdlSrc prog w "set" a a es.size (λi v=>∃ e,(kR w a es ep)[i]? = some e/\v=e.2) (λh=>h.get? a=some (o9 es ep t)) where
 type:=λ_ h=>⟨_,h,rfl⟩
 there:=λ_ h=>⟨Qq h,Qq h⟩
 keep:=λ_ _ h hk=>hk a (.inl rfl) _ h
 notList:=by decide
 notTuple:=by decide
 hint:=λ_ _ _ _ h hq=>k1s ⟨_,h,rfl⟩ hq
 iter:=λA s hh h=>⟨io a 0 0 es.size ep,_,(λ_ _ hq=>k10 hm h hq),k19 hh (QS (Qq h)) hm,⟨by rw[show n_ w t 0=0 by unfold n_;split<;>rfl];exact Qv _ rfl,Qe _ h⟩⟩
end
end L3
namespace L3
open PySem PySem.W PyProof.Rows
variable {P:PySem.Fin->Shared->Prop}{Q:Bool->Shared->Prop}{a b:Addr}{f:Bool}{h:Heap}{i j n bh:Nat}{ks:List Ky}{l m:List Nat}{p p0:Array Nat}{vs:List Value}{x:Ky}{y:It}
def bP {α:Type}(lt:Nat->Nat->Bool):KasT α->α
 | .ret a=>a
 | .ask i j k=>bP lt (k (lt i j))
theorem rK{α β:Type}(lt:Nat->Nat->Bool)(f:α->KasT β):∀ t:KasT α,bP lt (t.bind f)=bP lt (f (bP lt t))
 | .ret _=>rfl
 | .ask i j k=>rK lt f (k (lt i j))
variable {r:Nat->Int}
abbrev dH (r:Nat->Int)(i j:Nat):Bool:=decide (r i<r j)
abbrev xv (r:Nat->Int)(p:Array Nat)(i:Nat):Int:=r (p.getD i 0)
theorem Fw(p:Array Nat):∀ (f n:Nat),n<=bP (dH r) (kas_asc p f n)/\bP (dH r) (kas_asc p f n)<=n+f/\(∀ k,n<=k->k<bP (dH r) (kas_asc p f n)->xv r p (k-1)<=xv r p k)/\(bP (dH r) (kas_asc p f n)<n+f->xv r p (bP (dH r) (kas_asc p f n))<xv r p (bP (dH r) (kas_asc p f n)-1))
 | 0,n=>⟨Qj _,Qj _,λk a b=>absurd (Yc a b) (QW _),λh=>absurd h (QW _)⟩
 | f+1,n=>by
  have e:bP (dH r) (kas_asc p (f+1) n)=if xv r p n<xv r p (n-1)then n else bP (dH r) (kas_asc p f (n+1)):=by
   show bP (dH r) (if decide (r (p.getD n 0)<r (p.getD (n-1) 0))=true then KasT.ret n else kas_asc p f (n+1))=_;by_cases c:xv r p n<xv r p (n-1)
   .rw[Qh c,Qh (Qr c)];rfl
   .rw[Ql c,Ql (by rw[ZC];exact c)]
  rw[e];by_cases c:xv r p n<xv r p (n-1)
  .rw[Qh c];exact⟨Qj _,by omega,λk a b=>by omega,λ_=>c⟩
  .rw[Ql c];obtain⟨h1,h2,h3,h4⟩:=Fw p f (n+1);refine⟨by omega,by omega,λk a b=>?_,λh=>h4 (by omega)⟩;by_cases z:k=n
   .subst z;omega
   .exact h3 k (by omega) b
theorem zq{x:Nat->Int}(h:∀ k,1<=k->k<n->x (k-1)<=x k):∀ (i j:Nat),i<=j->j<n->x i<=x j:=by
 intro i j;induction j with
 | zero=>
  intro a _;have:i=0:=by omega
  subst this;exact Vl _
 | succ j ih=>
  intro a b;by_cases z:i=j+1
  .subst z;exact Vl _
  .exact Int.le_trans (ih (by omega) (by omega)) (h (j+1) (by omega) b)
theorem Fy(hj:j<=p.size)(k:Nat):xv r (kas_rev p i j) k=if i<=k/\k<j then xv r p (i+j-1-k)else xv r p k:=by
 unfold kas_rev;show r ((mirror p i j ((j-i) / 2)).getD k 0)=_;rw[QJ,getElem?_mirror_all hj k];split
 .rw[<- QJ]
 .rw[<- QJ]
theorem tH(p:Array Nat)(i j:Nat):(kas_rev p i j).Perm p:=mirror_perm _ _ _ _
theorem Fz(hj:j<=p.size)(h:∀ k,i<=k->k<j->xv r p k=xv r p (j-1))(k:Nat):xv r (kas_rev p i j) k=xv r p k:=by
 rw[Fy hj];split;next c=>
  rw[h (i+j-1-k) (by omega) (by omega),h k c.1 c.2]
 .rfl
structure Dn (r:Nat->Int) (p0 p:Array Nat) (n q:Nat):Prop where
 pm:p.Perm p0
 le:n<=p0.size
 q1:q<n
 dn:∀ k,1<=k->k<n->xv r p k<=xv r p (k-1)
 eq:∀ k,n-(q+1)<=k->k<n->xv r p k=xv r p (n-1)
theorem Cc:∀ (f:Nat) (p:Array Nat) (n q:Nat),Dn r p0 p n q->n+f<=p0.size->∃ p' n' q',bP (dH r) (kas_desc f p n q)=(p',n',q')/\Dn r p0 p' n' q'/\n<=n'/\n'<=n+f
 | 0,p,n,q,h,_=>⟨p,n,q,rfl,h,Qj _,Qj _⟩
 | f+1,p,n,q,h,hf=>by
  have sz:p.size=p0.size:=h.pm.size_eq;have hq:=h.q1;have e:bP (dH r) (kas_desc (f+1) p n q)=if xv r p n<xv r p (n-1)then(if q > 0 then bP (dH r) (kas_desc f (kas_rev p (n-(q+1)) n) (n+1) 0)else bP (dH r) (kas_desc f p (n+1) 0))else if xv r p (n-1)<xv r p n then(p,n,q)else bP (dH r) (kas_desc f p (n+1) (q+1)):=by
   show bP (dH r) (if decide (r (p.getD n 0)<r (p.getD (n-1) 0))=true then(if q > 0 then kas_desc f (kas_rev p (n-(q+1)) n) (n+1) 0 else kas_desc f p (n+1) 0)else KasT.ask (p.getD (n-1) 0) (p.getD n 0) λd=>if d=true then KasT.ret (p,n,q)else kas_desc f p (n+1) (q+1))=_;by_cases c:xv r p n<xv r p (n-1)
   .rw[Qh c,Qh (Qr c)];split<;>rfl
   .rw[Ql c,Ql (by rw[ZC];exact c)];show bP (dH r) (if decide (r (p.getD (n-1) 0)<r (p.getD n 0))=true then KasT.ret (p,n,q)else kas_desc f p (n+1) (q+1))=_;by_cases d:xv r p (n-1)<xv r p n
    .rw[Qh d,Qh (Qr d)];rfl
    .rw[Ql d,Ql (by rw[ZC];exact d)]
  rw[e];by_cases c:xv r p n<xv r p (n-1)
  .rw[Qh c];have step:∀ p1:Array Nat,p1.Perm p0->(∀ k,xv r p1 k=xv r p k)->Dn r p0 p1 (n+1) 0:=λp1 pm ex=>by
    refine⟨pm,by omega,by omega,λk a b=>?_,λk a b=>by rw[show k=n+1-1 by omega]⟩;rw[ex,ex];by_cases z:k=n
    .subst z;omega
    .exact h.dn k a (by omega)
   by_cases d:q > 0
   .rw[Qh d];obtain⟨p',n',q',e1,e2,e3,e4⟩:=Cc f _ (n+1) 0 (step _ ((tH _ _ _).trans h.pm) λk=>Fz (by omega) h.eq k) (by omega);exact⟨p',n',q',e1,e2,by omega,by omega⟩
   .rw[Ql d];obtain⟨p',n',q',e1,e2,e3,e4⟩:=Cc f _ (n+1) 0 (step p h.pm λ_=>rfl) (by omega);exact⟨p',n',q',e1,e2,by omega,by omega⟩
  .rw[Ql c];by_cases d:xv r p (n-1)<xv r p n
   .rw[Qh d];exact⟨p,n,q,rfl,h,Qj _,by omega⟩
   .rw[Ql d];have en:xv r p n=xv r p (n-1):=by omega
    obtain⟨p',n',q',e1,e2,e3,e4⟩:=Cc f p (n+1) (q+1) ⟨h.pm,by omega,by omega,λk a b=>by
     by_cases z:k=n
     .subst z;omega
     .exact h.dn k a (by omega),λk a b=>by
     rw[show n+1-1=n by omega];by_cases z:k=n
     .rw[z]
     .rw[h.eq k (by omega) (by omega),en]⟩ (by omega)
    exact⟨p',n',q',e1,e2,by omega,by omega⟩
structure Up (r:Nat->Int) (p0 p:Array Nat) (n:Nat):Prop where
 pm:p.Perm p0
 n1:1<=n
 le:n<=p0.size
 up:∀ k,1<=k->k<n->xv r p (k-1)<=xv r p k
theorem LJ{q:Nat}(h:Dn r p0 p n q)(hn:bh=p0.size):∃ m p',bP (dH r) (kas_tail3 n bh p)=(m,p')/\Up r p0 p' m:=by
 have sz:p.size=p0.size:=h.pm.size_eq;have hl:=h.le;have hq:=h.q1;unfold kas_tail3;rw[rK];obtain⟨h1,h2,h3,_⟩:=Fw (r:=r) (kas_rev p 0 n) (bh-n) n;refine⟨_,_,rfl,(tH _ _ _).trans h.pm,by omega,by omega,λk a b=>?_⟩;by_cases z:k<n
 .rw[Fy (by omega),Fy (by omega),Qh ⟨by omega,by omega⟩,Qh ⟨by omega,z⟩];have:=h.dn (0+n-1-(k-1)) (by omega) (by omega);rw[show 0+n-1-(k-1)-1=0+n-1-k by omega]at this;exact this
 .exact h3 k (by omega) b
theorem LK(h:Dn r p0 p (n+1) 0)(hn:bh=p0.size):∃ m p',bP (dH r) (kas_descPart n bh p)=(m,p')/\Up r p0 p' m:=by
 have hl:=h.le;unfold kas_descPart;rw[rK];obtain⟨p',n',q',e,d,a,b⟩:=Cc (bh-(n+1)) p (n+1) 0 h (by omega);rw[e];show ∃ m p'',bP (dH r) (if q' > 0 then kas_tail3 n' bh (kas_rev p' (n'-(q'+1)) n')else kas_tail3 n' bh p')=(m,p'')/\_;have sz:p'.size=p0.size:=d.pm.size_eq;have oz:=d.le;by_cases c:q' > 0
 .rw[Qh c];have ex:∀ k,xv r (kas_rev p' (n'-(q'+1)) n') k=xv r p' k:=λk=>Fz (by omega) d.eq k;exact LJ (q:=q') ⟨(tH _ _ _).trans d.pm,d.le,d.q1,λk a b=>by rw[ex,ex];exact d.dn k a b,λk a b=>by rw[ex,ex];exact d.eq k a b⟩ hn
 .rw[Ql c];exact LJ d hn
theorem z8w(h1:1<=p0.size):∃ m p',bP (dH r) (kas_count p0.size p0)=(m,p')/\Up r p0 p' m:=by
 unfold kas_count;rw[rK];obtain⟨a,b,c,d⟩:=Fw (r:=r) p0 (p0.size-1) 1;generalize bP (dH r) (kas_asc p0 (p0.size-1) 1)=n at *
 show ∃ m p',bP (dH r) (if(n==p0.size)=true then KasT.ret (n,p0)else if n > 1 then KasT.ask (p0.getD 0 0) (p0.getD (n-1) 0) λc=>if c=true then KasT.ret (n,p0)else kas_descPart n p0.size (kas_rev p0 0 n)else kas_descPart n p0.size p0)=(m,p')/\_;by_cases z:n=p0.size
 .rw[Qh (by rw[ZV];exact z)];exact⟨n,p0,rfl,VP _,a,by omega,c⟩
 .rw[Ql (by rw[ZV];exact z)];have lt:=d (by omega);by_cases y:n > 1
  .rw[Qh y];show ∃ m p',bP (dH r) (if decide (r (p0.getD 0 0)<r (p0.getD (n-1) 0))=true then KasT.ret (n,p0)else kas_descPart n p0.size (kas_rev p0 0 n))=(m,p')/\_;by_cases x:xv r p0 0<xv r p0 (n-1)
   .rw[Qh (Qr x)];exact⟨n,p0,rfl,VP _,a,by omega,c⟩
   .rw[Ql (by rw[ZC];exact x)];have same:∀ k,0<=k->k<n->xv r p0 k=xv r p0 (n-1):=λk _ hk=>by have l1:=zq c 0 k (Q1 _) hk;have l2:=zq c k (n-1) (by omega) (by omega);omega
    have ex:∀ k,xv r (kas_rev p0 0 n) k=xv r p0 k:=λk=>Fz (by omega) same k;refine LK ⟨tH _ _ _,by omega,by omega,λk q1 q2=>?_,λk q1 q2=>by rw[show k=n+1-1 by omega]⟩ rfl;rw[ex,ex];by_cases w:k=n
    .subst w;omega
    .rw[same k (Q1 _) (by omega),same (k-1) (Q1 _) (by omega)];exact Vl _
  .rw[Ql y];have n1:n=1:=by omega
   subst n1;refine LK ⟨VP _,by omega,by omega,λk q1 q2=>?_,λk q1 q2=>by rw[show k=1+1-1 by omega]⟩ rfl;rw[show k=1 by omega];omega
variable {r:Nat->Int}
theorem zr{k:Nat}(up:∀ j,1<=j->j<k->xv r p (j-1)<=xv r p j):∀ (f l u:Nat),u-l<=f->l<=u->u<=k->(∀ i,i<l->xv r p i<=xv r p k)->(∀ i,u<=i->i<k->xv r p k<xv r p i)->
  bP (dH r) (kas_place p k f l u)<=k/\(∀ i,i<bP (dH r) (kas_place p k f l u)->xv r p i<=xv r p k)/\(∀ i,bP (dH r) (kas_place p k f l u)<=i->i<k->xv r p k<xv r p i)
 | 0,l,u,hf,hl,hu,h1,h2=>⟨by show l<=k;omega,h1,λi a b=>h2 i (by have:l<=i:=a;omega) b⟩
 | f+1,l,u,hf,hl,hu,h1,h2=>by
  have e:bP (dH r) (kas_place p k (f+1) l u)=if l ≥ u then l else if xv r p k<xv r p ((l+u) / 2)then bP (dH r) (kas_place p k f l ((l+u) / 2))else bP (dH r) (kas_place p k f ((l+u) / 2+1) u):=by
   show bP (dH r) (if l ≥ u then KasT.ret l else KasT.ask (p.getD k 0) (p.getD ((l+u) / 2) 0) λc=>if c=true then kas_place p k f l ((l+u) / 2)else kas_place p k f ((l+u) / 2+1) u)=_;by_cases c:l ≥ u
   .rw[Qh c,Qh c];rfl
   .rw[Ql c,Ql c];show bP (dH r) (if decide (r (p.getD k 0)<r (p.getD ((l+u) / 2) 0))=true then kas_place p k f l ((l+u) / 2)else kas_place p k f ((l+u) / 2+1) u)=_;by_cases d:xv r p k<xv r p ((l+u) / 2)
    .rw[Qh d,Qh (Qr d)]
    .rw[Ql d,Ql (by rw[ZC];exact d)]
  rw[e];by_cases c:l ≥ u
  .rw[Qh c];exact⟨by omega,h1,λi a b=>h2 i (by omega) b⟩
  .rw[Ql c];by_cases d:xv r p k<xv r p ((l+u) / 2)
   .rw[Qh d];refine zr up f l _ (by omega) (by omega) (by omega) h1 λi a b=>?_;exact Int.lt_of_lt_of_le d (zq up _ i a b)
   .rw[Ql d];refine zr up f _ u (by omega) (by omega) hu (λi a=>?_) h2;have:=zq up i ((l+u) / 2) (by omega) (by omega);omega
theorem j7c{k d:Nat}(hk:k<p.size)(hd:d<=k)(j:Nat):xv r (bubble p k d) j=if j=k-d then xv r p k else if k-d<j/\j<=k then xv r p (j-1)else xv r p j:=by
 show r ((bubble p k d).getD j 0)=_;rw[QJ,getElem?_bubble hk d hd j];split
 .rw[<- QJ]
 .split
  .rw[<- QJ]
  .rw[<- QJ]
theorem LL:∀ (f:Nat) (p:Array Nat) (k:Nat),Up r p0 p k->k+f=p0.size->Up r p0 (bP (dH r) (kas_bin f p k)) p0.size
 | 0,p,k,h,hk=>by
  have:k=p0.size:=by omega
  subst this;exact h
 | f+1,p,k,h,hk=>by
  have sz:p.size=p0.size:=h.pm.size_eq;have h1:=h.n1;have sW:k<p.size:=by omega
  obtain⟨a,b,c⟩:=zr (r:=r) (p:=p) (k:=k) h.up k 0 k (by omega) (Q1 _) (Qj _) (λ_ z=>absurd z (Ze _)) (λi a b=>by omega);have e:bP (dH r) (kas_bin (f+1) p k)=bP (dH r) (kas_bin f (bubble p k (k-bP (dH r) (kas_place p k k 0 k))) (k+1)):=rK _ _ _;rw[e];generalize bP (dH r) (kas_place p k k 0 k)=l at *
  refine LL f _ (k+1) ⟨(bubble_perm _ _ _).trans h.pm,by omega,by omega,λj q1 q2=>?_⟩ (by omega);have x:∀ j,xv r (bubble p k (k-l)) j=if j=l then xv r p k else if l<j/\j<=k then xv r p (j-1)else xv r p j:=λj=>by rw[j7c sW (by omega),show k-(k-l)=l by omega]
  rw[x,x];by_cases z:j=l
  .subst z;rw[Ql (by omega),Ql (by omega),Qh rfl];exact b (j-1) (by omega)
  .rw[Ql z];by_cases y:j-1=l
   .rw[Qh y,Qh ⟨by omega,by omega⟩];rw[y];exact Int.le_of_lt (c l (Qj _) (by omega))
   .rw[Ql y];by_cases w:l<j
    .rw[Qh ⟨by omega,by omega⟩,Qh ⟨w,by omega⟩];exact h.up (j-1) (by omega) (by omega)
    .rw[Ql (by omega),Ql (by omega)];exact h.up j q1 (by omega)
theorem j38(hn:1<=n):(bP (dH r) (kas_sort n)).Perm (List.toArray (range n))/\∀ i j,i<=j->j<n->xv r (bP (dH r) (kas_sort n)) i<=xv r (bP (dH r) (kas_sort n)) j:=by
 have s0:(List.toArray (range n)).size=n:=by rw[Qn,QK]
 obtain⟨m,p,e,h⟩:=z8w (r:=r) (p0:=List.toArray (range n)) (by omega);rw[s0]at e;have e2:bP (dH r) (kas_sort n)=bP (dH r) (if m<n then kas_bin (n-max m 1) p (max m 1)else KasT.ret p):=by unfold kas_sort;rw[rK,e]
 have h1:=h.n1;have hl:=h.le;rw[s0]at hl;have up:Up r (List.toArray (range n)) (bP (dH r) (kas_sort n)) (List.toArray (range n)).size:=by
  rw[e2];by_cases c:m<n
  .rw[Qh c,show max m 1=m by omega];exact LL _ _ _ h (by omega)
  .rw[Ql c];have:m=(List.toArray (range n)).size:=by omega
   rw[<- this];exact h
 refine⟨up.pm,λi j a b=>zq up.up i j a (by rw[s0];exact b)⟩
def jc {α:Type}(lt:Nat->Nat->Bool)(n:Nat):KasT α->Prop
 | .ret _=>True
 | .ask i j k=>i<n/\j<n/\jc lt n (k (lt i j))
theorem wV{α β:Type}{lt:Nat->Nat->Bool}{f:α->KasT β}:∀ {t:KasT α},jc lt n t->jc lt n (f (bP lt t))->jc lt n (t.bind f)
 | .ret _,_,h=>h
 | .ask _ _ _,h,h'=>⟨h.1,h.2.1,wV h.2.2 h'⟩
def Vp (n:Nat)(p:Array Nat):Prop:=∀ k,p.getD k 0<n
theorem Vp.pm{q:Array Nat}(h:Vp n q)(h0:0<n)(e:p.Perm q):Vp n p:=λk=>by
 by_cases c:k<p.size
 .have m:p[k]∈q:=e.mem_iff.mp (Vk c);obtain⟨j,hj,q'⟩:=V8 m;have:p.getD k 0=p[k]:=by unfold Array.getD;rw[VI c];rfl
  rw[this,<- q'];have:=h j;unfold Array.getD at this;rw[VI hj]at this;exact this
 .unfold Array.getD;rw[dif_neg c];exact h0
variable {lt:Nat->Nat->Bool}{n:Nat}
theorem FA(v:Vp n p):∀ f m,jc lt n (kas_asc p f m)
 | 0,_=>trivial
 | f+1,m=>⟨v _,v _,by
  show jc lt n (if lt (p.getD m 0) (p.getD (m-1) 0)=true then KasT.ret m else kas_asc p f (m+1));split
  .trivial
  .exact FA v f (m+1)⟩
theorem Cd(h0:0<n):∀ (f:Nat) (p:Array Nat) (m q:Nat),Vp n p->jc lt n (kas_desc f p m q)/\Vp n (bP lt (kas_desc f p m q)).1
 | 0,_,_,_,v=>⟨trivial,v⟩
 | f+1,p,m,q,v=>by
  have vr:∀ i j,Vp n (kas_rev p i j):=λi j=>v.pm h0 (tH _ _ _);have key:jc lt n (if lt (p.getD m 0) (p.getD (m-1) 0)=true then(if q > 0 then kas_desc f (kas_rev p (m-(q+1)) m) (m+1) 0 else kas_desc f p (m+1) 0)else KasT.ask (p.getD (m-1) 0) (p.getD m 0) λd=>if d=true then KasT.ret (p,m,q)else kas_desc f p (m+1) (q+1)) /\
    Vp n (bP lt (if lt (p.getD m 0) (p.getD (m-1) 0)=true then(if q > 0 then kas_desc f (kas_rev p (m-(q+1)) m) (m+1) 0 else kas_desc f p (m+1) 0)else KasT.ask (p.getD (m-1) 0) (p.getD m 0) λd=>if d=true then KasT.ret (p,m,q)else kas_desc f p (m+1) (q+1))).1:=by
   split
   .split
    .exact Cd h0 f _ _ _ (vr _ _)
    .exact Cd h0 f _ _ _ v
   .have k2:jc lt n (if lt (p.getD (m-1) 0) (p.getD m 0)=true then KasT.ret (p,m,q)else kas_desc f p (m+1) (q+1))/\Vp n (bP lt (if lt (p.getD (m-1) 0) (p.getD m 0)=true then KasT.ret (p,m,q)else kas_desc f p (m+1) (q+1))).1:=by
     split
     .exact⟨trivial,v⟩
     .exact Cd h0 f _ _ _ v
    exact⟨⟨v _,v _,k2.1⟩,k2.2⟩
  exact⟨⟨v _,v _,key.1⟩,key.2⟩
theorem LM(h0:0<n)(v:Vp n p)(m bh:Nat):jc lt n (kas_tail3 m bh p)/\Vp n (bP lt (kas_tail3 m bh p)).2:=by have vr:Vp n (kas_rev p 0 m):=v.pm h0 (tH _ _ _);unfold kas_tail3;exact⟨wV (FA vr _ _) trivial,by rw[rK];exact vr⟩
theorem LN(h0:0<n)(v:Vp n p)(m bh:Nat):jc lt n (kas_descPart m bh p)/\Vp n (bP lt (kas_descPart m bh p)).2:=by
 unfold kas_descPart;obtain⟨a,b⟩:=Cd (lt:=lt) h0 (bh-(m+1)) p (m+1) 0 v;have key:jc lt n (if(bP lt (kas_desc (bh-(m+1)) p (m+1) 0)).2.2 > 0 then kas_tail3 (bP lt (kas_desc (bh-(m+1)) p (m+1) 0)).2.1 bh (kas_rev (bP lt (kas_desc (bh-(m+1)) p (m+1) 0)).1 ((bP lt (kas_desc (bh-(m+1)) p (m+1) 0)).2.1-((bP lt (kas_desc (bh-(m+1)) p (m+1) 0)).2.2+1)) (bP lt (kas_desc (bh-(m+1)) p (m+1) 0)).2.1)else kas_tail3 (bP lt (kas_desc (bh-(m+1)) p (m+1) 0)).2.1 bh (bP lt (kas_desc (bh-(m+1)) p (m+1) 0)).1)/\Vp n (bP lt (if(bP lt (kas_desc (bh-(m+1)) p (m+1) 0)).2.2 > 0 then kas_tail3 (bP lt (kas_desc (bh-(m+1)) p (m+1) 0)).2.1 bh (kas_rev (bP lt (kas_desc (bh-(m+1)) p (m+1) 0)).1 ((bP lt (kas_desc (bh-(m+1)) p (m+1) 0)).2.1-((bP lt (kas_desc (bh-(m+1)) p (m+1) 0)).2.2+1)) (bP lt (kas_desc (bh-(m+1)) p (m+1) 0)).2.1)else kas_tail3 (bP lt (kas_desc (bh-(m+1)) p (m+1) 0)).2.1 bh (bP lt (kas_desc (bh-(m+1)) p (m+1) 0)).1)).2:=by
  split
  .exact LM h0 (b.pm h0 (tH _ _ _)) _ _
  .exact LM h0 b _ _
 exact⟨wV a key.1,by rw[rK];exact key.2⟩
theorem z61(h0:0<n)(v:Vp n p)(bh:Nat):jc lt n (kas_count bh p)/\Vp n (bP lt (kas_count bh p)).2:=by
 unfold kas_count;have a:=FA (lt:=lt) v (bh-1) 1;generalize kas_asc p (bh-1) 1=t at *
 generalize hm:bP lt t=m;have vr:Vp n (kas_rev p 0 m):=v.pm h0 (tH _ _ _);have key:jc lt n (if(m==bh)=true then KasT.ret (m,p)else if m > 1 then KasT.ask (p.getD 0 0) (p.getD (m-1) 0) λc=>if c=true then KasT.ret (m,p)else kas_descPart m bh (kas_rev p 0 m)else kas_descPart m bh p)/\Vp n (bP lt (if(m==bh)=true then KasT.ret (m,p)else if m > 1 then KasT.ask (p.getD 0 0) (p.getD (m-1) 0) λc=>if c=true then KasT.ret (m,p)else kas_descPart m bh (kas_rev p 0 m)else kas_descPart m bh p)).2:=by
  split
  .exact⟨trivial,v⟩
  .split
   .have k2:jc lt n (if lt (p.getD 0 0) (p.getD (m-1) 0)=true then KasT.ret (m,p)else kas_descPart m bh (kas_rev p 0 m))/\Vp n (bP lt (if lt (p.getD 0 0) (p.getD (m-1) 0)=true then KasT.ret (m,p)else kas_descPart m bh (kas_rev p 0 m))).2:=by
     split
     .exact⟨trivial,v⟩
     .exact LN h0 vr _ _
    exact⟨⟨v _,v _,k2.1⟩,k2.2⟩
   .exact LN h0 v _ _
 rw[<- hm]at key;exact⟨wV a key.1,by rw[rK];exact key.2⟩
theorem FC(v:Vp n p)(k:Nat):∀ f l u,jc lt n (kas_place p k f l u)
 | 0,_,_=>trivial
 | f+1,l,u=>by
  show jc lt n (if l ≥ u then KasT.ret l else KasT.ask (p.getD k 0) (p.getD ((l+u) / 2) 0) λc=>if c=true then kas_place p k f l ((l+u) / 2)else kas_place p k f ((l+u) / 2+1) u);split
  .trivial
  .refine⟨v _,v _,?_⟩;show jc lt n (if lt (p.getD k 0) (p.getD ((l+u) / 2) 0)=true then kas_place p k f l ((l+u) / 2)else kas_place p k f ((l+u) / 2+1) u);split
   .exact FC v k f _ _
   .exact FC v k f _ _
theorem LO(h0:0<n):∀ (f:Nat) (p:Array Nat) (k:Nat),Vp n p->jc lt n (kas_bin f p k)
 | 0,_,_,_=>trivial
 | f+1,p,k,v=>wV (FC v k k 0 k) (LO h0 f _ _ (v.pm h0 (bubble_perm _ _ _)))
theorem z8n(h0:0<n):jc lt n (kas_sort n):=by
 have v:Vp n (List.toArray (range n)):=λk=>by
  rw[QJ,Ji];by_cases c:k<n
  .rw[Za c];exact c
  .rw[Qz (by rw[QK];omega)];exact h0
 unfold kas_sort;obtain⟨a,b⟩:=z61 (lt:=lt) h0 v n;refine wV a ?_;split
 .exact LO h0 _ _ _ b
 .trivial
theorem LP{α:Type}{cmp:Nat->Nat->(Bool->Shared->Prop)->Shared->Prop}{s:Shared}{Q:α->Shared->Prop}(h:∀ i j C,i<n->j<n->C (lt i j) s->cmp i j C s):∀ {t:KasT α},jc lt n t->Q (bP lt t) s->t.kasWp cmp Q s
 | .ret _,_,q=>q
 | .ask i j k,o,q=>h i j _ o.1 o.2.1 (LP h o.2.2 q)
def dg:List Nat->Nat
 | []=>0
 | a::l=>a*1000 ^ l.length+dg l
def Lo (l:List Nat):Prop:=∀ d∈l,d<1000
theorem zt:∀ {l:List Nat},Lo l->dg l<1000 ^ l.length
 | [],_=>by decide
 | a::l,h=>by
  have i:=zt (l:=l) λd hd=>h d (Qf _ hd);have ha:=h a Qg;show a*1000 ^ l.length+dg l<1000 ^ (l.length+1);rw[Nat.pow_succ];have:a*1000 ^ l.length+1000 ^ l.length<=1000 ^ l.length*1000:=by rw[<- YY,VF];exact Nat.mul_le_mul_left _ ha
  omega
theorem o_{a b p x y:Nat}(hx:x<p)(hy:y<p):a*p+x<b*p+y ↔ if a=b then x<y else a<b:=by
 by_cases c:a=b
 .rw[Qh c,c];omega
 .rw[Ql c];constructor
  .intro h;by_cases z:a<b
   .exact z
   .have:(b+1)*p<=a*p:=V9 _ (by omega);rw[YY]at this;omega
  .intro h;have:(a+1)*p<=b*p:=V9 _ h;rw[YY]at this;omega
theorem FD{a b:Nat}(hl:Lo l)(hm:Lo m)(e:l.length=m.length):dg (a::l)<dg (b::m) ↔ if a=b then dg l<dg m else a<b:=by have h1:=zt hl;have h2:=zt hm;show a*1000 ^ l.length+dg l<b*1000 ^ m.length+dg m ↔ _;rw[<- e]at h2 ⊢;exact o_ h1 h2
abbrev lH (l:List Nat):Prop:=Lo l.tail
theorem Lo.t(h:Lo l):lH l:=λd hd=>h d (Ua hd)
theorem FE:∀ {l m:List Nat},lH l->lH m->l.length=m.length->dg l=dg m->l=m
 | [],[],_,_,_,_=>rfl
 | [],_::_,_,_,e,_=>nomatch e
 | _::_,[],_,_,e,_=>nomatch e
 | a::l,b::m,h1,h2,e,q=>by
  have e':l.length=m.length:=by simpa using e
  have l1:Lo l:=h1;have l2:Lo m:=h2;have c1:=FD (a:=a) (b:=b) l1 l2 e';have c2:=FD (a:=b) (b:=a) l2 l1 e'.symm;by_cases c:a=b
  .subst c;rw[Qh rfl]at c1 c2;rw[FE l1.t l2.t e' (by omega)]
  .rw[Ql c]at c1;rw[Ql (Zn c)]at c2;omega
theorem FF:∀ (l m:List Nat),dg (l++m)=dg l*1000 ^ m.length+dg m
 | [],m=>by show dg m=0*_+_;omega
 | a::l,m=>by show a*1000 ^ (l++m).length+dg (l++m)=(a*1000 ^ l.length+dg l)*_+_;rw[FF l m,Qk,Nat.pow_add,Nat.add_mul,Nat.mul_assoc,Nat.add_assoc]
abbrev fl:It->List Nat:=Sum.elim (λn=>[n]) id
def gA (k:Ky):List Nat:=k.flatMap fl
abbrev dA (k:Ky):Int:=Int.ofNat (dg (gA k))
theorem FG{x:It}(h:sh x=sh y):(fl x).length=(fl y).length:=by rcases x with x|x<;>rcases y with y|y<;>first|rfl|cases h|exact JT h
theorem LQ{x:It}(h:sh x=sh y)(e:fl x=fl y):x=y:=by
 rcases x with x|x<;>rcases y with y|y<;>first|cases h|skip
 .injection e with e;rw[e]
 .exact Zy _ e
theorem Ce:∀ {x y:Ky},x.map sh=y.map sh->(gA x).length=(gA y).length
 | [],[],_=>rfl
 | [],_::_,h=>nomatch h
 | _::_,[],h=>nomatch h
 | a::x,b::y,h=>by rw[QM,QM]at h;injection h with h1 h2;show(fl a++gA x).length=(fl b++gA y).length;rw[Qk,Qk,FG h1,Ce h2]
theorem Lo.app(h:Lo (l++m)):Lo l/\Lo m:=⟨λd hd=>h d (Q2 _ hd),λd hd=>h d (Qt _ hd)⟩
theorem z54{a b:It}{y:Ky}(s1:sh a=sh b)(s2:x.map sh=y.map sh)(h1:lH (fl a)/\Lo (gA x))(h2:lH (fl b)/\Lo (gA y)):dg (gA (a::x))<dg (gA (b::y)) ↔ if a=b then dg (gA x)<dg (gA y)else dg (fl a)<dg (fl b):=by
 show dg (fl a++gA x)<dg (fl b++gA y) ↔ _;have t1:=zt h1.2;have t2:=zt h2.2;rw[FF,FF,<- Ce s2];rw[<- Ce s2]at t2;rw[o_ t1 t2];by_cases c:a=b
 .subst c;rw[Qh rfl,Qh rfl]
 .rw[Ql c,Ql λz=>c (LQ s1 (FE h1.1 h2.1 (FG s1) z))]
theorem LR:∀ {x y:Ky},x.map sh=y.map sh->gA x=gA y->x=y
 | [],[],_,_=>rfl
 | [],_::_,h,_=>nomatch h
 | _::_,[],h,_=>nomatch h
 | a::x,b::y,h,e=>by rw[QM,QM]at h;injection h with h1 h2;obtain⟨e1,e2⟩:=List.append_inj (show fl a++gA x=fl b++gA y from e) (FG h1);rw[LQ h1 e1,LR h2 e2]
def Ok (x:Ky):Prop:=∀ k r,x=k::r->lH (fl k)/\Lo (gA r)
theorem Ok.of(h:Lo (gA x)):Ok x:=λk r e=>by subst e;have:=Lo.app (l:=fl k) (m:=gA r) h;exact⟨this.1.t,this.2⟩
theorem Ok.LS:∀ {x:Ky},Ok x->lH (gA x)
 | [],_=>λd hd=>nomatch hd
 | k::r,h=>λd hd=>by
  obtain⟨h1,h2⟩:=h k r rfl;have gF:d∈(fl k++gA r).tail:=hd;cases hk:fl k with
  | nil=>rw[hk]at gF;exact h2 d (Ua gF)
  | cons a l=>
   rw[hk]at gF h1;rcases Q9.mp gF with z|z
   .exact h1 d z
   .exact h2 d z
theorem j3l{y:Ky}(h:x.map sh=y.map sh)(hx:Ok x)(hy:Ok y)(e:dA x=dA y):x=y:=LR h (FE hx.LS hy.LS (Ce h) (J1 e))
section
variable {prog:Program}{w:World}{A:Around}{E:Tl}{s:Shared}{σ:List Nat}
theorem j3c(b:Bool){x y:Int}{t u:Tok}(h:Q (decide (x<y)) s):wpAny (model prog w) A (oneLt' b (.int x t) (.int y u)) Q E s:=by
 cases b with
 | true=>exact oneLt_int h
 | false=>exact kat_one _ _ (PySem.P.lt_int h)
theorem j0s{x y:List Nat}(hx:IsTupleKey (intKind prog w) s.heap (kQ x) a)(hy:IsTupleKey (intKind prog w) s.heap (kQ y) b)(e:x.length=y.length)(lx:lH x)(ly:lH y)(h:P (.done (.ret (.bool (decide (dg x<dg y))))) s) :
  wpAny (model prog w) A (Builtin.«tuple.__lt__» ⟨[.ref a,.ref b],[]⟩) P E s:=by
 have Fj:=hy.typeIs;obtain⟨oa,xs,na,zf,_,zg,tE⟩:=hx;obtain⟨ob,ys,nb,u3,_,ib,tF⟩:=hy;have zh:xs.size=ys.size:=by rw[<- QG,<- QG,<- tE.length,<- tF.length,Qb,Qb,e]
 show wpAny _ _ (isInstance (.ref b) (.type "tuple") >>= _) _ _ s;refine Qa (Jb Fj Yy ?_);simp only[Zx,Qs,Zm];refine Qa (JC zf zg ?_);refine Qa (JC u3 ib ?_);refine Qa ?_;refine Z1 _
  (λrest r s'=>r.1=none/\s'=s/\∃ (x' y':List Nat) (rH rJ:List Value),rest=List.zip rH rJ/\ItemsAre (intKind prog w) (kQ x') rH/\ItemsAre (intKind prog w) (kQ y') rJ/\x'.length=y'.length/\lH x'/\lH y'/\decide (dg x'<dg y')=decide (dg x<dg y))
  _ ?_ ?_ _ _ ⟨rfl,rfl,x,y,xs.toList,ys.toList,rfl,tE,tF,e,lx,ly,rfl⟩
 .rintro ⟨u,v⟩ rest r s' ⟨hr,rfl,x',y',rH,rJ,hz,fT,ir,e',l1,l2,jD⟩;cases x' with
  | nil=>cases fT;simp at hz
  | cons k1 wN=>
   cases y' with
   | nil=>cases e'
   | cons k2 wO=>
    cases fT with
    | cons h1 va=>
     cases ir with
     | cons h2 o7=>
      simp only[Ye,List.cons.injEq,Prod.mk.injEq]at hz;obtain⟨⟨rfl,rfl⟩,rfl⟩:=hz;obtain⟨t,rfl⟩:=Yh h1;obtain⟨t',rfl⟩:=Yh h2;have m1:Lo wN:=l1;have m2:Lo wO:=l2;have LU:wN.length=wO.length:=by simpa using e'
      have cc:=FD (a:=k1) (b:=k2) m1 m2 LU;refine Qa (Vs ?_);by_cases hk:k1=k2
      .subst hk;rw[Zz];simp only[Zx,Qs,Zm];rw[Qh rfl]at cc;exact Qd ⟨rfl,rfl,wN,wO,_,_,rfl,va,o7,LU,m1.t,m2.t,(ZR.mpr cc).symm.trans jD⟩
      .rw[ZW.mpr λz=>hk (J1 z)];simp only[Yr,ZE];rw[Ql hk]at cc;have hf:decide (Int.ofNat k1<Int.ofNat k2)=decide (dg x<dg y):=by rw[<- jD];exact ZR.mpr (Iff.trans (by show((_:Nat):Int)<((_:Nat):Int) ↔ _;omega) cc.symm)
       refine Qa (JO (Qa (show wpAny _ _ (richCompare .Lt _ _) _ _ _ from PySem.P.lt_int ?_)));rw[hf];exact Qa (Qd (Qd (Qd h)))
 .rintro ⟨r1,r2⟩ s' ⟨hr,rfl,x',y',rH,rJ,hz,fT,ir,e',l1,l2,jD⟩;simp only at hr;subst hr;refine Qd ?_;have vb:decide (xs.size<ys.size)=decide (dg x<dg y):=by
   rw[<- jD,zh,QF (QW _)];cases x' with
   | nil=>
    cases y' with
    | nil=>rfl
    | cons _ _=>cases e'
   | cons _ _=>
    cases y' with
    | nil=>cases e'
    | cons _ _=>cases fT;cases ir;simp at hz
  show P (.done (.ret (.bool (decide (xs.size<ys.size))))) s';rw[vb];exact h
theorem j8k{x y:List Nat}(hu:A.units<cLine)(hx:IsTupleKey (intKind prog w) s.heap (kQ x) a)(hy:IsTupleKey (intKind prog w) s.heap (kQ y) b)(e:x.length=y.length)(lx:lH x)(ly:lH y)(h:Q (decide (dg x<dg y)) s) :
  wpAny (model prog w) A (oneLt' false (.ref a) (.ref b)) Q E s:=
 kat_one _ _ (show wpAny _ _ (richCompare .Lt _ _) _ _ _ from Y0 (op:=.Lt) hx.typeIs hy.typeIs VY
   (Zh VY hx.typeIs PySem.F.entry_tuple_lt (j0s hx hy e lx ly ⟨_,rfl,(λe=>nomatch e),h⟩) (PySem.F.args_tuple_lt_2 _ _)) hu)
theorem k0y{x:It}{u v:Value}(hu:sh x≠0->A.units<cLine)(hx:n9 prog w s.heap x u)(hy:n9 prog w s.heap y v)(hs:sh x=sh y)(lx:lH (fl x))(ly:lH (fl y))(hf:sh x≠0->f=false)(h:Q (decide (dg (fl x)<dg (fl y))) s):wpAny (model prog w) A (oneLt' f u v) Q E s:=by
 rcases hx with⟨n,t,rfl,rfl⟩|⟨l,c,rfl,rfl,r⟩
 .rcases hy with⟨m,t',rfl,rfl⟩|⟨l,c,rfl,rfl,r⟩
  .refine j3c _ ?_;have e:decide (Int.ofNat n<Int.ofNat m)=decide (dg (fl (.inl n))<dg (fl (.inl m))):=ZR.mpr (by show((_:Nat):Int)<((_:Nat):Int) ↔ n*1+0<m*1+0;omega);rw[e];exact h
  .cases hs
 .rcases hy with⟨m,t',rfl,rfl⟩|⟨l',c',rfl,rfl,r'⟩
  .cases hs
  .rw[hf (JS _)];exact j8k (hu (JS _)) r r' (JT hs) lx ly h
theorem j7x{b:Bool}:∀ {x y:Ky} {vs us:List Value} (i:Nat),(∀ k∈x,sh k≠0->A.units<cLine)->jk prog w s.heap x vs->jk prog w s.heap y us->x.map sh=y.map sh->Ok x->Ok y->(∀ k r,i=0->x=k::r->sh k=0)->Q (decide (dA x<dA y)) s->KatLex prog w A b false Q (vs.zip us) i s:=by
 intro x;induction x with
 | nil=>
  intro y vs us i hu hx hy hs _ _ _ h;cases hx;cases y with
  | cons _ _=>cases hs
  | nil=>cases hy;exact kat_nil (by rwa [QF (Int.lt_irrefl _)]at h)
 | cons k1 x ih=>
  intro y vs us i hu hx hy hs lx ly hf h;cases y with
  | nil=>cases hs
  | cons k2 y=>
   cases hx with
   | cons a1 x1=>
    cases hy with
    | cons b1 y1=>
     rw[QM,QM]at hs;injection hs with s1 s2;have lx:=lx k1 x rfl;have ly:=ly k2 y rfl;have fc:=z54 s1 s2 lx ly;have e:decide (dA (k1::x)<dA (k2::y))=decide (dg (gA (k1::x))<dg (gA (k2::y))):=ZR.mpr (by show((_:Nat):Int)<((_:Nat):Int) ↔ _;omega);refine kat_cons (Lr (hu k1 Qg) a1 b1 s1 ?_);by_cases c:k1=k2
     .rw[Qh c]at fc;rw[Qr c];refine kat_yes (ih (i+1) (λk hk=>hu k (Qf _ hk)) x1 y1 s2 (Ok.of lx.2) (Ok.of ly.2) (λ_ _ z _=>absurd z (JS _)) ?_);have:decide (dA x<dA y)=decide (dA (k1::x)<dA (k2::y)):=by rw[e];exact ZR.mpr (Iff.trans (by show((_:Nat):Int)<((_:Nat):Int) ↔ _;omega) fc.symm)
      rw[this];exact h
     .rw[Ql c]at fc;rw[QF c];refine kat_no (k0y (hu k1 Qg) a1 b1 s1 lx.1 ly.1 (λz=>?_) ?_)
      .by_cases i0:i=0
       .exact absurd (hf k1 x i0 rfl) z
       .rw[ZW.mpr i0,Jd]
      .have:decide (dg (fl k1)<dg (fl k2))=decide (dA (k1::x)<dA (k2::y)):=by rw[e];exact ZR.mpr fc.symm
       rw[this];exact h
def vh (σ:List Nat):Prop:=σ.head? = some 0
theorem k12{y:Ky}(hu:(∃ n∈σ,n≠0)->A.units<cLine)(h0:vh σ)(ka:eI prog w σ s.heap x a)(kb:eI prog w σ s.heap y b)(hx:Ok x)(hy:Ok y)(h:Q (decide (dA x<dA y)) s) :
  wpAny (model prog w) A (keyLt' (tuples' f) (.ref a) (.ref b)) Q E s:=by
 obtain⟨oa,xs,na,zf,_,zg,tE,sa⟩:=ka;obtain⟨ob,ys,nb,u3,_,ib,tF,sb⟩:=kb;have len:∀ {k:Ky} {vs:List Value},jk prog w s.heap k vs->k.length=vs.length:=λq=>by
  induction q with
  | nil=>rfl
  | cons _ _ ih=>rw[QB,QB,ih]
 have zh:xs.size=ys.size:=by rw[<- QG,<- QG,<- len tE,<- len tF,<- Qb (f:=sh),sa,<- sb,Qb]
 refine kat_lt zf zg u3 ib ?_;rw[zh,QF (QW _)];refine j7x 0 (λk hk z=>hu ⟨sh k,by rw[<- sa];exact Ju hk,z⟩) tE tF (sa.trans sb.symm) hx hy (λk r _ e=>?_) h;subst e;rw[<- sa]at h0;exact QI h0
def lI (prog:Program)(w:World)(σ:List Nat)(h:Heap)(vs:List Value)(ks:List Ky):Prop:=vs.length=ks.length/\∀ (i:Nat) (x:Ky),ks[i]? = some x->∃ a,vs[i]? = some (.ref a)/\eI prog w σ h x a
theorem lI.keep{h':Heap}(P:lI prog w σ h vs ks)(q:tB h h'):lI prog w σ h' vs ks:=⟨P.1,λi x e=>by obtain⟨a,e1,k⟩:=P.2 i x e;exact⟨a,e1,k.keep q⟩⟩
theorem eI.first(h0:vh σ)(k:eI prog w σ h x a):∃ o xs n i t,h.get? a=some o/\o.cls=.type "tuple" /\ o.data=.seq xs n/\xs[0]? = some (.int i t):=by
 obtain⟨o,xs,n,ho,hc,hd,hi,hs⟩:=k;cases hx:x with
 | nil=>rw[hx]at hs;rw[<- hs]at h0;cases h0
 | cons k r=>
  rw[hx]at hi hs;generalize hv:xs.toList=vs at hi;cases hi with
  | cons h1 _=>
   rw[<- hs]at h0;rcases h1 with⟨n',t,rfl,rfl⟩|⟨l,c,rfl,rfl,_⟩
   .exact⟨o,xs,n,_,t,ho,hc,hd,by rw[<- Zs,hv];rfl⟩
   .exact absurd (QI h0) (JS _)
theorem lI.firsts(h0:vh σ):∀ {h:Heap} {vs:List Value} {ks:List Ky},lI prog w σ h vs ks->∃ fs:List Value,KatTups h vs fs/\fs.length=ks.length/\∀ v∈fs,∃ i t,v=.int i t
 | h,[],[],_=>⟨[],.nil,rfl,λv hv=>(QC hv).elim⟩
 | h,[],_::_,P=>nomatch P.1
 | h,_::_,[],P=>nomatch P.1
 | h,v::vs,x::ks,P=>by
  obtain⟨fs,t1,t2,t3⟩:=lI.firsts h0 (vs:=vs) (ks:=ks) (h:=h) ⟨by simpa using P.1,λi y e=>P.2 (i+1) y (by rw[Zl];exact e)⟩;obtain⟨a,e,k⟩:=P.2 0 x rfl;have ev:v=.ref a:=by simpa using e
  subst ev;obtain⟨o,xs,n,i,t,ho,hc,hd,hf⟩:=k.first h0;refine⟨.int i t::fs,.cons ho hc hd hf t1,by rw[QB,QB,t2],λv hv=>?_⟩;rcases Qm.mp hv with rfl|hv
  .exact⟨_,_,rfl⟩
  .exact t3 v hv
theorem j40{κb:Bool}{G:Array Nat->Shared->Prop}(hu:(∃ n∈σ,n≠0)->A.units<cLine)(h0:vh σ)(P:lI prog w σ s.heap vs ks)(hb:∀ x∈ks,Ok x)(h1:1<=vs.length)
  (hG:∀ p:Array Nat,p.Perm (List.toArray (range vs.length))->(∀ i j,i<=j->j<vs.length->dA (ks.getD (p.getD i 0) [])<=dA (ks.getD (p.getD j 0) []))->G p s) :
  (kas_sort vs.length).kasWp (kas_ask prog w A (tuples' κb) vs) G s:=by
 have so:=j38 (r:=λi=>dA (ks.getD i [])) h1;refine LP (lt:=dH λi=>dA (ks.getD i [])) (n:=vs.length) (λi j C hi hj hC=>?_) (z8n h1) (hG _ so.1 so.2);have gi:ks[i]? = some (ks.getD i []):=by rw[Qi,Qc (by rw[<- P.1];exact hi)];rfl
 have gj:ks[j]? = some (ks.getD j []):=by rw[Qi,Qc (by rw[<- P.1];exact hj)];rfl
 obtain⟨a,e1,k1⟩:=P.2 i _ gi;obtain⟨b,e2,k2⟩:=P.2 j _ gj;unfold kas_ask;rw[Qi,Qi,e1,e2];exact k12 hu h0 k1 k2 (hb _ (QR gi)) (hb _ (QR gj)) hC
theorem j2z(P:lI prog w σ h vs ks)(pm:p.Perm (List.toArray (range vs.length))):lI prog w σ h (p.toList.map λi=>vs.getD i Value.none) (p.toList.map λi=>ks.getD i [])/\(p.toList.map λi=>ks.getD i []).Perm ks:=by
 have pl:p.toList.Perm (range vs.length):=by have:=Va.mp pm;exact this
 refine⟨⟨by rw[Qb,Qb],λi x e=>?_⟩,?_⟩
 .rw[Qp,Zf]at e;obtain⟨k,q1,q2⟩:=e;have hk:k<vs.length:=QA.mp (pl.mem_iff.mp (QR q1));have gk:ks[k]? = some x:=by rw[<- q2,Qi,Qc (by rw[<- P.1];exact hk)];rfl
  obtain⟨a,e1,k1⟩:=P.2 k x gk;refine⟨a,?_,k1⟩;rw[Qp,q1];show some (vs.getD k Value.none)=_;rw[Qi,e1];rfl
 .exact pd [] (by rw[<- P.1];exact pl)
where
 pd {α:Type} {l:List α} {od:List Nat} (d:α) (h:od.Perm (range l.length)):(od.map λk=>l.getD k d).Perm l:=by
  have h1:=h.map λk=>l.getD k d;have h2:(range l.length).map (λk=>l.getD k d)=l:=by
   apply Zp;intro i;by_cases hi:i<l.length
   .rw[Qp,Za hi,Qc hi];show some (l.getD i d)=_;rw[Qi,Qc hi];rfl
   .rw[Qz (by rw[Qb,QK];omega),Qz (by omega)]
  rw[h2]at h1;exact h1
theorem z87{n:Nat}(hu:(∃ n∈σ,n≠0)->A.units<cLine)(h0:vh σ)(ho:s.heap.get? a=some (seqObj "list" vs.toArray n))(T:lI prog w σ s.heap vs ks)(hb:∀ x∈ks,Ok x)(FH:vs.length<64)
  (h:∀ (out:List Value) (jC:List Ky),lI prog w σ s.heap out jC->(∀ v∈out,v∈vs)->jC.Perm ks->(∀ i j,i<=j->j<jC.length->dA (jC.getD i [])<=dA (jC.getD j []))->P (.done (.ret .none)) { s with heap:=sortedHeap s.heap a vs out.toArray }) :
  wpAny (model prog w) A (Builtin.«list.sort» ⟨[.ref a],[]⟩) P E s:=by
 have al:=Qq ho;have LV:vs.toArray.size=vs.length:=Qn ..;rw[list_sort_plain];refine Qa (listItems_at ho rfl (Qa (listUpdate_at ho rfl ?s1 (by rw[LV,Jl];omega) (Q1 _))))
 case s1=>
 obtain⟨e1,g1⟩:∃ e1,(s.heap.update a (Obj.mapSeq λ_=>(#[]:Array Value))).get? a=some (seqObj "list" #[] e1):=⟨_,get?_update_seq ho λ_=>#[]⟩;refine Qa (seqEpoch_at g1 rfl (Qa (wpAny_newTuple (Qa (wpAny_newList (Zq ?s2) (Q1 _))) (by show vs.length<=_;rw[Jl];omega))))
 case s2=>
 show wpAny (model prog w) A _ P E { s with heap:=((s.heap.update a (Obj.mapSeq λ_=>(#[]:Array Value))).push (seqObj "tuple" vs.toArray 0)).push (seqObj "list" #[] 0) };have g2:(((s.heap.update a (Obj.mapSeq λ_=>(#[]:Array Value))).push (seqObj "tuple" vs.toArray 0)).push (seqObj "list" #[] 0)).get? a=some (seqObj "list" #[] e1):=Qe _ (Qe _ g1);have T2:lI prog w σ (((s.heap.update a (Obj.mapSeq λ_=>(#[]:Array Value))).push (seqObj "tuple" vs.toArray 0)).push (seqObj "list" #[] 0)) vs ks:=T.keep λb o _ _ q c _=>by
  have ne:b≠a:=λz=>by rw[z,ho]at q;cases q;have c':Value.type "list" = Value.type "tuple":=c;injection c' with c'';exact absurd c'' (by decide)
  exact Qe _ (Qe _ ((Jz _ _ (Zn ne)).trans q))
 generalize hh:((s.heap.update a (Obj.mapSeq λ_=>(#[]:Array Value))).push (seqObj "tuple" vs.toArray 0)).push (seqObj "list" #[] 0)=h2 at *
 have fin:∀ out:List Value,{ s with heap:=h2.update a (Obj.mapSeq λ_=>out.toArray) }={ s with heap:=sortedHeap s.heap a vs out.toArray }:=λout=>by rw[<- hh];rfl
 dsimp only;by_cases c2:vs.toArray.size<2
 .rw[Qh c2,Qh c2];refine Qa (Qd ?_);rw[StateT.run_pure];refine Qa (Qd ?_);dsimp only;have o1:(arrOf (SortSt.mk' general' (vs.toArray.zip vs.toArray) #[] 7 none)).map (·.2)=vs.toArray:=by show(vs.toArray.zip vs.toArray).map (·.2)=vs.toArray;apply Array.ext';rw[Array.toList_map,Array.toList_zip];exact List.map_snd_zip (Qj _)
  rw[o1];refine Qa (seqEpoch_at (s:={ s with heap:=h2 }) g2 rfl (Qa (listUpdate_at (s:={ s with heap:=h2 }) g2 rfl ?t1 (Q1 _) (by rw[LV,Jl];omega))))
  case t1=>
  simp only[Ys,Qs,Zm];refine Qd ?_;have r:=h vs ks T (λ_ z=>z) (Ub _) λi j a b=>by
   have:i=j:=by rw[<- T.1]at b;omega
   rw[this];exact Vl _
  rw[<- fin]at r;exact r
 .rw[Ql c2,Ql c2];have v1:2<=vs.length:=by omega
  obtain⟨fs,t1,t2,t3⟩:=T2.firsts h0;refine Qa (kat_kind (s:={ s with heap:=h2 }) (T:=.type "int") t1 (by rw[t2,<- T.1];omega) (λv hv=>?k1) (by decide) ?k2)
  case k1=>
   obtain⟨i,t,rfl⟩:=t3 v hv;exact .now
  case k2=>
  refine Qa (ZN (kat_run (s:={ s with heap:=h2 }) (Q:=λmX s'=>s'={ s with heap:=h2 }/\∃ p:Array Nat,p.size=vs.length/\arrOf mX=p.map (kas_item (vs.toArray.zip vs.toArray))/\failedOf mX=none/\p.Perm (List.toArray (range vs.length))/\∀ i j,i<=j->j<vs.length->dA (ks.getD (p.getD i 0) [])<=dA (ks.getD (p.getD j 0) []))
   (G:=λp s'=>s'={ s with heap:=h2 }/\p.Perm (List.toArray (range vs.length))/\∀ i j,i<=j->j<vs.length->dA (ks.getD (p.getD i 0) [])<=dA (ks.getD (p.getD j 0) []))
   rfl v1 FH (λp mX s' a1 a2 a3 a4=>⟨a4.1,p,a1,a2,a3,a4.2.1,a4.2.2⟩) (j40 hu h0 T2 hb (by omega) λp a1 a2=>⟨rfl,a1,a2⟩)) ?k3 λ_ _ e=>e)
  case k3=>
  rintro ⟨⟨⟩,mX⟩ s' ⟨rfl,p,ps,ar,hf,pm,so⟩;dsimp only;have o1:=kat_snds rfl ar;rw[o1];have ol:(p.toList.map λi=>vs.getD i Value.none).length=vs.length:=by rw[Qb,QG,ps]
  refine Qa (seqEpoch_at (s:={ s with heap:=h2 }) g2 rfl (Qa (listUpdate_at (s:={ s with heap:=h2 }) g2 rfl ?t2 (Q1 _) (by rw[Qn,ol,Jl];omega))))
  case t2=>
  rw[hf];simp only[Ys,Qs,Zm];refine Qd ?_;obtain⟨q1,q2⟩:=j2z T pm;have r:=h _ _ q1 (λv hv=>by
   obtain⟨k,hk,rfl⟩:=Qo.mp hv;have sW:k<vs.length:=QA.mp ((Va.mp pm).mem_iff.mp hk);rw[Qi,Qc sW];exact Q7 sW) q2 λi j a b=>by
   rw[Qb,QG,ps]at b;have g:∀ i,i<vs.length->(p.toList.map λk=>ks.getD k []).getD i []=ks.getD (p.getD i 0) []:=λi hi=>by rw[Qi,Qp,Qc (by rw[QG,ps];exact hi),QJ,ZH (by rw[ps];exact hi)];rfl
   rw[g i (by omega),g j b];exact so i j a b
  rw[<- fin]at r;exact r
abbrev kg (x:Nat×Nat):Ky:=[.inl x.1,.inl x.2]
abbrev rk (x:Nat×Nat):Int:=Int.ofNat (x.1*1000+x.2)
theorem j4g{x y:Nat×Nat}(h:kg x=kg y):x=y:=by injection h with h1 h2;injection h2 with h2 _;exact Prod.ext (YF h1) (YF h2)
end
end L3
namespace L3
open PySem PySem.Spec PyProof.Rows PySem.W L2
variable {H:Hp}{K:PySem.W.Frag}{a b:Addr}{ep:Nat}{es:Array (Int×Value)}{kl ks:List Ky}{o:Ow}{r:D×Nat×a_}{w:Wn}{x:Ky}
section
variable {prog:Program}{w:World}{A:Around}{E:Tl}{s:Shared}{σ:List Nat}
theorem z8l{h:Heap}{t:SetTable}{bs:List Addr}{vs:List Value}(S:cV prog w σ h es t kl bs)(hl:vs.length=es.size)
  (hv:∀ (j:Nat) (v:Value),vs[j]? = some v->∃ e,(kR w a es ep)[j]? = some e/\v=e.2):∃ ks:List Ky,lI prog w σ h vs ks/\ks.Perm kl/\∀ v∈vs,∃ b∈bs,v=.ref b:=by
 have e:vs=(kR w a es ep).toList.map (·.2):=by
  apply Zp;intro j;have et:(kR w a es ep).toList[j]? = (kR w a es ep)[j]?:=Zs;rw[Qp,et];rcases Nat.lt_or_ge j vs.length with l|l
  .obtain⟨x,h1,h2⟩:=hv j _ (Qc l);rw[h1,Qc l,h2];rfl
  .rw[Qz l,Yt (by rw[Cb];omega)];rfl
 have pm:(kR w a es ep).toList.Perm ((kl.zip bs).map λx=>(dM prog w x.1,Value.ref x.2)):=by refine(LG w a es ep).trans ?_;rw[S.es]
 obtain⟨zs,zp,ze⟩:=z8r (f:=λx:Ky×Addr=>(dM prog w x.1,Value.ref x.2)) pm rfl;have len:=S.len;refine⟨zs.map (·.1),⟨by rw[e,ze,Qb,Qb,Qb],λi x q=>?_⟩,?_⟩
 .rw[Qp,Zf]at q;obtain⟨y,q1,rfl⟩:=q;refine⟨y.2,?_,?_⟩
  .rw[e,ze,Qp,Qp,q1];rfl
  .obtain⟨i',bW,qi⟩:=Z8 (zp.mem_iff.mp (QR q1));have q2:(kl.zip bs)[i']? = some y:=by rw[Qc bW,qi]
   rw[List.zip,Yz]at q2;cases k1:kl[i']? with
   | none=>rw[k1]at q2;cases q2
   | some u=>
    cases k2:bs[i']? with
    | none=>rw[k1,k2]at q2;cases q2
    | some v=>
     rw[k1,k2]at q2;cases q2;exact S.is i' u v k1 k2
 .refine⟨(zp.map (·.1)).trans ?_,λv hv=>?_⟩
  .rw[List.map_fst_zip (by omega)]
  .rw[e,ze]at hv;obtain⟨y,hy,rfl⟩:=Qo.mp hv;obtain⟨x,hx,rfl⟩:=Qo.mp hy;exact⟨x.2,(YM (zp.mem_iff.mp hx)).2,rfl⟩
theorem j57{t:SetTable}{bs:List Addr}{Q:Tl}(hh:A.handled=none)(hu:A.units+2<cLine)(h0:vh σ)(ho:s.heap.get? a=some (o9 es ep t))(So:vc prog w σ s.heap (o9 es ep t) ep (!iM w) kl es t bs)(hb:∀ x∈kl,Ok x)(pW:kl.length<64)
  (h:∀ (h1:Heap) (h':Heap) (tk:Nat) (us:List Value) (ks:List Ky) (c:Nat),(∀ b o,s.heap.get? b=some o->h1.get? b=some o)->(∀ b o,s.heap.get? b=some o->h'.get? b=some o)->lI prog w σ s.heap us ks->(∀ v∈us,∃ b∈bs,v=.ref b)->ks.Perm kl->(∀ i j,i<=j->j<ks.length->dA (ks.getD i [])<=dA (ks.getD j []))->
    h'.get? h1.objs.size=some { cls:=.type "list",data:=.seq us.toArray c }->Q (.ref h1.objs.size) { s with heap:=h',toks:=tk }) :
  wpAny (model prog w) A (call (.builtin "sorted") [.ref a]) Q E s:=by
 have gd:=So.gd;have sz:es.size=kl.length:=So.S.size;refine Calls.call_function_entry kind_sorted plain_sorted entry_sorted (args_sorted1 _) ?_;unfold Builtin.«sorted»;refine Qa (m:=checkCount "sorted" 1 1 _) (Qd (Qa (kdu_collect (A:=A.in1) (k3w gd) hh ho (kdl_size (by omega)) λh' tk acc hk eA=>?c1)))
 case c1=>
 have hl:acc.toList.length=es.size:=by rw[QG];exact eA.1
 refine Qa (wpAny_newList ?c2 (by rw[hl];exact kdl_size (by omega)))
 case c2=>
 obtain⟨ks,T,pm,mb⟩:=z8l (a:=a) (ep:=ep) So.S hl (λj v e=>eA.2 j v (by rw[<- Zs];exact e));have T1:lI prog w σ (h'.push (seqObj "list" acc.toList.toArray 0)) acc.toList ks:=T.keep λb o _ _ q _ _=>Qe _ (hk b o q);have oL:(h'.push (seqObj "list" acc.toList.toArray 0)).get? h'.objs.size=some (seqObj "list" acc.toList.toArray 0):=Qv _ rfl;refine Qa (Zq (Zh slot_list_sort ⟨_,oL,rfl⟩ entry_list_sort (z87 (λ_=>by show A.units+1+1<cLine;exact hu) h0 oL T1 (λx hx=>hb x (pm.mem_iff.mp hx)) (by rw[hl,sz];exact pW) λout jC o1 om o2 o3=>⟨_,rfl,?c3⟩) (args_list_sort _)))
 case c3=>
 refine Qd ⟨_,rfl,?c4⟩
 case c4=>
 have ne:∀ b o,s.heap.get? b=some o->b≠h'.objs.size:=λb o e=>QS (Qq (hk b o e));have up:∀ (G:Heap) (f:Array Value->Array Value),(∀ b o,s.heap.get? b=some o->G.get? b=some o)->∀ b o,s.heap.get? b=some o->(G.update h'.objs.size (Obj.mapSeq f)).get? b=some o:=
  λG f q b o e=>(Jz _ _ (Zn (ne b o e))).trans (q b o e)
 unfold sortedHeap;have g1:=get?_update_seq oL (λ_=>(#[]:Array Value));have g4:=get?_update_seq (Qe (seqObj "list" #[] 0) (Qe (seqObj "tuple" acc.toList.toArray 0) g1)) (λ_=>out.toArray);refine h h' _ _ out jC _ hk ?c5 ?c6 (λv hv=>mb v (om v hv)) (o2.trans pm) o3 g4
 case c5=>exact up _ _ λb o e=>Qe _ (Qe _ (up _ _ (λb o e=>Qe _ (hk b o e)) b o e))
 case c6=>
  refine⟨o1.1,λi x q=>?_⟩;obtain⟨b,e1,k1⟩:=o1.2 i x q;obtain⟨j,hj,qj⟩:=Z8 (om _ (QR e1));have gj:ks[j]? = some (ks[j]'(by rw[<- T.1];exact hj)):=Qc _;obtain⟨b',e2,k2⟩:=T.2 j _ gj;rw[Qc hj,qj]at e2;cases e2;obtain⟨b2,e3,k3⟩:=T1.2 j _ gj;rw[Qc hj,qj]at e3;cases e3;have:=k3.inj k1;rw[this]at k2;exact⟨b,e1,k2⟩
end
theorem LW:∀ {dN:List Addr} {us:List Value},bK (dN.map V.ref) us->us=dN.map Value.ref
 | [],_,r=>by cases r;rfl
 | a::dN,_,r=>by
  cases r with
  | cons h t=>
   cases h;rw[LW t];rfl
theorem LX:∀ (dN:List Addr),bK (dN.map V.ref) (dN.map Value.ref)
 | []=>.nil
 | a::dN=>.cons rfl (LX dN)
theorem j50{bs:List Addr}:∀ (l:List Value),(∀ v∈l,∃ b∈bs,v=.ref b)->∃ cs:List Addr,l=cs.map Value.ref:=by
 intro l;induction l with
 | nil=>intro _;exact⟨[],rfl⟩
 | cons v l ih=>
  intro h;obtain⟨cs,e⟩:=ih λw hw=>h w (Qf _ hw);obtain⟨b,_,rfl⟩:=h v Qg;exact⟨b::cs,by rw[e];rfl⟩
def S9 (prog:Program)(w:World)(a:Addr)(kl:List Ky)(bs:List Addr):Heap->Prop:=λh=>∃ es ep t,h.get? a=some (o9 es ep t)/\es.toList=(kl.zip bs).map (λx=>(dM prog w x.1,Value.ref x.2))/\kl.length=bs.length/\iq t (kl.map (dM prog w))/\kl.Nodup/\t.plain=true/\t.led = !iM w/\kl.length*5<t.mask*3
def ItH (H:Hp)(k:It)(v:V):Prop:=(∃ n,k=.inl n/\v=.int (Int.ofNat n))\/∃ l c,k=.inr l/\v=.ref c/\H c=some (.tup ((kQ l).map V.int))
inductive pf (H:Hp):Ky->List V->Prop
 | nil:pf H [] []
 | cons {k:It} {v:V} {ks:Ky} {vs:List V}:ItH H k v->pf H ks vs->pf H (k::ks) (v::vs)
def LY (H:Hp)(k:Ky)(b:Addr):Prop:=∃ vs,H b=some (.tup vs)/\pf H k vs
def rL (H:Hp)(ks:List Ky)(dN:List Addr):Prop:=ks.length=dN.length/\∀ (i:Nat) (x:Ky) (b:Addr),ks[i]? = some x->dN[i]? = some b->LY H x b
theorem rL.up{H':Hp}{dN:List Addr}(h:rL H ks dN)(up:∀ b o,H b=some o->H' b=some o):rL H' ks dN:=by
 refine⟨h.1,λi x b e1 e2=>?_⟩;obtain⟨vs,q,r⟩:=h.2 i x b e1 e2;refine⟨vs,up _ _ q,?_⟩;clear q e1;induction r with
 | nil=>exact .nil
 | cons a _ ih=>exact .cons (a.imp id λ⟨l,c,x,y,z⟩=>⟨l,c,x,y,up _ _ z⟩) ih
section
variable {X:Cx}{a:Expr}{fa:aN}{p p2 pos ph:Pos}{Tk:List (Addr×Obj)}{σ:St}{H:Hp}{s:Shared}
theorem LZ{X:Cx}:∀ {l:List Int} {us:List Value},bK (l.map V.int) us->ItemsAre (intKind X.prog X.w) l us
 | [],_,r=>by cases r;exact .nil
 | a::dN,_,r=>by
  cases r with
  | cons h t=>
   obtain⟨t',rfl⟩:=h;exact .cons (intKind_is _ _ _ _) (LZ t)
theorem z9i{l:List Int}(I:Inv X Tk σ H s)(h:du X.K H b (l.map V.int)):IsTupleKey (intKind X.prog X.w) s.heap l b:=by obtain⟨ak,r,⟨o,ho,hc,n,hd⟩,_⟩:=I.tuple h;exact⟨o,ak.toArray,n,ho,hc,hd,LZ r⟩
theorem L6(I:Inv X Tk σ H s)(h:LY H x b):eI X.prog X.w (x.map sh) s.heap x b:=by
 obtain⟨vs,hb,hv⟩:=h;obtain⟨ak,r,⟨o,ho,hc,n,hd⟩,hz⟩:=I.tuple (show du X.K H b vs from .inl (.inl hb));refine⟨o,ak.toArray,n,ho,hc,hd,?_,rfl⟩;clear hb ho hd hc hz;show jk _ _ _ x ak;induction hv generalizing ak with
 | nil=>cases r;exact .nil
 | cons a _ ih=>
  cases r with
  | cons h1 r1=>
   refine .cons ?_ (ih _ r1);rcases a with⟨m,rfl,rfl⟩|⟨l,c,rfl,rfl,q⟩
   .obtain⟨t,rfl⟩:=h1;exact .inl ⟨_,_,rfl,rfl⟩
   .cases h1;exact .inr ⟨_,_,rfl,rfl,z9i I (.inl (.inl q))⟩
theorem z67(hc:X.calm=true)(hu:X.A.units+4<cLine):kZ X (.type "set") (λxs H Q=>∃ b t ks dN τ,xs=[.ref t]/\p6 b X.K H t (dN.map V.ref)/\rL H ks dN/\(∀ x∈ks,x.map sh=τ)/\ks.length<=100 /\
  ∀ p kl bs,H p=none->kl.Nodup->(∀ x,x∈kl ↔ x∈ks)->rL H kl bs->Q (.ref p) (upd H p (.ext (S9 X.prog X.w p kl bs)))):=by
 intro Tk s σ H xs us Q I r hh;obtain⟨b,t,ks,dN,τ,rfl,hq,⟨len,tu⟩,nQ,vg,q⟩:=hh;obtain⟨u,rfl,ru⟩:=mZ r;cases ru;obtain⟨ak,rv,pl⟩:=BR I hq;have ei:=LW rv;subst ei;have gk:∀ i,i<ks.length->ks[i]? = some (ks.getD i [])/\dN[i]? = some (dN.getD i 0):=λi hi=>by
  refine⟨?_,?_⟩
  .rw[Qi,Qc hi];rfl
  .rw[Qi,Qc (by rw[<- len];exact hi)];rfl
 have key:∀ i,i<ks.length->eI X.prog X.w τ s.heap (ks.getD i []) (dN.getD i 0):=λi hi=>by
  have:=L6 I (tu i _ _ (gk i hi).1 (gk i hi).2)
  rwa [nQ _ (QR (gk i hi).1)]at this
 refine k35 (σ:=τ) (ks:=ks) (ad:=λi=>dN.getD i 0) (I.ok.hd hc) (by show X.A.units+1+1+1+1<cLine;omega) pl (by rw[Qb,len]) (λi v e=>?z1) key vg λh' tk kl hS mm Cf=>?z3
 case z1=>
  rw[Qp,Zf]at e;obtain⟨b,e1,rfl⟩:=e;show Value.ref b=.ref (dN.getD i 0);rw[Qi,e1];rfl
 case z3=>
  obtain⟨es,ep,t',bs,g,⟨d,S,zi,ld,rm⟩,hb⟩:=hS;refine⟨.ref s.heap.objs.size,_,I.laid (o:=.ext (S9 X.prog X.w s.heap.objs.size kl bs)) (h':=h') (t':=tk) (λb o e=>Cf b o (Qq e) e) (Qj _) ⟨⟨es,ep,t',g,S.es,S.len,S.tb,S.nd,zi,ld,rm⟩,⟨_,g⟩,λh1 h2 ⟨es,ep,t,e,r⟩ k=>⟨es,ep,t,k _ e,r⟩⟩,rfl,q _ _ _ (I.aP.fresh (Qj _)) S.nd (λx=>?z5) ⟨S.len,λi x b e1 e2=>?z6⟩⟩
  case z5=>
   rw[mm x];constructor
   .rintro ⟨j,hj,rfl⟩;exact QR (gk j hj).1
   .intro hx;obtain⟨j,hj,e⟩:=Z8 hx;exact⟨j,hj,by rw[Qi,Qc hj,e];rfl⟩
  case z6=>
   have kb:=S.is i x b e1 e2;obtain⟨j,hj,rfl⟩:=hb b (QR e2);have k2:=(key j hj).keep (h':=h') λb o _ _ ho _ _=>Cf b o (Qq ho) ho;rw[kb.inj k2];exact tu j _ _ (gk j hj).1 (gk j hj).2
theorem z46(hc:X.calm=true)(hu:X.A.units+2<cLine):kZ X (.builtin "sorted") (λxs H Q=>∃ t kl bs τ,xs=[.ref t]/\H t=some (.ext (S9 X.prog X.w t kl bs))/\rL H kl bs/\(∀ x∈kl,x.map sh=τ/\Ok x)/\vh τ/\kl.length<64 /\
  ∀ p ks cs,H p=none->ks.Perm kl->(∀ i j,i<=j->j<ks.length->dA (ks.getD i [])<=dA (ks.getD j []))->rL H ks cs->Q (.ref p) (upd H p (.lst (cs.map V.ref)))):=by
 intro Tk s σ H xs us Q I r hh;obtain⟨t,kl,bs,τ,rfl,hq,⟨len,tu⟩,nQ,h0,pW,q⟩:=hh;obtain⟨u,rfl,ru⟩:=mZ r;cases ru;obtain⟨⟨es,ep,tb,g,e1,e2,e3,e4,e5,e6,e7⟩,_,_⟩:=I.aP _ _ hq;have key:∀ (i:Nat) (x:Ky) (b:Addr),kl[i]? = some x->bs[i]? = some b->eI X.prog X.w τ s.heap x b:=λi x b x1 x2=>by
  have:=L6 I (tu i x b x1 x2)
  rwa [(nQ x (QR x1)).1]at this
 have So:vc X.prog X.w τ s.heap (o9 es ep tb) ep (!iM X.w) kl es tb bs:=⟨rfl,⟨e1,e2,key,e3,e4⟩,e5,e6,e7⟩;refine j57 (I.ok.hd hc) hu h0 g So (λx hx=>(nQ x hx).2) pW λh1 h' tk us ks c k1 Cf T mb pm so hg=>?_;obtain⟨cs,rfl⟩:=j50 us mb;have lc:cs.length=ks.length:=by have:=T.1;rwa [Qb]at this
 refine⟨.ref h1.objs.size,_,k1v (o:=.lst (cs.map V.ref)) I k1 (Qj _) Cf ⟨kdl_size (by rw[Qb,lc,pm.length_eq];omega),cs.map Value.ref,c,LX cs,hg⟩,rfl,q _ ks cs (K4 I.aP k1 (Qj _)) pm so ⟨lc.symm,λi x b x1 x2=>?_⟩⟩;obtain⟨a,y1,y2⟩:=T.2 i x x1;rw[Qp,x2]at y1;cases y1;obtain⟨b',my,e⟩:=mb (.ref b) (Qo.mpr ⟨b,QR x2,rfl⟩);cases e;obtain⟨j,hj,qj⟩:=Z8 my;have gj:kl[j]? = some (kl[j]'(by rw[len];exact hj)):=Qc _;have bj:bs[j]? = some b:=by rw[Qc hj,qj]
 have sq:=tu j _ b gj bj;have:=(key j _ b gj bj).inj y2;rw[this]at sq;exact sq
end
abbrev prD (x:Nat×Nat):D:=.tup [.int (Int.ofNat x.1),.int (Int.ofNat x.2)]
def k34:List D->Option (List (Nat×Nat))
 | []=>some []
 | .tup [.int (.ofNat i),.int (.ofNat j)]::ds=>if j<1000 then(k34 ds).map ((i,j) :: ·)else none
 | _=>none
def Cg:It->D:=Sum.elim (λn=>.int (Int.ofNat n)) λl=>.tup ((kQ l).map D.int)
abbrev cW (k:Ky):D:=.tup (k.map Cg)
def og {α β:Type}(f:α->Option β):List α->Option (List β)
 | []=>some []
 | a::l=>match f a,og f l with
  | some b,some m=>some (b::m)
  | _,_=>none
theorem Ci{α β:Type}{f:α->Option β}{g:β->α}(h:∀ a b,f a=some b->a=g b):∀ {l:List α} {m:List β},og f l=some m->l=m.map g
 | [],m,e=>by cases e;rfl
 | a::l,m,e=>by
  unfold og at e;split at e;next b m' e1 e2=>
   cases e;rw[QM,h a b e1,Ci h e2]
  .cases e
theorem wW{α β:Type}{f:α->Option β}{g:β->α}(h:∀ b,f (g b)=some b):∀ (m:List β),og f (m.map g)=some m
 | []=>rfl
 | b::m=>by
  show(match f (g b),og f (m.map g)with
   | some b,some m=>some (b::m)
   | _,_=>none)=_
  rw[h b,wW h m]
def Cj:D->Option Nat
 | .int (.ofNat n)=>some n
 | _=>none
def Ck:D->Option It
 | .int (.ofNat n)=>some (.inl n)
 | .tup ds=>(og Cj ds).map .inr
 | _=>none
def vi:D->Option Ky
 | .tup ds=>og Ck ds
 | _=>none
theorem j49(d:D)(n:Nat)(h:Cj d=some n):d=.int (Int.ofNat n):=by
 unfold Cj at h;split at h
 .cases h;rfl
 .cases h
theorem j5r(d:D)(k:It)(h:Ck d=some k):d=Cg k:=by
 unfold Ck at h;split at h
 .cases h;rfl
 next ds=>
  obtain⟨l,e,rfl⟩:=Zf.mp h;show D.tup ds=.tup ((kQ l).map D.int);rw[Ci j49 e,QO];rfl
 .cases h
theorem j5h(k:It):Ck (Cg k)=some k:=by
 rcases k with n|l
 .rfl
 .show(og Cj ((kQ l).map D.int)).map Sum.inr=_;rw[QO,wW (g:=D.int ∘ Int.ofNat) (λb=>rfl)];rfl
theorem j34(d:D)(k:Ky)(h:vi d=some k):d=cW k:=by
 unfold vi at h;split at h
 .rw[Ci j5r h]
 .cases h
theorem FI(k:Ky):vi (cW k)=some k:=wW j5h k
def Cm:List Ky->List Nat
 | []=>[0]
 | k::_=>k.map sh
def jd (ks:List Ky):Prop:=ks.length<64/\(Cm ks).head? = some 0/\∀ k∈ks,k.map sh=Cm ks/\∀ d∈gA k,d<1000
instance (ks:List Ky):Decidable (jd ks):=by unfold jd;exact inferInstance
def dZ (ks:List Ky):List Ky:=ks.eraseDups.mergeSort λa b=>decide (dA a<=dA b)
theorem L7(ks:List Ky):(dZ ks).Pairwise λa b=>dA a<=dA b:=by
 have:=List.pairwise_mergeSort (le:=λa b:Ky=>decide (dA a<=dA b)) (λa b c h1 h2=>Qr (Int.le_trans (Q5 h1) (Q5 h2))) (λa b=>by
  rcases Int.le_total (dA a) (dA b)with h|h
  .rw[Qr h];rfl
  .rw[Qr h,Bool.or_true]) ks.eraseDups
 exact this.imp λh=>Q5 h
theorem L8{α:Type}[BEq α][LawfulBEq α]:∀ (n:Nat) (l:List α),l.length<=n->l.eraseDups.Nodup
 | 0,[],_=>by rw[List.eraseDups_nil];exact Y8
 | 0,_::_,h=>absurd h (by simp)
 | n+1,[],_=>by rw[List.eraseDups_nil];exact Y8
 | n+1,a::l,h=>by rw[List.eraseDups_cons];refine Q3.mpr ⟨λz=>?_,L8 n _ (Qw (Q0 _ _) (by simpa using h))⟩;rw[List.mem_eraseDups]at z;have:=(Zi.mp z).2;simp at this
theorem tI:x∈dZ ks ↔ x∈ks:=by unfold dZ;rw[List.mem_mergeSort,List.mem_eraseDups]
theorem Cn(ks:List Ky):(dZ ks).Nodup:=(List.mergeSort_perm _ _).nodup_iff.mpr (L8 _ ks (Qj _))
theorem L9{α:Type}[DecidableEq α]:∀ {l m:List α},l.Nodup->m.Nodup->(∀ x,x∈l ↔ x∈m)->l.Perm m
 | [],m,_,_,h=>by
  cases m with
  | nil=>exact .nil
  | cons a m=>exact absurd ((h a).mpr Qg) (by simp)
 | a::l,m,h1,h2,h=>by
  have ha:=(h a).mp Qg;have wF:=Q3.mp h1;refine List.Perm.trans (List.Perm.cons a (L9 wF.2 (h2.erase a) λx=>?_)) (List.perm_cons_erase ha).symm;rw[h2.mem_erase_iff];constructor
  .intro hx;exact⟨λz=>wF.1 (z ▸ hx),(h x).mp (Qf _ hx)⟩
  .rintro ⟨ne,hx⟩;rcases Qm.mp ((h x).mpr hx)with z|z
   .exact absurd z ne
   .exact z
theorem L_{jC:List Ky}(hb:jd ks)(nd:kl.Nodup)(mem:∀ x,x∈kl ↔ x∈ks)(pm:jC.Perm kl)(so:∀ i j,i<=j->j<jC.length->dA (jC.getD i [])<=dA (jC.getD j [])):jC=dZ ks:=by
 have p1:jC.Perm (dZ ks):=L9 (pm.nodup_iff.mpr nd) (Cn ks) λx=>by rw[pm.mem_iff,mem,tI]
 have u1:(jC.map dA).Pairwise (· <= ·):=by rw[List.pairwise_map,JU];intro i j hi hj uf;have:=so i j (by omega) hj;rw[Qi,Qi,Qc hi,Qc hj]at this;exact this
 have u2:((dZ ks).map dA).Pairwise (· <= ·):=by rw[List.pairwise_map];exact L7 ks
 have e:=lks_uniq (p1.map dA) u1 u2;have key:∀ (l m:List Ky),(∀ x∈l,x∈ks)->(∀ x∈m,x∈ks)->l.map dA=m.map dA->l=m:=by
  intro l;induction l with
  | nil=>
   intro m _ _ h;cases m with
   | nil=>rfl
   | cons _ _=>cases h
  | cons a l ih=>
   intro m h1 h2 h;cases m with
   | nil=>cases h
   | cons b m=>
    rw[QM,QM]at h;injection h with q1 q2;obtain⟨s1,l1⟩:=hb.2.2 a (h1 a Qg);obtain⟨s2,l2⟩:=hb.2.2 b (h2 b Qg);rw[j3l (s1.trans s2.symm) (Ok.of l1) (Ok.of l2) q1,ih m (λx hx=>h1 x (Qf _ hx)) (λx hx=>h2 x (Qf _ hx)) q2]
 exact key _ _ (λx hx=>(mem x).mp (pm.mem_iff.mp hx)) (λx hx=>tI.mp hx) e
def Co (ds:List D)(ac:a_):Option (D×Nat×a_):=match og vi ds with
 | some ks=>if jd ks then some (.lst ((dZ ks).map cW),1,ac)else none
 | none=>none
def lJ (fa:aN):aN:=λρ=>match fa ρ with
 | some (.lst ds,q,ac)=>if q<=1 then Co ds ac else none
 | some (.tup ds,_,ac)=>Co ds ac
 | _=>none
theorem Ma{ds:List D}{ac:a_}(h:Co ds ac=some r):∃ ks,ds=ks.map cW/\jd ks/\r=(.lst ((dZ ks).map cW),1,ac):=by
 unfold Co at h;split at h;next ks h2=>
  split at h;next ok=>
   cases h;exact⟨ks,Ci j34 h2,ok,rfl⟩
  .cases h
 .cases h
theorem y5b{fa:aN}{ρ:a_}(h:lJ fa ρ=some r):∃ x q1 ac ks,fa ρ=some (x,q1,ac)/\jd ks/\r=(.lst ((dZ ks).map cW),1,ac)/\((x=.lst (ks.map cW)/\q1<=1)\/x=.tup (ks.map cW)):=by
 unfold lJ at h;split at h;next ds q1 ac h1=>
  split at h;next hq=>
   obtain⟨ks,rfl,ok,e⟩:=Ma h;exact⟨_,_,_,ks,h1,ok,e,.inl ⟨rfl,hq⟩⟩
  .cases h
 next ds q1 ac h1=>
  obtain⟨ks,rfl,ok,e⟩:=Ma h;exact⟨_,_,_,ks,h1,ok,e,.inr rfl⟩
 .cases h
theorem Mb:∀ {k:Ky} {vs:List V} {F:List Addr},af K H w o 0 (k.map Cg) vs F->pf H k vs
 | [],_,_,h=>by cases h;exact .nil
 | x::k,_,_,h=>by
  cases h with
  | cons r rs _=>
   refine .cons ?_ (Mb rs);rcases x with n|l
   .exact .inl ⟨n,rfl,eV r⟩
   .cases r with
    | tup ha hr=>rw[KY hr]at ha;exact .inr ⟨l,_,rfl,rfl,ha⟩
theorem Mc:∀ {ks:List Ky} {vs:List V} {F:List Addr},af K H w o 0 (ks.map cW) vs F->∃ dN:List Addr,vs=dN.map V.ref/\rL H ks dN
 | [],_,_,h=>by cases h;exact⟨[],rfl,rfl,λi x b e _=>by simp at e⟩
 | x::ks,_,_,h=>by
  cases h with
  | cons r rs _=>
   obtain⟨dN,rfl,l,t⟩:=Mc rs;cases r with
   | @tup _ a m9 m8 ha hr=>
    refine⟨a::dN,rfl,by rw[QB,QB,l],λi y b q1 q2=>?_⟩;cases i with
    | zero=>cases q1;cases q2;exact⟨_,ha,Mb hr⟩
    | succ i=>exact t i y b q1 q2
theorem Md:∀ (l:List Int),af K H w o 0 (l.map D.int) (l.map V.int) []
 | []=>.nil
 | i::l=>.cons (F:=[]) (G:=[]) (.int _) (Md l) nM
theorem Me:∀ {ks:List Ky} {dN:List Addr},rL H ks dN->af K H w o 0 (ks.map cW) (dN.map V.ref) []
 | [],[],_=>.nil
 | [],_::_,h=>nomatch h.1
 | _::_,[],h=>nomatch h.1
 | x::ks,a::dN,h=>by
  obtain⟨vs,hv,r⟩:=h.2 0 x a rfl rfl;refine .cons (F:=[]) (G:=[]) (.tup hv ?_) (Me ⟨by simpa using h.1,λi y b e1 e2=>h.2 (i+1) y b (by rw[Zl];exact e1) (by rw[Zl];exact e2)⟩) nM;clear hv h;induction r with
  | nil=>exact .nil
  | cons q _ ih=>
   refine .cons (F:=[]) (G:=[]) ?_ ih nM;rcases q with⟨n,rfl,rfl⟩|⟨l,c,rfl,rfl,hc⟩
   .exact .int _
   .exact .tup hc (Md _)
section
variable {X:Cx}{a:Expr}{fa:aN}{p p2 pos ph:Pos}{j:Nat}
theorem wX(hc:X.calm=true)(hr:bC j X.A)(hm:X.mg "sorted" = none)(hmS:X.mg "set" = none)(ha:QD X a fa)(hb:bootBuiltins "set" = some (.type "set"):=by kernel_rfl)(hb2:bootBuiltins "sorted" = some (.builtin "sorted"):=by kernel_rfl)(hg:Gl X "sorted":=by rfl)(hgS:Gl X "set":=by rfl)(hs:starEach [a] X.env=(false,eval a X.env)::starEach [] X.env:=by rfl)(cE:(backTo ph (starEach [] X.env)).any (·.1)=false:=by rfl)(rh:starEach [.Call (.Name "set" p2) [a] [] ph] X.env=(false,eval (.Call (.Name "set" p2) [a] [] ph) X.env)::starEach [] X.env:=by rfl)(FJ:(backTo pos (starEach [] X.env)).any (·.1)=false:=by rfl):QD X (.Call (.Name "sorted" p) [.Call (.Name "set" p2) [a] [] ph] [] pos) (lJ fa):=⟨have ha:=ha.o;by
 refine PE.imp (qL (z46 hc (by have:=hr.un;omega)) hg hm hb2 (l0 (v7 (z67 hc (by have:=hr.un;omega)) hgS hmS hb (l0 ha oG hs) (by decide) (by decide) hs cE) oG rh) (by decide) (by decide) rh FJ) λσ H Q aj=>?_;obtain⟨ρ,w,t,r',q,am,gd,ee,k⟩:=aj;obtain⟨x,q1,ac,ks,h1,ok,e,hx⟩:=y5b ee;cases e;refine⟨ρ,w,t,_,_,_,gd,h1,λv H1 w1 F1 g1 aV r1=>?_⟩;have hs:∃ b p1 vs,v=.ref p1/\p6 b X.K H1 p1 vs/\af X.K H1 w1 (.t t) 0 (ks.map cW) vs []:=by
  rcases hx with⟨rfl,El⟩|rfl
  .obtain⟨p1,vs,e,zw,rs⟩:=r1.E6 El;exact⟨true,p1,vs,e,zw,rs⟩
  .obtain⟨p1,vs,e,zw,rs⟩:=r1.eX;exact⟨false,p1,vs,e,zw,rs⟩
 obtain⟨b,p1,vs,rfl,zw,rs⟩:=hs;obtain⟨dN,rfl,tu⟩:=Mc rs;refine⟨b,p1,ks,dN,Cm ks,rfl,zw,tu,λx hx=>(ok.2.2 x hx).1,by have:=ok.1;omega,λp' kl bs nR nd mem tu2=>?_⟩;have up:∀ b o,H1 b=some o->upd H1 p' (.ext (S9 X.prog X.w p' kl bs)) b=some o:=λb o z=>by unfold upd;rw[Ql (λy=>by rw[y,nR]at z;cases z)];exact z
 have kl:kl.length<=ks.length:=pj nd λx hx=>(mem x).mp hx;refine⟨p',_,bs,Cm ks,rfl,jh,tu2.up up,λx hx=>⟨(ok.2.2 x ((mem x).mp hx)).1,Ok.of (ok.2.2 x ((mem x).mp hx)).2⟩,ok.2.1,by have:=ok.1;omega,λl jC cs hl pm so tu3=>?_⟩;have es:=L_ ok nd mem pm so;subst es;have gg:=g1.drop (t':=t);obtain⟨g2,bZ⟩:=gg.grow (H':=upd H1 p' _) (λb o z=>sm (up b o z)) (gg.wl.tb.upd rfl (.inl nR));obtain⟨a1,a2,a3⟩:=uF g2 hl (Me tu3);exact k _ _ _ _ a1 (((aV.drop gd.wt).trans bZ).trans a2) a3⟩
where
 pj {α:Type} [DecidableEq α]:∀ {l l':List α},l.Nodup->(∀ x∈l,x∈l')->l.length<=l'.length
 | [],_,_,_=>Q1 _
 | a::l,l',nd,h=>by
  have ha:=h a Qg;have i:=pj (l:=l) (l':=l'.erase a) (Q3.mp nd).2 λx hx=>by have ne:x≠a:=λz=>(Q3.mp nd).1 (z ▸ hx);exact(YJ ne).mpr (h x (Qf _ hx))
  rw[JZ ha]at i;have:0<l'.length:=Yp ha;show l.length+1<=l'.length;omega
end
end L3
namespace L3
open PySem PySem.Spec PyProof.Rows L2
variable {K:PySem.W.Frag}{N ps:List Str}{P:Program}{X:Cx}{base:Heap}{body:aK}{es:List Expr}{g:cf}{mg:Str->Option Value}{st:Stmt}{w:World}{x:Str}
section
variable {X:Cx}{a b c:Expr}{fa fb fc:aN}{pos:Pos}
@[simp] def vj:D->D->Option D:=gI λi j=>some (.bl (i==j))
theorem Mf:dy X (compareOp .Eq) (lZ λi j=>.bl (i==j)):=AY λ_ _ _ _ _ _ _ q=>eq_int q
theorem y51(ha:QD X a fa)(hb:QD X b fb)(hc:QD X c fc)(hm:lastMarks [.Eq,.Eq] [b,c]=false:=by with_unfolding_all rfl):iY X (.Compare a [.Eq,.Eq] [b,c] pos) (bg (n6 vj vj fa fb fc)):=⟨have ha:=ha.o;have hb:=hb.o;have hc:=hc.o;XN Mf Mf (λi j d h=>by cases h;rfl) (λi j d h=>by cases h;rfl) ha hb hc hm⟩
end
theorem qv(i:Nat){pos:Pos}(hN:X.N[i]? = some x:=by rfl)(hv:vV X.env.scope x:=by first|exact Or.inl rfl|exact Or.inr (Or.inl rfl)|exact Or.inr (Or.inr rfl))(hd:(x==("__debug__":Str))=false:=by decide)(i4:(x==("__classdict__":Str))=false:=by decide):QE X (.Name x pos) (lX i):=⟨pv i hN hv hd i4⟩
theorem ql(i:Nat){pos:Pos}(hN:X.N[i]? = some x:=by rfl)(hv:X.env.scope.names.lookup x=some .local:=by rfl)(hd:(x==("__debug__":Str))=false:=by decide)(i4:(x==("__classdict__":Str))=false:=by decide):QE X (.Name x pos) (lX i):=⟨pv i hN (.inl hv) hd i4⟩
theorem jX{e:Expr}{f:cS}(h:uI X e f):iY X e f:=⟨PW.pt h.o⟩
theorem aB(i:Nat){pos:Pos}(hN:X.N[i]? = some x:=by rfl)(hv:X.env.scope.names.lookup x=some .local:=by rfl)(hd:(x==("__debug__":Str))=false:=by decide)(i4:(x==("__classdict__":Str))=false:=by decide):QD X (.Name x pos) (aa i):=aJ (ql i hN hv hd i4)
theorem aC(i:Nat){pos:Pos}(hr:gy X es g)(hN:X.N[i]? = some x:=by rfl)(hv:X.env.scope.names.lookup x=some .local:=by rfl)(hd:(x==("__debug__":Str))=false:=by decide)(i4:(x==("__classdict__":Str))=false:=by decide):gy X (.Name x pos::es) (fq (aa i) g):=ag (aB i hN hv hd i4) hr bT
theorem cX{i:Int}{j:Nat}{pos:Pos}(hr:gy X es g):gy X (.Constant (.int i) j pos::es) (fq (eC (.int i)) g):=ag aM hr nq
theorem au.cz{k:Nat}(a:At K mg x st ps)(S:ae N ps (bw st))
  (h:∀ (f:Addr) (cB:Value) (A:Around) (outer:List Env) (s:Shared) (H:Hp) (E:XK),bC k (A.deeper (envOfC x (bw st) s.heap.objs.size f cB))->iJ (nP kJ P w K mg base N x (bw st) f cB A outer s H E).j4 (kI st) body) :
  au P w K mg base (k+1) x ps.length (bX N.length body):=au.mk a S λf cB A outer s H E hr=>(h f cB A outer s H E hr).o
theorem j2o{k:Nat}{f:Addr}{fd:FuncData}(F:oM K x x st f fd)(S:ae N ps (bw st))
  (h:∀ (f:Addr) (cB:Value) (A:Around) (outer:List Env) (s:Shared) (H:Hp) (E:XK),bC k (A.deeper (envOfC x (bw st) s.heap.objs.size f cB))->iJ (nP kJ P w K mg base N x (bw st) f cB A outer s H E).j4 (kI st) body) :
  fz P w K mg base kJ (k+1) f fd ps (ng K ps.length (bX N.length body)):=W7 F S λf cB A outer s H E hr=>(h f cB A outer s H E hr).o
end L3
namespace L3
open PySem PySem.Spec PyProof.Rows PySem.W L2
variable {C:Addr}{K:Frag}{L:List Str}{mg:Str->Option Value}{x:Str}
theorem FK{v:Value}{b:Bool}(h:mroIn K C v=some b):(clsIn K C).isSome=true:=by obtain⟨cd,a,_⟩:=Option.bind_eq_some_iff.mp h;rw[a];rfl
theorem j7.of{nm:Str}(n:nsIn K mainGlobals nm=some (some (.ref C)))(x:gH K C)(ex:excIn K C DR "ValueError.__new__" = true)(v:mroIn K C (.type "ValueError")=some true)
  (a1:mroIn K C (.type "int")=some false) (a2:mroIn K C (.type "bool")=some false) (a3:mroIn K C (.type "tuple")=some false) (a4:mroIn K C (.type "list")=some false) (a5:mroIn K C (.type "str")=some false):j7 K nm C:=
 ⟨n,x,ex,v,λT hT=>by
   rcases Qm.mp hT with rfl|hT
   .exact a1
   rcases Qm.mp hT with rfl|hT
   .exact a2
   rcases Qm.mp hT with rfl|hT
   .exact a3
   rcases Qm.mp hT with rfl|hT
   .exact a4
   rcases Qm.mp hT with rfl|hT
   .exact a5
   cases hT⟩
theorem rF.nil{R:Str}{RA:Addr}(x:gH K RA)(t:typeIn K (.ref RA)=some (.type "type"))(m:mg R=some (.ref RA)):rF K mg R []:=⟨RA,x,t,m,λn hn=>nomatch hn⟩
theorem rF.cons{K:Frag}{mg:Str->Option Value}{R nm:Str}{L:List Str}{C RA:Addr}(U:rF K mg R L)(m:mg R=some (.ref RA))(k:j7 K nm C)(s:mroIn K C (.ref RA)=some true):rF K mg R (nm::L):=by
 obtain⟨RB,x,t,m',h⟩:=U;rw[m]at m';cases m';refine⟨RA,x,t,m,λn hn C' e=>?_⟩;rcases Qm.mp hn with rfl|hn
 .have e':=k.ns;rw[e]at e';cases e';exact⟨k,s⟩
 .exact h n hn C' e
theorem gK.nil{nm:Str}(m:mg nm=some (.ref C)):gK K mg [] nm:=⟨C,m,λn hn=>nomatch hn⟩
theorem gK.self{nm:Str}(U:gK K mg L nm)(n:nsIn K mainGlobals nm=some (some (.ref C)))(m:mg nm=some (.ref C)):gK K mg (nm::L) nm:=by
 obtain⟨C',m',h⟩:=U;rw[m]at m';cases m';refine⟨C,m,λn' hn B e=>?_⟩;rcases Qm.mp hn with rfl|hn
 .rw[e]at n;cases n;exact⟨λ_=>by unfold isIn;simp,λz=>absurd rfl z⟩
 .exact h n' hn B e
theorem gK.other{nm n2:Str}{D:Addr}(U:gK K mg L n2)(n:nsIn K mainGlobals nm=some (some (.ref C)))(m:mg n2=some (.ref D))(hn:nm≠n2)(ne:C≠D)(t:typeIn K (.ref D)=some (.type "type"))(o:mroIn K D (.type "object")=some true)(s:mroIn K C (.ref D)=some false):gK K mg (nm::L) n2:=by
 obtain⟨D',m',h⟩:=U;rw[m]at m';cases m';refine⟨D,m,λn' qF B e=>?_⟩;rcases Qm.mp qF with rfl|qF
 .rw[e]at n;cases n;have s':subIn K (.ref C) (.ref D)=some false:=s;exact⟨λz=>absurd z hn,λ_=>by unfold kin_not;rw[FK o,t,s'];simp[ne]⟩
 .exact h n' qF B e
theorem nr.cz{P:Program}{w:World}{K:PySem.W.Frag}{base:Heap}{k:Nat}{st:Stmt}{N ps:List Str}{xb:jj}(a:At K mg x st ps)(S:ae N ps (bw st))
  (h:∀ (f:Addr) (cB:Value) (A:Around) (outer:List Env) (s:Shared) (H:Hp) (E:XK),bC k (A.deeper (envOfC x (bw st) s.heap.objs.size f cB))->yT (lA P w K mg base N x (bw st) f cB A outer s H E) E (kI st) xb) :
  nr P w K mg base (k+1) x ps.length (fnX N.length xb):=nr.mk a S λf cB A outer s H E hr=>(h f cB A outer s H E hr).o
theorem k09{K:PySem.W.Frag}(a:nsIn K mainGlobals x=some none):tabIn K x=none:=by unfold tabIn;rw[a]
theorem T0.of{K:PySem.W.Frag}(h1:tabIn K "turned" = none)(h2:tabIn K "chain_ladder" = none)(h3:tabIn K "flat_ladder" = none)(h4:tabIn K "paired" = none)(h5:tabIn K "height_of" = none)(h6:tabIn K "_law_high" = none):∀ x∈wj,tabIn K x=none:=λx hx=>by unfold wj at hx;simp only[Qm,QC,Ym]at hx;rcases hx with rfl|rfl|rfl|rfl|rfl|rfl<;>assumption
theorem z9r{l:PySem.W.OpenLaw}{n k:Nat}{q:Program}{loose:List Str}{XP:(Str->Option Value)->Heap->Prop}{YP:World->Heap->Prop}{d:DefRec}{K:Params->PySem.W.Frag}{F0:List D->OD}
  (hn:l.most=some n) (Bo:n<=sizeLine) (x_:d.params.defaults=[]) (hr:bC k callerA) (hY:∀ (w:World) (h:Heap),YP w h->(K w.params).In h)
  (F:∀ (w:World) (mg:Str->Option Value) (fa:Addr) (h:Heap),(K w.params).In h->h.Ns mainGlobals mg->mg d.name=some (.ref fa)->(∀ x∈wj,tabIn (K w.params) x=none) /\
    ∃ fd:FuncData,(∀ (s:Shared) (u:Value),BindsTo s fd ⟨[u],[]⟩ [(x,u)])/\∀ base:Heap,(K w.params).In base->base.Ns mainGlobals mg->fz l.prog w (K w.params) mg base kJ k fa fd [x] (ng (K w.params) 1 F0))
  (k8:∀ (w:World) (H:Hp) (a:Addr) (ns:List Int),ns.length<=n->TB (K w.params) H->dE (K w.params) H a (ns.map V.int)->ng (K w.params) 1 F0 [.ref a] H (λv _=>v=.bl true) λ_ _ _=>False) :
  PySem.W.WalkO q loose XP YP l.row.toRowW d [] (λf vs=>PySem.call f vs):=by refine HY.TN hn x_ λw aD br mg mb fa o pm cd doc a vs ns G Y ho hd i4 hmg uv hints hlen hg=>?_;have KX:=hY w _ Y;obtain⟨hT,fd,hb,hF⟩:=F w mg fa _ KX G.T.g hmg;exact TR KX G.T.g G.T.b G.T.builtins G.T.nolimit hg uv hints (Qw hlen Bo) hr hF hb (λH hO hS=>k8 w H a ns hlen (TB.only hO hT) hS) λ_ _ _ z=>z
def hI (v:Nat):Int:=if v=7 then -2 else Int.ofNat v
end L3
namespace L3
open PySem PySem.Spec PyProof.Rows L2
theorem rM{k:Nat}{pt:iB}{tt:cS}{te:aN}{deep:Bool}:∀ (ds:List D) (S:Nat->a_) (b:Nat->Bool) (v:Nat->D),
  (∀ i (h:i<ds.length),∃ ac ap,pt ds[i] (S i++replicate k none)=some ac/\tt ac=some (b i,ap) /\
    (if b i=true then ∃ q gT,te ap=some (v i,q,gT)/\¬ (deep=true/\(v i).df=true/\q≠1)/\gT.take (S i).length=S (i+1)else ap.take (S i).length=S (i+1)))->
  j9 k pt tt te deep ds (S 0)=some (((range ds.length).filter b).map v,S ds.length)
 | [],S,b,v,_=>rfl
 | d::ds,S,b,v,h=>by
  obtain⟨ac,ap,h1,h2,h3⟩:=h 0 (by simp);have ih:=rM ds (λi=>S (i+1)) (λi=>b (i+1)) (λi=>v (i+1)) (λi hi=>h (i+1) (by simpa using hi));have er:((range (d::ds).length).filter b).map v=(if b 0=true then [v 0]else [])++((range ds.length).filter λi=>b (i+1)).map λi=>v (i+1):=by rw[QB,JE,List.filter_cons,List.filter_map];split<;>simp[JM]
  rw[er];unfold j9;rw[show pt d (S 0++replicate k none)=some ac from h1];simp only[h2];split at h3;next hb=>
   obtain⟨q,gT,h4,h5,h6⟩:=h3;simp only[hb,ZE,h4,Ql h5,h6,ih];rfl
  next hb=>
   simp only[hb,h3,ih];rfl
theorem kh{pt:iB}{body:aK}:∀ (ds:List D) (I:Nat->a_->Prop) (ρ:a_),(∀ i (h:i<ds.length) ρ,I i ρ->∃ ac ap,pt ds[i] ρ=some ac/\(body ac=some (.nx ap)\/body ac=some (.ct ap))/\I (i+1) ap)->I 0 ρ->∃ am,fY pt body ds ρ=some (.nx am)/\I ds.length am
 | [],I,ρ,_,h0=>⟨ρ,rfl,h0⟩
 | d::ds,I,ρ,h,h0=>by obtain⟨ac,ap,h1,h2,h3⟩:=h 0 (by simp) ρ h0;obtain⟨am,e,h4⟩:=kh ds (λi=>I (i+1)) ap (λi hi=>h (i+1) (by simpa using hi)) h3;refine⟨am,?_,h4⟩;unfold fY;rw[show pt d ρ=some ac from h1];rcases h2 with h2|h2<;>(simp only[h2];exact e)
theorem aR{f g:aK}{ρ ac:a_}(h:f ρ=some (.nx ac)):aF f g ρ=g ac:=by unfold aF;rw[h]
theorem qg{f g:aK}{ρ:a_}{d:D}{q:Nat}(h:f ρ=some (.rt d q)):aF f g ρ=some (.rt d q):=by unfold aF;rw[h]
theorem dh{n:Nat}{body:aK}{ds:List D}{d:D}{q:Nat}(h:body (nU n ds)=some (.rt d q)):bX n body ds=some (d,q):=by unfold bX;rw[h]
theorem e_{k:Nat}{it:ma}{pt:iB}{tt:cS}{te:aN}{deep:Bool}{ρ ac ap:a_}{ds vs:List D}(hi:it ρ=some (ds,ac))(hc:j9 k pt tt te deep ds ac=some (vs,ap)):cQ k it pt tt te deep ρ=some (.lst vs,if deep=true then 2 else 1,ap):=by unfold cQ;rw[hi];simp only[hc]
theorem j52{i:Nat}{f:aN}{ρ ac:a_}{d:D}{q:Nat}(h:f ρ=some (d,q,ac)):bA i f ρ=some (.nx (ac.set i (some (d,q)))):=by unfold bA;rw[h]
theorem fg{f:aN}{ρ ac:a_}{d:D}{q:Nat}(h:f ρ=some (d,q,ac)):bu f ρ=some (.rt d q):=by unfold bu;rw[h]
theorem iF{it:ma}{pt:iB}{body:aK}{ρ ac:a_}{ds:List D}(h:it ρ=some (ds,ac)):eP it pt body ρ=fY pt body ds ac:=by unfold eP;rw[h]
theorem nu{g:cS}{s s':aK}{ρ ac:a_}(h:g ρ=some (true,ac)):cL g s s' ρ=s ac:=by unfold cL;rw[h];rfl
theorem iu{g:cS}{s s':aK}{ρ ac:a_}(h:g ρ=some (false,ac)):cL g s s' ρ=s' ac:=by unfold cL;rw[h];rfl
theorem dw{i:Nat}{f:aN}{ρ ac ap:a_}{d:D}{q:Nat}(h:f ρ=some (d,q,ac))(e:ac.set i (some (d,q))=ap):bA i f ρ=some (.nx ap):=by rw[j52 h,e]
theorem bS{f:aN}{ρ ac:a_}{d:D}{q:Nat}(h:f ρ=some (d,q,ac)):fq f gJ ρ=some ([d],ac):=by unfold fq;rw[h];rfl
theorem b7{f:aN}{g:cf}{ρ ac ap:a_}{d:D}{q:Nat}{ds:List D}(h:f ρ=some (d,q,ac))(h':g ac=some (ds,ap)):fq f g ρ=some (d::ds,ap):=by unfold fq;rw[h];simp only[h']
theorem nv{g:cf}{ρ ac:a_}{ds:List D}(h:g ρ=some ([.lst ds],ac)):iE g ρ=some (.tup ds,9,ac):=by unfold iE;rw[h]
theorem FL{g:cf}{ρ ac:a_}{ds:List D}(h:cP g ρ=some (ds,ac)):q9 g ρ=some (.lst ds,1,ac):=by unfold q9;rw[h]
theorem bp{F:List D->OD}{n:Nat}{g:cf}{ρ ac:a_}{ds:List D}{d:D}{q:Nat}(h:g ρ=some (ds,ac))(hl:ds.length=n)(hF:F ds=some (d,q)):aG F n g ρ=some (d,q,ac):=by unfold aG;rw[h];simp only[hl,ZE,hF]
def aq (l:List Nat):List D:=l.map λi=>.int (Int.ofNat i)
abbrev iD (k:Nat):D:=.int (Int.ofNat k)
abbrev uL (v:List Nat):OD:=some (.lst (aq v),1)
abbrev v9 (v:List Nat):OD:=some (.tup (aq v),9)
abbrev b9 (b:Bool):OD:=some (.bl b,9)
abbrev i9 (k:Nat):OD:=some ((iD k),9)
theorem z1i(n:Nat):cM n=aq (range n):=rfl
def ny (n:Nat)(f:Nat->Nat->Nat)(i:Nat):D:=.tup (aq ((range n).map λj=>f i j))
def aT (n:Nat)(f:Nat->Nat->Nat):D:=.tup ((range n).map λi=>ny n f i)
abbrev t9 (n:Nat)(f:Nat->Nat->Nat):OD:=some (aT n f,9)
def f_ (n:Nat)(f:Nat->Nat->Nat)(i:Nat):D:=.lst (aq ((range n).map λj=>f i j))
def cD (n:Nat)(f:Nat->Nat->Nat):D:=.lst ((range n).map λi=>f_ n f i)
@[simp] theorem k08{n:Nat}{f:Nat->Nat->Nat}:(aT n f).df=false:=rfl
@[simp] theorem k06{n:Nat}{f:Nat->Nat->Nat}{i:Nat}:(ny n f i).df=false:=rfl
@[simp] theorem k05{n:Nat}{f:Nat->Nat->Nat}:(cD n f).df=true:=rfl
@[simp] theorem k02{n:Nat}{f:Nat->Nat->Nat}{i:Nat}:(f_ n f i).df=true:=rfl
theorem fP(l:List Nat):(aq l).length=l.length:=by simp[aq]
theorem Cp(l:List Nat)(i:Nat):(aq l)[i]? = (l[i]?).map λx=>.int (Int.ofNat x):=by simp[aq]
theorem Cq{n i:Nat}(h:i<n):k9 n (Int.ofNat i)=some i:=by unfold k9;rw[Qh (by exact Int.natCast_nonneg i),Qh (by show(i:Int)<n;omega)];rfl
theorem zx{α:Type}{xs:List α}{i:Nat}{x:α}(h:xs[i]? = some x):L2.fK xs (Int.ofNat i)=some x:=by unfold L2.fK;rw[Cq (Qy.mp h).1];exact h
theorem FN{l:List Nat}{i x:Nat}(h:l[i]? = some x):L2.fK (aq l) (Int.ofNat i)=some (iD x):=zx (by rw[Cp,h];rfl)
theorem Mg{g:Nat->D}{n i:Nat}(h:i<n):L2.fK ((range n).map g) (Int.ofNat i)=some (g i):=zx (by rw[Qp,Za h];rfl)
theorem vk{g:Nat->Nat}{n i:Nat}(h:i<n):L2.fK (aq ((range n).map g)) (Int.ofNat i)=some (iD (g i)):=FN (by rw[Qp,Za h];rfl)
theorem lK{n:Nat}{f:Nat->Nat->Nat}{i:Nat}(h:i<n):dJ (aT n f) (Int.ofNat i)=some (ny n f i):=Mg h
theorem mB{n:Nat}{f:Nat->Nat->Nat}{i j:Nat}(h:j<n):dJ (ny n f i) (Int.ofNat j)=some (iD (f i j)):=vk h
theorem j5e{n:Nat}{f:Nat->Nat->Nat}{i:Nat}(h:i<n):dJ (cD n f) (Int.ofNat i)=some (f_ n f i):=Mg h
theorem j3d{n:Nat}{f:Nat->Nat->Nat}{i j:Nat}(h:j<n):dJ (f_ n f i) (Int.ofNat j)=some (iD (f i j)):=vk h
theorem iN{n:Nat}{f:Nat->Nat->Nat}:ip (aT n f)=some n:=by simp[aT,ip]
theorem zy{n:Nat}{f:Nat->Nat->Nat}:ip (cD n f)=some n:=by simp[cD,ip]
theorem Cr{n:Nat}{f g:Nat->Nat->Nat}(h:∀ a b,a<n->b<n->f a b=g a b):cD n f=cD n g:=by unfold cD f_;refine Zy D.lst (Zb λa ha=>?_);refine Zy (λl=>D.lst (aq l)) (Zb λb hb=>?_);exact h a b (QA.mp ha) (QA.mp hb)
theorem Mh{α:Type}{g:Nat->α}{n m:Nat}{x:α}:((range n).map g).set m x=(range n).map λa=>if a=m then x else g a:=by
 apply Zp;intro i;by_cases hi:i<n
 .by_cases h:m=i
  .subst h;rw[QN (by simpa using hi),Qp,Za hi];simp
  .rw[QP h,Qp,Qp,Za hi];simp;exact λz=>absurd z.symm h
 .rw[Qz (by simp;omega),Qz (by simp;omega)]
theorem rN{g:Nat->Nat}{n:Nat}:aq ((range n).map g)=(range n).map λi=>.int (Int.ofNat (g i)):=by simp[aq]
theorem j11{n:Nat}{f:Nat->Nat->Nat}{a b v:Nat}:D.lst (((range n).map λi=>f_ n f i).set a (.lst ((aq ((range n).map λj=>f a j)).set b (iD v))))=cD n λi j=>if i=a/\j=b then v else f i j:=by
 unfold cD;rw[Mh];refine Zy D.lst (Zb λi hi=>?_);by_cases h:i=a
 .subst h;rw[Qh rfl,rN,Mh];unfold f_;rw[rN];refine Zy D.lst (Zb λj hj=>?_);by_cases hj:j=b<;>simp[hj]
 .rw[Ql h];unfold f_;simp[h]
theorem k1y(n:Nat):D.lst (replicate n [D.int 0]).flatten=f_ n (λ_ _=>0) 0:=by unfold f_ aq;congr 1;simp[ZD,YU]
theorem Mi:∀ ds:List D,eG ds=ds.map b6
 | []=>rfl
 | d::ds=>by rw[eG,Mi ds];rfl
def lay (d:D):Bool:=mf d&&(b6 d).canLay0
theorem Mj{d:D}(h:lay d=true):mf d=true:=(ZF.mp h).1
theorem Ml{d:D}(h:lay d=true):(b6 d).canLay0=true:=(ZF.mp h).2
theorem FO:∀ {ds:List D},(∀ d∈ds,lay d=true)->uP ds=true
 | [],_=>rfl
 | d::ds,h=>by show(mf d&&uP ds)=true;rw[Mj (h d Qg),FO λx m=>h x (Qf _ m)];rfl
def m7 (d:D):Nat:=(b6 d).depth
theorem FP:∀ {ds:List D},(∀ d∈ds,lay d=true)->PyData.canLayAll0 (eG ds)=true
 | [],_=>rfl
 | d::ds,h=>by rw[eG,PyData.canLayAll0,FP λx m=>h x (Qf _ m),Uf];exact Ml (h d Qg)
theorem FQ{k:Nat}:∀ {ds:List D},(∀ d∈ds,m7 d<=k)->PyData.depthAll (eG ds)<=k
 | [],_=>Q1 _
 | d::ds,h=>by rw[eG,PyData.depthAll];exact Nat.max_le.mpr ⟨h d Qg,FQ λx m=>h x (Qf _ m)⟩
def Sh (k:Nat)(d:D):Prop:=lay d=true/\m7 d<=k
theorem Sh.int{k:Nat}(i:Int):Sh k (.int i):=⟨rfl,Q1 _⟩
theorem Sh.bc{k:Nat}:Sh k .bc:=⟨rfl,Q1 _⟩
theorem Sh.tup{k:Nat}{ds:List D}(h:∀ d∈ds,Sh k d):Sh (k+1) (.tup ds):=⟨ZF.mpr ⟨FO λd m=>(h d m).1,FP λd m=>(h d m).1⟩,Vu (FQ λd m=>(h d m).2)⟩
theorem Sh.lst{k:Nat}{ds:List D}(h:∀ d∈ds,Sh k d):Sh (k+1) (.lst ds):=⟨ZF.mpr ⟨FO λd m=>(h d m).1,FP λd m=>(h d m).1⟩,Vu (FQ λd m=>(h d m).2)⟩
theorem Sh.ok{k:Nat}{d:D}(h:Sh k d)(hk:k<=64:=by decide):eS d=true:=by show(mf d&&((b6 d).canLay0&&decide ((b6 d).depth<=64)))=true;rw[Mj h.1,Ml h.1,JI,JI];exact Qr (Qw h.2 hk)
theorem Mm{l:List Nat}{d:D}(m:d∈aq l):Sh 0 d:=by obtain⟨x,_,rfl⟩:=Qo.mp m;exact .int _
theorem zz(l:List Nat):Sh 1 (.lst (aq l)):=.lst λ_ m=>Mm m
theorem wY(l:List Nat):Sh 1 (.tup (aq l)):=.tup λ_ m=>Mm m
theorem j3z(n:Nat)(f:Nat->Nat->Nat):Sh 2 (aT n f):=.tup λd m=>by obtain⟨x,_,rfl⟩:=Qo.mp m;exact wY _
theorem FR:∀ l l':List Nat,PyData.eqvAll (eG (aq l)) (eG (aq l'))=decide (l=l')
 | [],[]=>rfl
 | [],_::_=>rfl
 | _::_,[]=>rfl
 | x::l,y::l'=>by
  show(((x:Int)==(y:Int))&&PyData.eqvAll (eG (aq l)) (eG (aq l')))=_;rw[FR l l'];by_cases h:x=y
  .subst h;simp
  .have:((x:Int)==(y:Int))=false:=by simp;omega
   rw[this];simp[h]
theorem Mn(l l':List Nat):pZ (.lst (aq l)) (.lst (aq l'))=decide (l=l'):=FR l l'
theorem Mp(l l':List Nat):pZ (.tup (aq l)) (.tup (aq l'))=decide (l=l'):=FR l l'
theorem FT(i j:Int):pZ (.int i) (.int j)=decide (i=j):=by show(i==j)=_;rw[Bool.beq_eq_decide_eq]
theorem FU(i j:Nat):pZ (iD i) (iD j)=decide (i=j):=by rw[FT];exact ZR.mpr ⟨λh=>J1 h,λh=>by rw[h]⟩
theorem Mq(l l':List Nat):dG (.lst (aq l)) (.lst (aq l'))=some (.bl (decide (l=l'))):=by unfold dG;rw[Qh ⟨(zz l).ok,(zz l').ok⟩,Mn]
theorem k1k(l l':List Nat):cH (.lst (aq l)) (.lst (aq l'))=some (.bl (!decide (l=l'))):=by unfold cH;rw[Qh ⟨(zz l).ok,(zz l').ok⟩,Mn]
theorem Mr(i j:Int):dG (.int i) (.int j)=some (.bl (decide (i=j))):=by unfold dG;rw[Qh ⟨(Sh.int (k:=0) i).ok,(Sh.int (k:=0) j).ok⟩,FT]
theorem j5f(i j:Int):cH (.int i) (.int j)=some (.bl (!decide (i=j))):=by unfold cH;rw[Qh ⟨(Sh.int (k:=0) i).ok,(Sh.int (k:=0) j).ok⟩,FT]
theorem pq(i j:Nat):dG (iD i) (iD j)=some (.bl (decide (i=j))):=by unfold dG;rw[Qh ⟨(Sh.int (k:=0) _).ok,(Sh.int (k:=0) _).ok⟩,FU]
theorem jE(i j:Nat):cH (iD i) (iD j)=some (.bl (!decide (i=j))):=by unfold cH;rw[Qh ⟨(Sh.int (k:=0) _).ok,(Sh.int (k:=0) _).ok⟩,FU]
theorem Ms{α:Type}{p:α->Bool}:∀ {l:List α} {j:Nat} {x:α},l[j]? = some x->p x=true->(∀ i y,i<j->l[i]? = some y->p y=false)->l.findIdx? p=some j
 | [],j,x,h,_,_=>by simp at h
 | a::l,0,x,h,hp,_=>by simp at h;subst h;simp[List.findIdx?_cons,hp]
 | a::l,j+1,x,h,hp,hn=>by have h0:p a=false:=hn 0 a (JB _) rfl;have ih:=Ms (l:=l) (j:=j) (x:=x) (by simpa using h) hp λi y hi hy=>hn (i+1) y (Nat.succ_lt_succ hi) (by simpa using hy);simp[List.findIdx?_cons,h0,ih]
structure bq (n:Nat) (f:Nat->Nat->Nat):Prop where
 lo:0<n
 hi:n<=16
 cl:∀ i j,i<n->j<n->f i j<n
 idem:∀ i,i<n->f i i=i
 comm:∀ i j,i<n->j<n->f i j=f j i
 assoc:∀ i j k,i<n->j<n->k<n->f (f i j) k=f i (f j k)
 bot:∃ z,z<n/\∀ j,j<n->f z j=j
def FV (n:Nat)(f:Nat->Nat->Nat):Bool:=
 decide (0<n)&&decide (n<=16)&&((range n).all λi=>(range n).all λj=>decide (f i j<n))&&((range n).all λi=>decide (f i i=i))&&((range n).all λi=>(range n).all λj=>decide (f i j=f j i)) &&
 ((range n).all λi=>(range n).all λj=>(range n).all λk=>decide (f (f i j) k=f i (f j k)))&&((range n).any λz=>(range n).all λj=>decide (f z j=j))
theorem j5o{n:Nat}{f:Nat->Nat->Nat}(h:FV n f=true):bq n f:=by unfold FV at h;simp only[Zo,ZC,ZG,List.any_eq_true,QA]at h;obtain⟨⟨⟨⟨⟨⟨h1,h2⟩,h3⟩,h4⟩,h5⟩,h6⟩,z,hz,h7⟩:=h;exact⟨h1,h2,λi j hi hj=>h3 i hi j hj,h4,λi j hi hj=>h5 i hi j hj,λi j k hi hj hk=>h6 i hi j hj k hk,z,hz,h7⟩
theorem bq.ren{n:Nat}{f:Nat->Nat->Nat}(L:bq n f){π ι:Nat->Nat}(h1:∀ i,i<n->π i<n)(h2:∀ i,i<n->ι i<n)(h3:∀ i,i<n->ι (π i)=i)(h4:∀ i,i<n->π (ι i)=i):bq n λa b=>π (f (ι a) (ι b)):=by
 obtain⟨l1,l2,cl,idem,comm,assoc,z,hz,bot⟩:=L;refine⟨l1,l2,λi j hi hj=>h1 _ (cl _ _ (h2 i hi) (h2 j hj)),λi hi=>?_,λi j hi hj=>?_,λi j k hi hj hk=>?_,π z,h1 z hz,λj hj=>?_⟩
 .show π (f (ι i) (ι i))=i;rw[idem _ (h2 i hi),h4 i hi]
 .show π (f (ι i) (ι j))=π (f (ι j) (ι i));rw[comm _ _ (h2 i hi) (h2 j hj)]
 .show π (f (ι (π (f (ι i) (ι j)))) (ι k))=π (f (ι i) (ι (π (f (ι j) (ι k)))));rw[h3 _ (cl _ _ (h2 i hi) (h2 j hj)),h3 _ (cl _ _ (h2 j hj) (h2 k hk)),assoc _ _ _ (h2 i hi) (h2 j hj) (h2 k hk)]
 .show π (f (ι (π z)) (ι j))=j;rw[h3 z hz,bot _ (h2 j hj),h4 j hj]
def b_ (p:Nat->Nat->Nat)(n:Nat):Nat->List Nat
 | 0=>range n
 | k+1=>(b_ p n k).eraseIdx (p k (b_ p n k).length)
def drawn (p:Nat->Nat->Nat)(n k:Nat):Nat:=(b_ p n k).getD (p k (b_ p n k).length) 0
theorem Mt:∀ (l:List Nat) (j:Nat),(aq l).eraseIdx j=aq (l.eraseIdx j)
 | [],_=>rfl
 | _::_,0=>rfl
 | a::l,j+1=>Zy ((iD a) :: ·) (Mt l j)
theorem zA{p:Nat->Nat->Nat}{n:Nat}(hp:∀ k m,0<m->p k m<m):∀ k,k<=n->(b_ p n k).length=n-k
 | 0,_=>by simp[b_]
 | k+1,h=>by have ih:=zA hp k (Nat.le_of_succ_le h);have:=hp k (n-k) (by omega);rw[b_,V7,ih,Qh this];omega
theorem Mu:∀ {l:List Nat} {j:Nat} (h:j<l.length),(l[j]::l.eraseIdx j).Perm l
 | a::l,0,_=>Ub _
 | a::l,j+1,h=>(List.Perm.swap a (l[j]'(by simpa using h)) (l.eraseIdx j)).trans (List.Perm.cons a (Mu (by simpa using h)))
theorem Mv{p:Nat->Nat->Nat}{n:Nat}(hp:∀ k m,0<m->p k m<m):∀ k,k<=n->(((range k).map (drawn p n))++b_ p n k).Perm (range n)
 | 0,_=>by simp[b_]
 | k+1,h=>by
  have ih:=Mv hp k (Nat.le_of_succ_le h);have hl:=zA hp k (by omega:k<=n);have hj:p k (b_ p n k).length<(b_ p n k).length:=by rw[hl];exact hp k _ (by omega)
  refine List.Perm.trans ?_ ih;rw[VQ,Q4,ZB];refine VW _ ?_;have e:drawn p n k=(b_ p n k)[p k (b_ p n k).length]:=by unfold drawn;rw[Qi,Qc hj];rfl
  show(drawn p n k::(b_ p n (k+1))).Perm _;rw[e,b_];exact Mu hj
theorem Cs{p:Nat->Nat->Nat}{n:Nat}(hp:∀ k m,0<m->p k m<m):((range n).map (drawn p n)).Perm (range n):=by have h:=Mv hp n (Qj n);have hl:=zA hp n (Qj n);rw[VJ]at hl;rw[ZQ.mp hl,QX]at h;exact h
theorem Mw{p:Nat->Nat->Nat}{n:Nat}(hp:∀ k m,0<m->p k m<m){i:Nat}(h:i<n):drawn p n i<n:=by have m:drawn p n i∈(range n).map (drawn p n):=Qo.mpr ⟨i,QA.mpr h,rfl⟩;exact QA.mp ((Cs hp).mem_iff.mp m)
def mC (p:Nat->Nat->Nat)(n a:Nat):Nat:=((range n).map (drawn p n)).idxOf a
theorem Mx{p:Nat->Nat->Nat}{n:Nat}(hp:∀ k m,0<m->p k m<m){a:Nat}(h:a<n):mC p n a<n:=by have m:a∈(range n).map (drawn p n):=(Cs hp).mem_iff.mpr (QA.mpr h);have:=Y1 m;rw[Qb,QK]at this;exact this
theorem Mz{p:Nat->Nat->Nat}{n:Nat}(hp:∀ k m,0<m->p k m<m){a:Nat}(h:a<n):drawn p n (mC p n a)=a:=by have m:a∈(range n).map (drawn p n):=(Cs hp).mem_iff.mpr (QA.mpr h);have:=List.getElem_idxOf (Y1 m);rw[List.getElem_map,List.getElem_range]at this;exact this
theorem MA{p:Nat->Nat->Nat}{n:Nat}(hp:∀ k m,0<m->p k m<m){i:Nat}(h:i<n):mC p n (drawn p n i)=i:=by
 have nd:((range n).map (drawn p n)).Nodup:=(Cs hp).nodup_iff.mpr YC;have hi:i<((range n).map (drawn p n)).length:=by simpa using h
 have:=nd.idxOf_getElem i hi;rw[List.getElem_map,List.getElem_range]at this;exact this
theorem vm{i n:Nat}{tt:cS}{te:aN}{ρ:a_}{deep:Bool}(hi:ρ.length=i)(b:Nat->Bool)(v:Nat->D)(q:Nat->Nat)(ht:∀ j,j<n->tt (ρ++[i9 j])=some (b j,ρ++[i9 j]))
  (he:∀ j,j<n->b j=true->te (ρ++[i9 j])=some (v j,q j,ρ++[i9 j])) (hd:deep=true->∀ j,(v j).df=true->q j=1:=by intro h;cases h) :
  j9 1 (av i) tt te deep (cM n) ρ=some (((range n).filter b).map v,ρ):=by
 have h:=rM (k:=1) (pt:=av i) (tt:=tt) (te:=te) (deep:=deep) (cM n) (λ_=>ρ) b v (λj hj=>?_)
 .rw[fM]at h;exact h
 .rw[fM]at hj;refine⟨ρ++[i9 j],_,?_,ht j hj,?_⟩
  .have:(cM n)[j]'(by rw[fM];exact hj)=(iD j):=by simp[cM]
   rw[this];unfold av;rw[Qh (by simp[hi])];subst hi;simp[YV]
  .by_cases hb:b j=true
   .rw[Qh hb];exact⟨q j,_,he j hj hb,λ⟨h1,h2,h3⟩=>h3 (hd h1 j h2),by simp⟩
   .rw[Ql hb];simp
theorem MB{z:Nat}:∀ n:Nat,(range n).filter (λw=>decide (w=z))=if z<n then [z]else []
 | 0=>by simp
 | n+1=>by
  rw[VQ,Vb,MB n];by_cases h:n=z
  .subst h;simp
  .have:¬ (n=z):=h;by_cases h2:z<n
   .rw[Qh h2,Qh (by omega)];simp[h]
   .rw[Ql h2,Ql (by omega)];simp[h]
theorem y8m{n:Nat}{g:Nat->Nat}:(range n).map g=range n ↔ ∀ j,j<n->g j=j:=by
 constructor
 .intro h j hj;have:=Zy (λl=>l[j]?) h;simpa [hj]using this
 .intro h;have e:=Zb (l:=range n) (f:=g) (g:=id) λa ha=>h a (QA.mp ha);rw[e,List.map_id]
namespace bq
variable {z:Nat}
variable {n:Nat}{f:Nat->Nat->Nat}(L:bq n f)
include L
theorem pz{x:Nat}(hz:z<n)(bz:∀ j,j<n->f z j=j)(hx:x<n)(bx:∀ j,j<n->f x j=j):x=z:=by have h1:=bx z hz;have h2:=bz x hx;rw[L.comm x z hx hz]at h1;omega
theorem fold_lt:∀ {l:List Nat} {a:Nat},a<n->(∀ x∈l,x<n)->l.foldl f a<n
 | [],a,ha,_=>ha
 | y::l,a,ha,h=>fold_lt (l:=l) (L.cl a y ha (h y Qg)) λx m=>h x (Qf _ m)
theorem MC:∀ {l:List Nat} {a x:Nat},a<n->x<n->(∀ x∈l,x<n)->f x a=a->f x (l.foldl f a)=l.foldl f a
 | [],a,x,_,_,_,e=>e
 | y::l,a,x,ha,hx,h,e=>by have hy:=h y Qg;refine MC (l:=l) (L.cl a y ha hy) hx (λx m=>h x (Qf _ m)) ?_;rw[<- L.assoc x a y hx ha hy,e]
theorem di:∀ {l:List Nat} {a x:Nat},a<n->(∀ x∈l,x<n)->x∈l->f x (l.foldl f a)=l.foldl f a
 | y::l,a,x,ha,h,m=>by
  have hy:=h y Qg;have hl:∀ x∈l,x<n:=λx m=>h x (Qf _ m);rcases Qm.mp m with rfl|m
  .refine MC L (l:=l) (L.cl a x ha hy) hy hl ?_;rw[L.comm a x ha hy,<- L.assoc x x a hy hy ha,L.idem x hy]
  .exact di (l:=l) (L.cl a y ha hy) hl m
theorem iO(hz:z<n)(bz:∀ j,j<n->f z j=j):∀ {l:List Nat} {a:Nat},a<n->(∀ x∈l,x<n)->l.foldl f a=f a (l.foldl f z)
 | [],a,ha,_=>by show a=f a z;rw[L.comm a z ha hz,bz a ha]
 | y::l,a,ha,h=>by have hy:=h y Qg;have hl:∀ x∈l,x<n:=λx m=>h x (Qf _ m);show l.foldl f (f a y)=f a (l.foldl f (f z y));rw[bz y hy,iO hz bz (L.cl a y ha hy) hl,iO hz bz hy hl,L.assoc a y _ ha hy (L.fold_lt hz hl)]
end bq
theorem zB{pt:iB}{body:aK}{d:D}{q:Nat}:∀ (ds:List D) (I:a_->Prop) (ok:Nat->Bool) (ρ:a_),
  (∀ i (h:i<ds.length) ρ,I ρ->∃ ac,pt ds[i] ρ=some ac/\(ok i=true->∃ ap,body ac=some (.nx ap)/\I ap)/\(ok i=false->body ac=some (.rt d q)))->I ρ->
  ((range ds.length).all ok=true->∃ am,fY pt body ds ρ=some (.nx am)/\I am)/\((range ds.length).all ok=false->fY pt body ds ρ=some (.rt d q))
 | [],I,ok,ρ,_,h0=>⟨λ_=>⟨ρ,rfl,h0⟩,λh=>by simp at h⟩
 | x::ds,I,ok,ρ,h,h0=>by
  obtain⟨ac,h1,h2,h3⟩:=h 0 (by simp) ρ h0;have e1:pt x ρ=some ac:=h1;have er:(range (x::ds).length).all ok=(ok 0&&(range ds.length).all λi=>ok (i+1)):=by rw[QB,JE,Ug,VL];rfl
  rw[er];cases hk:ok 0 with
  | false=>
   refine⟨λz=>by simp at z,λ_=>?_⟩;unfold fY;simp only[e1,h3 hk]
  | true=>
   obtain⟨ap,h4,h5⟩:=h2 hk;obtain⟨i1,i2⟩:=zB ds I (λi=>ok (i+1)) ap (λi hi=>h (i+1) (by simpa using hi)) h5;rw[JI];unfold fY;simp only[e1,h4];exact⟨i1,i2⟩
theorem range_all{n:Nat}{p:Nat->Bool}:(range n).all p=true ↔ ∀ i,i<n->p i=true:=by rw[ZG];exact⟨λh i hi=>h i (QA.mpr hi),λh i hi=>h i (QA.mp hi)⟩
theorem MD(p:Nat->Bool):∀ l:List Nat,((range l.length).all λi=>p (l.getD i 0))=l.all p
 | []=>rfl
 | a::l=>by rw[QB,JE,Ug,VL,Ug,<- MD p l];rfl
theorem ME{l:List Nat}{i:Nat}(h:i<(aq l).length):(aq l)[i]=(iD (l.getD i 0)):=by
 have h':i<l.length:=by rw[fP]at h;exact h
 simp[aq,h']
theorem FW{l:List Nat}{i:Nat}(h:i<l.length):l.getD i 0∈l:=by rw[Qi,Qc h];exact Q7 h
theorem MF{i:Nat}{te:aN}{ρ:a_}{deep:Bool}(l:List Nat)(hi:ρ.length=i)(v:Nat->D)(q:Nat->Nat)
  (he:∀ x,x∈l->te (ρ++[i9 x])=some (v x,q x,ρ++[i9 x])) (hd:deep=true->∀ j,(v j).df=true->q j=1:=by intro h;cases h) :
  j9 1 (av i) cN te deep (aq l) ρ=some (l.map v,ρ):=by
 have h:=rM (k:=1) (pt:=av i) (tt:=cN) (te:=te) (deep:=deep) (aq l) (λ_=>ρ) (λ_=>true) (λj=>v (l.getD j 0)) (λj hj=>?_)
 .rw[fP,show(range l.length).filter (λ_=>true)=range l.length by simp]at h;rw[h];have e:(range l.length).map (λj=>v (l.getD j 0))=l.map v:=by
   apply Zp;intro k;by_cases hk:k<l.length
   .simp[hk]
   .rw[Qz (by simp;omega),Qz (by simp;omega)]
  rw[e]
 .have hj':j<l.length:=by rw[fP]at hj;exact hj
  refine⟨ρ++[i9 (l.getD j 0)],_,?_,rfl,?_⟩
  .rw[ME hj];unfold av;rw[Qh (by simp[hi])];subst hi;simp[YV]
  .rw[Qh rfl];exact⟨q _,_,he _ (FW hj'),λ⟨h1,h2,h3⟩=>h3 (hd h1 _ h2),by simp⟩
theorem cI{g:D->D->Option D}{fa fb:aN}{ρ ac ap:a_}{x y d:D}{q q':Nat}(ha:fa ρ=some (x,q,ac))(hb:fb ac=some (y,q',ap))(hg:g x y=some d):e2 g fa fb ρ=some (d,9,ap):=by unfold e2;rw[ha];simp only[hb,hg]
theorem eH{f:aN}{ρ ac:a_}{b:Bool}{q:Nat}(h:f ρ=some (.bl b,q,ac)):bg f ρ=some (b,ac):=by unfold bg;rw[h]
theorem tJ{i:Nat}{g:cf}{ρ ac ap:a_}{ds:List D}{d:D}(hl:uR ρ[i]? = true)(hg:g ρ=some ([d],ac))(h1:ac[i]? = some (some (.lst ds,1)))(hn:ds.length<=1000)(e:ac.set i (some (.lst (ds++[d]),1))=ap):fX (kO i g) ρ=some (.nx ap):=by unfold fX kO;rw[Qh hl,hg];simp only[h1,Qh hn,e]
theorem wZ{b:List D->Option D}{g:cf}{ρ ac:a_}{ds:List D}{d:D}(h:g ρ=some (ds,ac))(hd:b ds=some d):eB b g ρ=some (d,9,ac):=by unfold eB;rw[h];simp only[hd]
def aU (n:Nat)(r:Nat->Nat):D:=.tup (aq ((range n).map r))
abbrev r9 (n:Nat)(r:Nat->Nat):OD:=some (aU n r,9)
@[simp] theorem j7y{n:Nat}{r:Nat->Nat}:(aU n r).df=false:=rfl
theorem kS{n i:Nat}{r:Nat->Nat}(h:i<n):dJ (aU n r) (Int.ofNat i)=some (iD (r i)):=vk h
theorem MG(l l':List Nat):cH (.tup (aq l)) (.tup (aq l'))=some (.bl (!decide (l=l'))):=by unfold cH;rw[Qh ⟨(wY l).ok,(wY l').ok⟩,Mp]
theorem j3x{n:Nat}{r s:Nat->Nat}(h:∀ i,i<n->r i=s i):aU n r=aU n s:=Zy (λl=>D.tup (aq l)) (Zb λi hi=>h i (QA.mp hi))
theorem MH{n:Nat}(g:Nat->Nat):D.tup ((range n).map λi=>(iD (g i)))=aU n g:=by unfold aU;rw[rN]
theorem MI(n:Nat)(r:Nat->Nat):Sh 1 (aU n r):=wY _
theorem MJ(n:Nat)(a b:Nat->Nat):((aq ((range n).map a)).zip (aq ((range n).map b))).map (λx=>D.tup [x.1,x.2])=(range n).map λj=>.tup [iD (a j),iD (b j)]:=by rw[rN,rN,List.zip_map',QO];rfl
theorem ML{i n:Nat}{tt:cS}{te:aN}{ρ:a_}{deep:Bool}(hi:ρ.length=i)(a b:Nat->Nat)(ok:Nat->Bool)(v:Nat->D)(q:Nat->Nat)
  (ht:∀ j,j<n->tt (ρ++[i9 (a j),i9 (b j)])=some (ok j,ρ++[i9 (a j),i9 (b j)]))
  (he:∀ j,j<n->ok j=true->te (ρ++[i9 (a j),i9 (b j)])=some (v j,q j,ρ++[i9 (a j),i9 (b j)]))
  (hd:deep=true->∀ j,(v j).df=true->q j=1:=by intro h;cases h) :
  j9 2 (f9 (bH (av i) (bH (av (i+1)) fC))) tt te deep ((range n).map λj=>.tup [iD (a j),iD (b j)]) ρ=some (((range n).filter ok).map v,ρ):=by
 have h:=rM (k:=2) (pt:=f9 (bH (av i) (bH (av (i+1)) fC))) (tt:=tt) (te:=te) (deep:=deep) ((range n).map λj=>.tup [iD (a j),iD (b j)]) (λ_=>ρ) ok v (λj hj=>?_)
 .rw[Qb,QK]at h;exact h
 .rw[Qb,QK]at hj;refine⟨ρ++[i9 (a j),i9 (b j)],_,?_,ht j hj,?_⟩
  .subst hi;simp[-ofNat_eq_natCast,YV]
  .by_cases hb:ok j=true
   .rw[Qh hb];exact⟨q j,_,he j hj hb,λ⟨h1,h2,h3⟩=>h3 (hd h1 j h2),by simp⟩
   .rw[Ql hb];simp
namespace bq
variable {b x y z:Nat}
variable {n:Nat}{f:Nat->Nat->Nat}(L:bq n f)
include L
theorem le_trans(hx:x<n)(hy:y<n)(hz:z<n)(h1:f x y=y)(h2:f y z=z):f x z=z:=by rw[<- h2,<- L.assoc x y z hx hy hz,h1]
theorem mD(hx:x<n)(hy:y<n)(h1:f x y=y)(h2:f y x=x):x=y:=by rw[L.comm y x hy hx,h1]at h2;exact h2.symm
theorem lL(hx:x<n)(hy:y<n):f x (f x y)=f x y:=by rw[<- L.assoc x x y hx hx hy,L.idem x hx]
theorem FX(hx:x<n)(hy:y<n):f y (f x y)=f x y:=by rw[L.comm x y hx hy];exact L.lL hy hx
theorem lub(hx:x<n)(hy:y<n)(hz:z<n)(h1:f x z=z)(h2:f y z=z):f (f x y) z=z:=by rw[L.assoc x y z hx hy hz,h2,h1]
theorem cJ(hz:z<n)(bz:∀ j,j<n->f z j=j)(hb:b<n):∀ {l:List Nat},(∀ x∈l,x<n)->(∀ x∈l,f x b=b)->f (l.foldl f z) b=b
 | [],_,_=>bz b hb
 | y::l,h,k=>by
  have hy:=h y Qg;have hl:∀ x∈l,x<n:=λx m=>h x (Qf _ m);have e:(y::l).foldl f z=f y (l.foldl f z):=by show l.foldl f (f z y)=_;rw[bz y hy,L.iO hz bz hy hl]
  rw[e];exact L.lub hy (L.fold_lt hz hl) hb (k y Qg) (cJ hz bz hb hl λx m=>k x (Qf _ m))
omit L
def low (n:Nat)(f:Nat->Nat->Nat)(x:Nat):List Nat:=(range n).filter λy=>decide (f y x=x)
theorem eF:y∈low n f x ↔ y<n/\f y x=x:=by simp[low]
def lr (n:Nat)(f:Nat->Nat->Nat)(z:Nat)(r:Nat->Nat)(x:Nat):Nat:=((low n f x).map r).foldl f z
include L
variable {z:Nat}(hz:z<n)(bz:∀ j,j<n->f z j=j){r s:Nat->Nat}(hr:∀ i,i<n->r i<n)
include hz bz hr
theorem jF:∀ y∈(low n f x).map r,y<n:=λy m=>by obtain⟨k,hk,rfl⟩:=Qo.mp m;exact hr k (eF.mp hk).1
theorem mE(x:Nat):lr n f z r x<n:=L.fold_lt hz (jF L hz bz hr)
theorem zC(hy:y<n)(h:f y x=x):f (r y) (lr n f z r x)=lr n f z r x:=L.di hz (jF L hz bz hr) (Qo.mpr ⟨y,eF.mpr ⟨hy,h⟩,rfl⟩)
theorem pA(hb:b<n)(h:∀ y,y<n->f y x=x->f (r y) b=b):f (lr n f z r x) b=b:=L.cJ hz bz hb (jF L hz bz hr) λy m=>by obtain⟨k,hk,rfl⟩:=Qo.mp m;exact h k (eF.mp hk).1 (eF.mp hk).2
theorem ki(hx:x<n)(hy:y<n)(h:f x y=y):f (lr n f z r x) (lr n f z r y)=lr n f z r y:=
 L.pA hz bz hr (L.mE hz bz hr y) λk hk e=>L.zC hz bz hr hk (L.le_trans hk hx hy e h)
end bq
theorem lG{α:Type}{us:List α}(h:us.length=1):∃ a,us=[a]:=match us,h with|[a],_=>⟨a,rfl⟩
theorem gX{α:Type}{us:List α}(h:us.length=2):∃ a b,us=[a,b]:=by
 cases us with
 | nil=>cases h
 | cons a us=>
  obtain⟨b,hh⟩:=lG (JT h);exact⟨a,b,by rw[hh]⟩
theorem jG{α:Type}{us:List α}(h:us.length=3):∃ a b c,us=[a,b,c]:=by
 cases us with
 | nil=>cases h
 | cons a us=>
  obtain⟨b,c,hh⟩:=gX (JT h);exact⟨a,b,c,by rw[hh]⟩
theorem Ct{α:Type}{us:List α}(h:us.length=4):∃ a b c d,us=[a,b,c,d]:=by
 cases us with
 | nil=>cases h
 | cons a us=>
  obtain⟨b,c,d,hh⟩:=jG (JT h);exact⟨a,b,c,d,by rw[hh]⟩
theorem k3y{α:Type}{us:List α}(h:us.length=5):∃ a b c d e,us=[a,b,c,d,e]:=by
 cases us with
 | nil=>cases h
 | cons a us=>
  obtain⟨b,c,d,e,hh⟩:=Ct (JT h);exact⟨a,b,c,d,e,by rw[hh]⟩
theorem k41{α:Type}{us:List α}(h:us.length=6):∃ a b c d e f,us=[a,b,c,d,e,f]:=by
 cases us with
 | nil=>cases h
 | cons a us=>
  obtain⟨b,c,d,e,f,hh⟩:=k3y (JT h);exact⟨a,b,c,d,e,f,by rw[hh]⟩
theorem MM{c:cS}{b:aK}{Q:a_->Prop}(I:Nat->a_->Prop)
  (h:∀ k ρ,I k ρ->(∃ ac,c ρ=some (false,ac)/\Q ac)\/(∃ ac ap k',c ρ=some (true,ac)/\b ac=some (.nx ap)/\k'<k/\I k' ap)):∀ m k ρ,k<m->I k ρ->∃ am,oZ c b m ρ=some (.nx am)/\Q am
 | 0,k,_,hk,_=>absurd hk (Ze k)
 | m+1,k,ρ,hk,i=>by
  rcases h k ρ i with⟨ac,h1,h2⟩|⟨ac,ap,k',h1,h2,h3,h4⟩
  .exact⟨ac,by unfold oZ;simp[h1],h2⟩
  .obtain⟨am,e,q⟩:=MM I h m k' ap (by omega) h4;refine⟨am,?_,q⟩;unfold oZ;simp[h1,h2,e]
theorem FY{c:cS}{b:aK}{Q:a_->Prop}(I:Nat->a_->Prop){k:Nat}{ρ:a_}(hk:k<1000)(i:I k ρ)
  (h:∀ k ρ,I k ρ->(∃ ac,c ρ=some (false,ac)/\Q ac)\/(∃ ac ap k',c ρ=some (true,ac)/\b ac=some (.nx ap)/\k'<k/\I k' ap)):∃ am,yK c b ρ=some (.nx am)/\Q am:=MM I h 1000 k ρ hk i
def gv (v:List Nat)(i:Nat):Nat:=v.getD i 0
theorem Cu{v:List Nat}{i:Nat}(h:i<v.length):v[i]? = some (gv v i):=by unfold gv;simp[h]
theorem MN{v:List Nat}{i:Nat}(h:i<v.length):gv v i∈v:=FW h
theorem FZ{v:List Nat}{i:Nat}(h:i<v.length):dJ (.lst (aq v)) (Int.ofNat i)=some (iD (gv v i)):=FN (Cu h)
theorem Cv{v:List Nat}{i:Nat}(h:i<v.length):dJ (.tup (aq v)) (Int.ofNat i)=some (iD (gv v i)):=FN (Cu h)
theorem zD{v:List Nat}{i:Nat}(h:i<v.length)(x j:Nat):gv (v.set i x) j=if j=i then x else gv v j:=by
 unfold gv;rw[Qi,Qi];by_cases e:j=i
 .subst e;rw[Qh rfl,QN h];rfl
 .rw[Ql e,QP (λz=>e z.symm)]
theorem MO{u v:List Nat}(h:u.length=v.length)(k:∀ i,i<u.length->gv u i=gv v i):u=v:=by
 apply Zp;intro i;by_cases hi:i<u.length
 .rw[Cu hi,Cu (by omega),k i hi]
 .rw[Qz (by omega),Qz (by omega)]
structure Vn (n p:Nat) (v:List Nat):Prop where
 len:v.length=p
 lt:∀ x∈v,x<n
theorem Vn.gv{n p:Nat}{v:List Nat}(h:Vn n p v){i:Nat}(hi:i<p):gv v i<n:=h.lt _ (MN (by rw[h.len];exact hi))
theorem Vn.set{n p:Nat}{v:List Nat}(h:Vn n p v){i x:Nat}(hx:x<n):Vn n p (v.set i x):=⟨by rw[QL];exact h.len,λy hy=>by
 rcases List.mem_or_eq_of_mem_set hy with h' | h'
 .exact h.lt y h'
 .rw[h'];exact hx⟩
def iP (f:Nat->Nat->Nat)(p:Nat)(u v:List Nat):Prop:=∀ i,i<p->f (gv u i) (gv v i)=gv v i
abbrev nA:=Nat×(List Nat->Nat)
def fj (f:Nat->Nat->Nat)(v:List Nat)(s:nA):List Nat:=v.set s.1 (f (gv v s.1) (s.2 v))
structure mG (n p:Nat) (f:Nat->Nat->Nat) (s:nA):Prop where
 pl:s.1<p
 lt:∀ v,Vn n p v->s.2 v<n
 mono:∀ u v,Vn n p u->Vn n p v->iP f p u v->f (s.2 u) (s.2 v)=s.2 v
def qh (f:Nat->Nat->Nat)(l:List nA)(v:List Nat):Prop:=∀ s∈l,f (s.2 v) (gv v s.1)=gv v s.1
namespace bq
variable {s:nA}{u v:List Nat}
variable {n:Nat}{f:Nat->Nat->Nat}(L:bq n f){p:Nat}
include L
theorem km(h:Vn n p v):iP f p v v:=λi hi=>L.idem _ (h.gv hi)
theorem jo{w:List Nat}(hu:Vn n p u)(hv:Vn n p v)(hw:Vn n p w)(a:iP f p u v)(b:iP f p v w):iP f p u w:=λi hi=>L.le_trans (hu.gv hi) (hv.gv hi) (hw.gv hi) (a i hi) (b i hi)
theorem pB(hu:Vn n p u)(hv:Vn n p v)(a:iP f p u v)(b:iP f p v u):u=v:=
 MO (hu.len.trans hv.len.symm) λi hi=>by rw[hu.len]at hi;exact L.mD (hu.gv hi) (hv.gv hi) (a i hi) (b i hi)
theorem kn(hs:mG n p f s)(h:Vn n p v):Vn n p (fj f v s):=h.set (L.cl _ _ (h.gv hs.pl) (hs.lt v h))
theorem iQ(hs:mG n p f s)(h:Vn n p v)(i:Nat):gv (fj f v s) i=if i=s.1 then f (gv v s.1) (s.2 v)else gv v i:=zD (by rw[h.len];exact hs.pl) _ _
theorem lM(hs:mG n p f s)(h:Vn n p v):iP f p v (fj f v s):=λi hi=>by
 rw[L.iQ hs h];by_cases e:i=s.1
 .subst e;rw[Qh rfl];exact L.lL (h.gv hi) (hs.lt v h)
 .rw[Ql e];exact L.idem _ (h.gv hi)
theorem pC(hs:mG n p f s)(hu:Vn n p u)(hv:Vn n p v)(a:iP f p u v):iP f p (fj f u s) (fj f v s):=λi hi=>by
 rw[L.iQ hs hu,L.iQ hs hv];by_cases e:i=s.1
 .subst e;rw[Qh rfl,Qh rfl];have h1:=hu.gv hs.pl;have h2:=hs.lt u hu;have h3:=hv.gv hs.pl;have h4:=hs.lt v hv;exact L.lub h1 h2 (L.cl _ _ h3 h4) (L.le_trans h1 h3 (L.cl _ _ h3 h4) (a _ hs.pl) (L.lL h3 h4)) (L.le_trans h2 h4 (L.cl _ _ h3 h4) (hs.mono u v hu hv a) (L.FX h3 h4))
 .rw[Ql e,Ql e];exact a i hi
theorem jH(hs:mG n p f s)(h:Vn n p v):fj f v s=v ↔ f (s.2 v) (gv v s.1)=gv v s.1:=by
 constructor
 .intro e;have:=Zy (λu=>gv u s.1) e;rw[L.iQ hs h,Qh rfl]at this;rw[L.comm _ _ (hs.lt v h) (h.gv hs.pl)];exact this
 .intro e;refine MO (by unfold fj;rw[QL]) λi hi=>?_;rw[L.iQ hs h];by_cases e':i=s.1
  .subst e';rw[Qh rfl,L.comm _ _ (h.gv hs.pl) (hs.lt v h)];exact e
  .rw[Ql e']
theorem jI:∀ {l:List nA} {v:List Nat},(∀ s∈l,mG n p f s)->Vn n p v->Vn n p (l.foldl (fj f) v)
 | [],v,_,h=>h
 | s::l,v,hs,h=>jI (l:=l) (λt m=>hs t (Qf _ m)) (L.kn (hs s Qg) h)
theorem iR:∀ {l:List nA} {v:List Nat},(∀ s∈l,mG n p f s)->Vn n p v->iP f p v (l.foldl (fj f) v)
 | [],v,_,h=>L.km h
 | s::l,v,hs,h=>by have h1:=L.kn (hs s Qg) h;have hl:∀ t∈l,mG n p f t:=λt m=>hs t (Qf _ m);exact L.jo h h1 (L.jI (l:=l) hl h1) (L.lM (hs s Qg) h) (iR (l:=l) hl h1)
theorem gY{a:List Nat}(ha:Vn n p a):∀ {l:List nA} {v:List Nat},(∀ s∈l,mG n p f s)->Vn n p v->qh f l a->iP f p v a->iP f p (l.foldl (fj f) v) a
 | [],v,_,h,_,e=>e
 | s::l,v,hs,h,c,e=>by have s0:=hs s Qg;have h1:=L.kn s0 h;have hl:∀ t∈l,mG n p f t:=λt m=>hs t (Qf _ m);refine gY ha (l:=l) hl h1 (λt m=>c t (Qf _ m)) ?_;have:=L.pC s0 h ha e;rw[(L.jH s0 ha).mpr (c s Qg)]at this;exact this
theorem gL:∀ {l:List nA} {v:List Nat},(∀ s∈l,mG n p f s)->Vn n p v->(l.foldl (fj f) v=v ↔ qh f l v)
 | [],v,_,h=>⟨λ_ _ m=>(QC m).elim,λ_=>rfl⟩
 | s::l,v,hs,h=>by
  have s0:=hs s Qg;have h1:=L.kn s0 h;have hl:∀ t∈l,mG n p f t:=λt m=>hs t (Qf _ m);constructor
  .intro e;have e0:l.foldl (fj f) (fj f v s)=v:=e;have up:=L.iR hl h1;rw[e0]at up;have e1:fj f v s=v:=L.pB h1 h up (L.lM s0 h);rw[e1]at e0;have c:=(gL (l:=l) hl h).mp e0;intro t m;rcases Qm.mp m with rfl|m
   .exact(L.jH s0 h).mp e1
   .exact c t m
  .intro c;show l.foldl (fj f) (fj f v s)=v;rw[(L.jH s0 h).mpr (c s Qg)];exact(gL (l:=l) hl h).mpr λt m=>c t (Qf _ m)
def cnt (n:Nat)(f:Nat->Nat->Nat)(x:Nat):Nat:=((range n).filter λy=>decide (f x y=y)).length
def mu (n:Nat)(f:Nat->Nat->Nat)(v:List Nat):Nat:=(v.map (cnt n f)).sum
omit L in
theorem lN(x:Nat):cnt n f x<=n:=by have:=Q0 (λy=>decide (f x y=y)) (range n);rw[QK]at this;exact this
omit L in
theorem zE(h:Vn n p v):mu n f v<=p*n:=by
 have key:∀ l:List Nat,(l.map (cnt n f)).sum<=l.length*n:=by
  intro l;induction l with
  | nil=>simp
  | cons x l ih=>
   have:=lN (n:=n) (f:=f) x;simp only[QM,List.sum_cons,QB,YY];omega
 have:=key v;rw[h.len]at this;exact this
omit L in
theorem MP{q r:Nat->Bool}{a:Nat}:∀ {l:List Nat},(∀ x∈l,r x=true->q x=true)->a∈l->q a=true->r a=false->(l.filter r).length<(l.filter q).length
 | y::l,h,ha,hq,hr=>by
  have hl:∀ x∈l,r x=true->q x=true:=λx m=>h x (Qf _ m);have le:∀ l:List Nat,(∀ x∈l,r x=true->q x=true)->(l.filter r).length<=(l.filter q).length:=by
   intro l;induction l with
   | nil=>intro _;simp
   | cons z l ih=>
    intro h;have i:=ih λx m=>h x (Qf _ m);by_cases hz:r z=true
    .rw[QV hz,QV (h z Qg hz)];simp only[QB];omega
    .rw[QZ hz];by_cases rf:q z=true
     .rw[QV rf];simp only[QB];omega
     .rw[QZ rf];exact i
  by_cases e:y=a
  .subst e;rw[QZ (by rw[hr];simp),QV hq];have:=le l hl;simp only[QB];omega
  .have ha':a∈l:=by
    rcases Qm.mp ha with h' | h'
    .exact absurd h'.symm e
    .exact h'
   have i:=MP (l:=l) hl ha' hq hr;by_cases hz:r y=true
   .rw[QV hz,QV (h y Qg hz)];simp only[QB];omega
   .rw[QZ hz];by_cases rf:q y=true
    .rw[QV rf];simp only[QB];omega
    .rw[QZ rf];exact i
theorem lO{x y:Nat}(hx:x<n)(hy:y<n)(h:f x y=y)(ne:x≠y):cnt n f y<cnt n f x:=by refine MP (a:=x) (λk m hk=>?_) (QA.mpr hx) (Qr (L.idem x hx)) (QF λe=>ne (L.mD hx hy h e));exact Qr (L.le_trans hx hy (QA.mp m) h (Q5 hk))
theorem tK(hu:Vn n p u)(hv:Vn n p v)(a:iP f p u v)(ne:u≠v):mu n f v<mu n f u:=by
 have key:∀ (u v:List Nat),u.length=v.length->(∀ x∈u,x<n)->(∀ x∈v,x<n)->(∀ i,i<u.length->f (gv u i) (gv v i)=gv v i)->((v.map (cnt n f)).sum<=(u.map (cnt n f)).sum)/\(u≠v->(v.map (cnt n f)).sum<(u.map (cnt n f)).sum):=by
  intro u;induction u with
  | nil=>
   intro v hl _ _ _;have:v=[]:=ZQ.mp hl.symm;subst this;exact⟨Qj _,λh=>absurd rfl h⟩
  | cons x u ih=>
   intro v hl h1 h2 h3;cases v with
   | nil=>cases hl
   | cons y v=>
    have oz:u.length=v.length:=by simpa using hl
    obtain⟨i1,i2⟩:=ih v oz (λz m=>h1 z (Qf _ m)) (λz m=>h2 z (Qf _ m)) (λi hi=>h3 (i+1) (by simpa using hi));have e0:f x y=y:=h3 0 (by simp);have hx:=h1 x Qg;have hy:=h2 y Qg;simp only[QM,List.sum_cons];by_cases e:x=y
    .subst e;exact⟨by omega,λh=>by have:=i2 (λz=>h (by rw[z]));omega⟩
    .have:=L.lO hx hy e0 e;exact⟨by omega,λ_=>by omega⟩
 exact(key u v (hu.len.trans hv.len.symm) hu.lt hv.lt (λi hi=>a i (by rw[<- hu.len];exact hi))).2 ne
end bq
end L3
namespace My
open PySem PySem.Spec PyProof.Rows L2 L3
abbrev bi:Str:="_law_ladder_here"
abbrev bn:Str:="ladder"
abbrev bv:Str:="_law_script"
abbrev ca:Str:="_law_chart_here"
abbrev ce:Str:="thing"
abbrev cr:Str:="chart"
abbrev db:Str:="_law_place"
abbrev dl:Str:="_law_worth"
abbrev dL:Str:="_law_rule_here"
abbrev fv:Str:="_law_at"
abbrev ii:Str:="_law_one"
abbrev im:Str:="places"
abbrev jp:Str:="_law_spread"
abbrev kw:Str:="_law_many"
abbrev li:Str:="NoPlace"
abbrev lm:Str:="_law_other"
abbrev lw:Str:="place"
abbrev ms:Str:="_law_ways"
abbrev o0:Str:="_law_start"
abbrev pc:Str:="_law_begins"
abbrev pi:Str:="_law_goal"
abbrev pp:Str:="_law_first"
abbrev rc:Str:="_law_second"
abbrev re:Str:="worth"
abbrev sw:Str:="_law_made"
abbrev sB:Str:="_law_whole"
abbrev sK:Str:="_law_ahead"
abbrev ut:Str:="_law_base_here"
abbrev v4:Str:="_law_k"
abbrev v6:Str:="begins"
abbrev wf:Str:="_law_loop"
abbrev wn:Str:="_law_held"
abbrev wp:Str:="worths"
abbrev ww:Str:="_law_due_here"
abbrev wE:Str:="rule"
abbrev wP:Str:="coming"
abbrev wS:Str:="_law_all_spread"
abbrev wT:Str:="onward"
abbrev xL:Str:="many"
abbrev x0:Str:="_law_kept"
abbrev zn:Str:="other"
abbrev zv:Str:="going"
abbrev AC:Str:="begun"
abbrev AT:Str:="begin"
variable {J c c' r s:Nat->Nat}{W:List (Nat×Nat×(Nat->Nat))}{X ks:List Ky}{a b h i j m n p q q' x y z:Nat}{body:aK}{d:D}{ds:List D}{f:Nat->Nat->Nat}{fa fb g te:aN}{l u v σ:List Nat}{ns:List Int}{st:Stmt}{ρ ac ap:a_}
abbrev ai (i:Int):aN:=eC (.int i)
abbrev aE (a:aN):cf:=fq a gJ
abbrev bF (a b:aN):cf:=fq a (fq b gJ)
abbrev bB (a b c:aN):cf:=fq a (fq b (fq c gJ))
abbrev Cw (a b c d:aN):cf:=fq a (fq b (fq c (fq d gJ)))
abbrev w9 (a b c d e:aN):cf:=fq a (fq b (fq c (fq d (fq e gJ))))
abbrev MQ (a b c d e f:aN):cf:=fq a (fq b (fq c (fq d (fq e (fq f gJ)))))
def top (i:Nat):Stmt:=PySem.Challenge.pw_ladderhall_k70_whole_without.main.body.getD i (.Pass ⟨0,0,0,0⟩)
structure Bt (mg:Str->Option Value):Prop where
 jJ:mg "ValueError" = none
 mH:mg "all" = none
 vn:mg "bool" = none
 ko:mg "int" = none
 ay:mg "isinstance" = none
 aI:mg "len" = none
 jK:mg "list" = none
 tL:mg "max" = none
 aA:mg "range" = none
 jq:mg "set" = none
 dR:mg "sorted" = none
 zG:mg "str" = none
 aS:mg "tuple" = none
 tM:mg "zip" = none
 je:∃ t,mg "MOST_BEGINS" = some (.int 60 t)
 jf:∃ t,mg "MOST_PLACES" = some (.int 8 t)
 kq:∃ t,mg "MOST_WAYS" = some (.int 60 t)
structure Xt (K:PySem.W.Frag) (mg:Str->Option Value):Prop where
 u:rF K mg "RiseError" [li]
 nB:∃ C,EJ K mg "NoPlace" C
 nC:gK K mg [li] "NoHouse"
 rO:gK K mg [li] "NoMap"
 nE:gK K mg [li] "NoPlace"
 pD:gK K mg [li] "NoRule"
 pE:gK K mg [li] "NoStep"
 lP:gK K mg [li] "TooGreat"
section
variable {P:Program}{w:World}{K:PySem.W.Frag}{mg:Str->Option Value}{base:Heap}
def MR:aK:=aF (cL (bg (e2 oP (aa 1) (cj 0))) (bu (aw 0 (aa 1))) cU)
 (aF (cL (bg (e2 dG (aa 0) (cR gJ))) (bu (ai 0)) cU)
 (bu (e2 cC (e2 iX (aw 0 (e2 uG (aa 1) (cj 0))) (ai 31)) (aa 1))))
def zH:=bX 2 (MR)
theorem y8q:ae [bv,v4] [bv,v4] (bw (top 54)):=cF
theorem z0d(B:Bt mg)(a:At K mg "_law_cell" (top 54) [bv,v4]):au P w K mg base 1 "_law_cell" 2 (zH):=
 au.cz a y8q λ_ _ _ _ _ _ _ hr=>
  aQ (el (BE (aB 1) (dX B.aI (ql 0))) (aO (bL (aW (ql 0) (aB 1)))) ef)
  (aQ (el (kM hr (aB 0) (eK ah)) (aO (bL aM)) ef)
  (aO (bL (dQ (lg (aW (ql 0) (wx (aB 1) (dX B.aI (ql 0)))) aM) (aB 1)))))
def MS:aK:=aF (bA 3 (e2 uG (e2 iX (e2 cC (aG zH 2 (bF (aa 0) (aa 1))) (e2 iX (ai 6151) (e2 cC (aa 1) (ai 1)))) (ai 40692)) (ai 2147483399)))
 (bu (e2 uG (e2 uG (e2 cC (e2 iX (aa 3) (aa 3)) (e2 BB (aa 3) (ai 31))) (ai 2147483629)) (aa 2)))
def dB:=bX 4 (MS)
theorem MT:ae [bv,v4,kw,"_law_drawn"] [bv,v4,kw] (bw (top 55)):=cF
theorem z06(B:Bt mg)(c12:au P w K mg base 1 "_law_cell" 2 zH)(a:At K mg "_law_pick" (top 55) [bv,v4,kw]):au P w K mg base 2 "_law_pick" 3 (dB):=
 au.cz a MT λ_ _ _ _ _ _ _ hr=>
  aQ (ck (i:=3) MT.nd (wx (lg (dQ (aZ c12 hr (aC 0 (aC 1 ah))) (lg aM (dQ (aB 1) aM))) aM) aM))
  (aO (bL (wx (wx (dQ (lg (aB 3) (aB 3)) (D0 (aB 3) aM)) aM) (aB 2))))
def y85:aK:=bu (cQ 1 (cP (aE (aa 0))) (av 1) cN (cQ 1 (cP (aE (aa 0))) (av 2) cN (eB BN (bF (aa 1) (aa 2))) false) false)
def lQ:=bX 1 (y85)
theorem y78:ae [kw] [kw] (bw (top 56)):=cF
abbrev MU:List Str:=[kw,ii,lm]
theorem y55:(MU).Nodup:=by decide +kernel
abbrev MV:List Str:=[kw,ii]
theorem y5e:(MV).Nodup:=by decide +kernel
theorem y8p(B:Bt mg)(a:At K mg "_law_chain" (top 56) [kw]):au P w K mg base 1 "_law_chain" 1 (lQ):=
 au.cz a y78 λ_ _ _ _ _ _ _ hr=>
  aO (bL (gU (k:=1) (N':=MV) false rfl (gz B.aA (ag (aJ (qv 0)) ah bT)) (λ_ _ _ _=>bG (i:=1) y5e) (λ_ _ _ _=>iC) (λ_ _ _ _=>gU (k:=1) (N':=MU) false rfl (gz B.aA (ag (aJ (qv 0)) ah bT)) (λ_ _ _ _=>bG (i:=2) y55) (λ_ _ _ _=>iC) (λ_ _ _ _=>I0 rfl B.tL VZ (ag (aJ (qv 1)) (ag (aJ (qv 2)) ah bT) bT)))))
abbrev y3h:aK:=aF (bA 7 (cZ (aw 0 (e2 BB (aa 4) (aa 2))) (e2 BB (aa 6) (aa 2))))
 (fX (kO 5 (aE (e2 cC (e2 iX (aa 7) (aa 2)) (cZ (aw 1 (e2 uG (aa 4) (aa 2))) (e2 uG (aa 6) (aa 2)))))))
abbrev y47:aK:=aF (bA 5 (cR gJ))
 (aF (eP (cP (aE (e2 iX (cj 0) (aa 2)))) (av 6) y3h)
 (fX (kO 3 (aE (aa 5)))))
def y53:aK:=aF (bA 2 (cj 1))
 (aF (bA 3 (cR gJ))
 (aF (eP (cP (aE (e2 iX (cj 0) (aa 2)))) (av 4) y47)
 (bu (aa 3))))
def qk:=bX 8 (y53)
theorem vo:ae [ii,lm,kw,sw,"_law_here","_law_row","_law_there",pp] [ii,lm] (bw (top 57)):=cF
theorem y5a(B:Bt mg)(a:At K mg "_law_couples" (top 57) [ii,lm]):au P w K mg base 1 "_law_couples" 2 (qk):=
 au.cz a vo λ_ _ _ _ _ _ _ hr=>
  aQ (ck (i:=2) vo.nd (dX B.aI (ql 1)))
  (aQ (ck (i:=3) vo.nd (eK ah))
  (aQ (ij QH rfl (gz B.aA (ag (lg (dX B.aI (ql 0)) (aB 2)) ah eZ)) (bG (i:=4) vo.nd) (aQ (ck (i:=5) vo.nd (eK ah))
  (aQ (ij QH rfl (gz B.aA (ag (lg (dX B.aI (ql 0)) (aB 2)) ah eZ)) (bG (i:=6) vo.nd) (aQ (ck (i:=7) vo.nd (ig (aW (ql 0) (D0 (aB 4) (aB 2))) (D0 (aB 6) (aB 2))))
  (aO (jy (nW (ql 5) (ag (dQ (lg (aB 7) (aB 2)) (ig (aW (ql 1) (wx (aB 4) (aB 2))) (wx (aB 6) (aB 2)))) ah eZ))))))
  (aO (jy (nW (ql 3) (aC 5 ah)))))))
  (aO (bL (aB 3)))))
abbrev x93:aK:=fX (kO 3 (aE (D3 (j8 (bg (e2 sO (ai 0) (dF (bF (aa 2) (aa 4))))) (bg (e2 dG (aa 2) (aa 4)))) (eB BN (bF (aa 2) (aa 4))) (e2 cC (aa 0) (ai 1)))))
abbrev x91:aK:=aF (bA 3 (cR gJ))
 (aF (eP (cP (aE (e2 cC (aa 0) (ai 2)))) (av 4) x93)
 (fX (kO 1 (aE (aa 3)))))
def x9l:aK:=aF (bA 1 (cR gJ))
 (aF (eP (cP (aE (e2 cC (aa 0) (ai 2)))) (av 2) x91)
 (bu (aa 1)))
def rP:=bX 5 (x9l)
theorem zI:ae [kw,sw,ii,"_law_row",lm] [kw] (bw (top 58)):=cF
theorem x9t(B:Bt mg)(a:At K mg "_law_side_by_side" (top 58) [kw]):au P w K mg base 1 "_law_side_by_side" 1 (rP):=
 au.cz a zI λ_ _ _ _ _ _ _ hr=>
  aQ (ck (i:=1) zI.nd (eK ah))
  (aQ (ij QH rfl (gz B.aA (ag (dQ (aB 0) aM) ah eZ)) (bG (i:=2) zI.nd) (aQ (ck (i:=3) zI.nd (eK ah))
  (aQ (ij QH rfl (gz B.aA (ag (dQ (aB 0) aM) ah eZ)) (bG (i:=4) zI.nd) (aO (jy (nW (ql 3) (ag (Wc (jX (nT (IY hr aM (iA (aC 2 (aC 4 ah)))) (oQ (kM hr (aB 2) (aB 4))))) (I0 rfl B.tL VZ (aC 2 (aC 4 ah))) (dQ (aB 0) aM)) ah W5)))))
  (aO (jy (nW (ql 1) (aC 3 ah)))))))
  (aO (bL (aB 1))))
def MW:aK:=aF (bA 2 (aG dB 3 (bB (aa 0) (aa 1) (ai 9))))
 (aF (cL (bg (e2 oP (aa 2) (ai 3))) (bu (aG lQ 1 (aE (e2 cC (ai 1) (aG dB 3 (bB (aa 0) (e2 cC (aa 1) (ai 1)) (ai 5))))))) cU)
 (aF (cL (bg (e2 oP (aa 2) (ai 5))) (bu (aG qk 2 (bF (aG lQ 1 (aE (ai 2))) (aG lQ 1 (aE (cZ (cR (bB (ai 2) (ai 3) (ai 4))) (aG dB 3 (bB (aa 0) (e2 cC (aa 1) (ai 1)) (ai 3))))))))) cU)
 (aF (cL (bg (e2 oP (aa 2) (ai 7))) (bu (aG rP 1 (aE (aG dB 3 (bB (aa 0) (e2 cC (aa 1) (ai 1)) (ai 5)))))) cU)
 (aF (cL (bg (e2 dG (aa 2) (ai 7))) (bu (aG qk 2 (bF (aG lQ 1 (aE (ai 2))) (aG qk 2 (bF (aG lQ 1 (aE (ai 2))) (aG lQ 1 (aE (ai 2)))))))) cU)
 (aF (bA 3 (cR (w9 (cR (w9 (ai 0) (ai 1) (ai 2) (ai 3) (ai 4))) (cR (w9 (ai 1) (ai 1) (ai 2) (ai 4) (ai 4))) (cR (w9 (ai 2) (ai 2) (ai 2) (ai 4) (ai 4))) (cR (w9 (ai 3) (ai 4) (ai 4) (ai 3) (ai 4))) (cR (w9 (ai 4) (ai 4) (ai 4) (ai 4) (ai 4))))))
 (bu (aa 3)))))))
def zJ:=bX 4 (MW)
theorem F4:ae [bv,fv,"_law_kind","_law_rows"] [bv,fv] (bw (top 59)):=cF
theorem z1h(B:Bt mg)(gM:au P w K mg base 2 "_law_pick" 3 dB)(w_:au P w K mg base 1 "_law_chain" 1 lQ)(F5:au P w K mg base 1 "_law_couples" 2 qk)(c23:au P w K mg base 1 "_law_side_by_side" 1 rP)(a:At K mg "_law_base" (top 59) [bv,fv]):au P w K mg base 3 "_law_base" 2 (zJ):=
 au.cz a F4 λ_ _ _ _ _ _ _ hr=>
  aQ (ck (i:=2) F4.nd (aZ gM hr (aC 0 (aC 1 (cX ah)))))
  (aQ (el (BE (aB 2) aM) (aO (bL (aZ w_ hr (ag (dQ aM (aZ gM hr (aC 0 (ag (dQ (aB 1) aM) (cX ah) eZ)))) ah eZ)))) ef)
  (aQ (el (BE (aB 2) aM) (aO (bL (aZ F5 hr (ag (aZ w_ hr (cX ah)) (ag (aZ w_ hr (ag (ig (eK (cX (cX (cX ah)))) (aZ gM hr (aC 0 (ag (dQ (aB 1) aM) (cX ah) eZ)))) ah dY)) ah bO) bO)))) ef)
  (aQ (el (BE (aB 2) aM) (aO (bL (aZ c23 hr (ag (aZ gM hr (aC 0 (ag (dQ (aB 1) aM) (cX ah) eZ))) ah bO)))) ef)
  (aQ (el (kM hr (aB 2) aM) (aO (bL (aZ F5 hr (ag (aZ w_ hr (cX ah)) (ag (aZ F5 hr (ag (aZ w_ hr (cX ah)) (ag (aZ w_ hr (cX ah)) ah bO) bO)) ah bO) bO)))) ef)
  (aQ (ck (i:=3) F4.nd (eK (ag (eK (cX (cX (cX (cX (cX ah)))))) (ag (eK (cX (cX (cX (cX (cX ah)))))) (ag (eK (cX (cX (cX (cX (cX ah)))))) (ag (eK (cX (cX (cX (cX (cX ah)))))) (ag (eK (cX (cX (cX (cX (cX ah)))))) ah yB) yB) yB) yB) yB)))
  (aO (bL (aB 3))))))))
abbrev y56:aK:=yA 5 (uT 4 (uS 6)) (uT 4 (uS 7)) (aw 4 (cZ (aw 2 (aa 6)) (aa 7)))
abbrev y5d:aK:=eP (cP (aE (cj 2))) (av 7) (y56)
def MX:aK:=aF (bA 2 (aG zJ 2 (bF (aa 0) (aa 1))))
 (aF (bA 3 (q9 (aE (cj 2))))
 (aF (bA 4 (cQ 1 (cP (aE (cj 2))) (av 8) cN (yw 3 (aE (aG dB 3 (bB (aa 0) (e2 cC (e2 cC (aa 1) (ai 2)) (aa 8)) (cj 3))))) false))
 (aF (bA 5 (cQ 1 (b8 (aa 2)) (av 8) cN (nX (cR (aE (ai 0))) (cj 2)) true))
 (aF (eP (cP (aE (cj 2))) (av 6) y5d)
 (bu (iE (aE (cQ 1 (b8 (aa 5)) (av 8) cN (iE (aE (aa 8))) false))))))))
def xa:=bX 8 (MX)
theorem vq:ae [bv,fv,ut,"_law_left","_law_name",sw,ii,lm] [bv,fv] (bw (top 60)):=cF
abbrev MY:List Str:=[bv,fv,ut,"_law_left","_law_name",sw,ii,lm,v4]
theorem y4i:(MY).Nodup:=by decide +kernel
abbrev F7:List Str:=[bv,fv,ut,"_law_left","_law_name",sw,ii,lm,"_law_row"]
theorem MZ:(F7).Nodup:=by decide +kernel
theorem y7j(B:Bt mg)(c0:au P w K mg base 3 "_law_base" 2 zJ)(gM:au P w K mg base 2 "_law_pick" 3 dB)(a:At K mg "_law_ladder" (top 60) [bv,fv]):au P w K mg base 4 "_law_ladder" 2 (xa):=
 au.cz a vq λ_ _ _ _ _ _ _ hr=>
  aQ (ck (i:=2) vq.nd (aZ c0 hr (ag (aJ (qv 0)) (ag (aJ (qv 1)) ah bT) bT)))
  (aQ (ck (i:=3) vq.nd (Eb rfl B.jK JF B.aA (ag (dX B.aI (qv 2)) ah bO)))
  (aQ (nV (i:=4) (k:=1) (N':=MY) false vq.nd rfl rfl (gz B.aA (ag (dX B.aI (qv 2)) ah bO)) (λ_ _ _ _=>bG (i:=8) y4i) (λ_ _ _ _=>iC) (λ_ _ _ _=>WX (qv 3) (ag (aZ gM hr (ag (aJ (qv 0)) (ag (dQ (dQ (aJ (qv 1)) aM) (aJ (qv 8))) (ag (dX B.aI (qv 3)) ah bO) eZ) bT)) ah bO)))
  (aQ (nV (i:=5) (k:=1) (N':=F7) true vq.nd rfl rfl (eY (aJ (qv 2))) (λ_ _ _ _=>bG (i:=8) MZ) (λ_ _ _ _=>iC) (λ_ _ _ _=>BO (eK (cX ah)) (dX B.aI (qv 2))))
  (aQ (ij QH rfl (gz B.aA (ag (dX B.aI (qv 2)) ah bO)) (bG (i:=6) vq.nd) (aO (ij QH rfl (gz B.aA (ag (dX B.aI (qv 2)) ah bO)) (bG (i:=7) vq.nd) (aO (W2 (ql 5) (Kk (ql 4) (Kj (ql 6))) (Kk (ql 4) (Kj (ql 7))) (aW (ql 4) (ig (aW (qv 2) (aB 6)) (aB 7))))))))
  (aO (bL (ls B.aS Qu (ag (gU (k:=1) (N':=F7) false rfl (eY (aB 5)) (λ_ _ _ _=>bG (i:=8) MZ) (λ_ _ _ _=>iC) (λ_ _ _ _=>ls B.aS Qu (ag (aJ (qv 8)) ah bT))) ah nY))))))))
def M0:aK:=bu (cZ (cQ 1 (cP (aE (cj 0))) (av 1) (bg (e2 dG (yt (aE (aw 0 (aa 1)))) (q9 (aE (cj 0))))) (aa 1) false) (ai 0))
def nF:=bX 1 (M0)
theorem z0k:ae [bi] [bi] (bw (top 61)):=cF
abbrev M1:List Str:=[bi,dl]
theorem y95:(M1).Nodup:=by decide +kernel
theorem z3x(B:Bt mg)(a:At K mg "_law_low" (top 61) [bi]):au P w K mg base 1 "_law_low" 1 (nF):=
 au.cz a z0k λ_ _ _ _ _ _ _ hr=>
  aO (bL (ig (gU (k:=1) (N':=M1) false rfl (gz B.aA (ag (dX B.aI (qv 0)) ah bO)) (λ_ _ _ _=>bG (i:=1) y95) (λ_ _ _ _=>me (kM hr (WI B.jK JF (ag (aW (qv 0) (aJ (qv 1))) ah dY)) (Eb rfl B.jK JF B.aA (ag (dX B.aI (qv 0)) ah bO)))) (λ_ _ _ _=>aJ (qv 1))) aM))
abbrev y8b:aK:=bA 2 (cZ (aw 0 (aa 2)) (aa 3))
def M3:aK:=aF (bA 2 (aG nF 1 (aE (aa 0))))
 (aF (eP (b8 (aa 1)) (av 3) y8b)
 (bu (aa 2)))
def xf:=bX 4 (M3)
theorem Cy:ae [bi,"_law_worths","_law_here",dl] [bi,"_law_worths"] (bw (top 62)):=cF
theorem z1a(B:Bt mg)(xg:au P w K mg base 1 "_law_low" 1 nF)(a:At K mg "_law_join" (top 62) [bi,"_law_worths"]):au P w K mg base 2 "_law_join" 2 (xf):=
 au.cz a Cy λ_ _ _ _ _ _ _ hr=>
  aQ (ck (i:=2) Cy.nd (aZ xg hr (aC 0 ah)))
  (aQ (ij QH rfl (eY (aB 1)) (bG (i:=3) Cy.nd) (aO (ck (i:=2) Cy.nd (ig (aW (ql 0) (aB 2)) (aB 3)))))
  (aO (bL (aB 2))))
def M4:aK:=bu (cQ 1 (cP (aE (cj 0))) (av 2) (bg (e2 dG (cZ (aw 0 (aa 2)) (aa 1)) (aa 1))) (aa 2) false)
def vt:=bX 2 (M4)
theorem y6v:ae [bi,dl] [bi,dl] (bw (top 63)):=cF
abbrev M5:List Str:=[bi,dl,ii]
theorem y54:(M5).Nodup:=by decide +kernel
theorem y8h(B:Bt mg)(a:At K mg "_law_under" (top 63) [bi,dl]):au P w K mg base 1 "_law_under" 2 (vt):=
 au.cz a y6v λ_ _ _ _ _ _ _ hr=>
  aO (bL (gU (k:=1) (N':=M5) false rfl (gz B.aA (ag (dX B.aI (qv 0)) ah bO)) (λ_ _ _ _=>bG (i:=2) y54) (λ_ _ _ _=>me (kM hr (ig (aW (qv 0) (aJ (qv 2))) (aJ (qv 1))) (aJ (qv 1)))) (λ_ _ _ _=>aJ (qv 2))))
abbrev M6:aK:=fX (kO 6 (aE (aG xf 2 (bF (aa 2) (cQ 1 (b8 (aG vt 2 (bF (aa 2) (aa 5)))) (av 7) cN (aw 4 (aa 7)) false)))))
abbrev M7:aK:=fX (kO 4 (aE (cZ (cR (bB (aa 3) (aa 5) (aG dB 3 (bB (aa 0) (e2 cC (aa 1) (aa 5)) (cj 2))))) (aG dB 3 (bB (aa 0) (e2 cC (e2 cC (aa 1) (ai 8)) (aa 5)) (ai 3))))))
def M8:aK:=aF (bA 3 (aG nF 1 (aE (aa 2))))
 (aF (bA 4 (cR gJ))
 (aF (eP (cP (aE (cj 2))) (av 5) M7)
 (aF (bA 6 (cR gJ))
 (aF (eP (cP (aE (cj 2))) (av 5) M6)
 (bu (iE (aE (aa 6))))))))
def pF:=bX 7 (M8)
theorem xh:ae [bv,fv,bi,"_law_low_here","_law_drawn",dl,sw] [bv,fv,bi] (bw (top 64)):=cF
abbrev M9:List Str:=[bv,fv,bi,"_law_low_here","_law_drawn",dl,sw,ii]
theorem y7p:(M9).Nodup:=by decide +kernel
theorem z04(B:Bt mg)(xg:au P w K mg base 1 "_law_low" 1 nF)(gM:au P w K mg base 2 "_law_pick" 3 dB)(c17:au P w K mg base 2 "_law_join" 2 xf)(c27:au P w K mg base 1 "_law_under" 2 vt)(a:At K mg "_law_rule" (top 64) [bv,fv,bi]):au P w K mg base 3 "_law_rule" 3 (pF):=
 au.cz a xh λ_ _ _ _ _ _ _ hr=>
  aQ (ck (i:=3) xh.nd (aZ xg hr (aC 2 ah)))
  (aQ (ck (i:=4) xh.nd (eK ah))
  (aQ (ij QH rfl (gz B.aA (ag (dX B.aI (ql 2)) ah bO)) (bG (i:=5) xh.nd) (aO (jy (nW (qv 4) (ag (ig (eK (aC 3 (aC 5 (ag (aZ gM hr (aC 0 (ag (dQ (aB 1) (aB 5)) (ag (dX B.aI (ql 2)) ah bO) eZ))) ah bO)))) (aZ gM hr (aC 0 (ag (dQ (dQ (aB 1) aM) (aB 5)) (cX ah) eZ)))) ah dY)))))
  (aQ (ck (i:=6) xh.nd (eK ah))
  (aQ (ij QH rfl (gz B.aA (ag (dX B.aI (ql 2)) ah bO)) (bG (i:=5) xh.nd) (aO (jy (nW (ql 6) (ag (aZ c17 hr (aC 2 (ag (gU (k:=1) (N':=M9) false rfl (eY (aZ c27 hr (aC 2 (aC 5 ah)))) (λ_ _ _ _=>bG (i:=7) y7p) (λ_ _ _ _=>iC) (λ_ _ _ _=>aW (qv 4) (aJ (qv 7)))) ah nY))) ah bO)))))
  (aO (bL (ls B.aS Qu (aC 6 ah))))))))
abbrev y3l:aK:=aF (bA 4 (cZ (aw 0 (aw 1 (aa 2))) (aw 1 (aa 3))))
 (cL (bg (e2 cH (aw 1 (cZ (aw 0 (aa 2)) (aa 3))) (aa 4))) (bu (eC (.bl false))) cU)
abbrev y3m:aK:=eP (cP (aE (aa 2))) (av 3) (y3l)
def M_:aK:=aF (eP (cP (aE (cj 0))) (av 2) y3m)
 (bu (eC (.bl true)))
def tN:=bX 5 (M_)
theorem Cz:ae [bi,dL,ii,lm,ww] [bi,dL] (bw (top 65)):=cF
theorem y4v(B:Bt mg)(a:At K mg "_law_spreads" (top 65) [bi,dL]):au P w K mg base 1 "_law_spreads" 2 (tN):=
 au.cz a Cz λ_ _ _ _ _ _ _ hr=>
  aQ (ij QH rfl (gz B.aA (ag (dX B.aI (ql 0)) ah bO)) (bG (i:=2) Cz.nd) (aO (ij QH rfl (gz B.aA (aC 2 ah)) (bG (i:=3) Cz.nd) (aQ (ck (i:=4) Cz.nd (ig (aW (ql 0) (aW (ql 1) (aB 2))) (aW (ql 1) (aB 3))))
  (aO (el (il hr (aW (ql 1) (ig (aW (ql 0) (aB 2)) (aB 3))) (aB 4)) (aO (bL gS)) ef))))))
  (aO (bL gS))
def Na:aK:=aF (bA 3 (aG pF 3 (bB (aa 0) (aa 1) (aa 2))))
 (aF (cL (eL (aG tN 2 (bF (aa 2) (aa 3)))) (bu (aa 3)) cU)
 (aF (bA 4 (aG dB 3 (bB (aa 0) (e2 cC (aa 1) (ai 17)) (cj 2))))
 (aF (bA 5 (cR (bF (iE (aE (q9 (aE (cj 2))))) (BZ (dF (aE (aa 4))) (cj 2)))))
 (aF (fX (kO 5 (aE (iE (aE (cQ 1 (cP (aE (cj 2))) (av 6) cN (cZ (aw 2 (aa 6)) (aa 4)) false))))))
 (bu (aw 5 (aG dB 3 (bB (aa 0) (e2 cC (aa 1) (ai 16)) (ai 3)))))))))
def qo:=bX 6 (Na)
theorem CA:ae [bv,fv,bi,dL,dl,"_law_some"] [bv,fv,bi] (bw (top 66)):=cF
abbrev Nb:List Str:=[bv,fv,bi,dL,dl,"_law_some",ii]
theorem x8z:(Nb).Nodup:=by decide +kernel
theorem y0f(B:Bt mg)(zK:au P w K mg base 3 "_law_rule" 3 pF)(F8:au P w K mg base 1 "_law_spreads" 2 tN)(gM:au P w K mg base 2 "_law_pick" 3 dB)(a:At K mg "_law_spread_rule" (top 66) [bv,fv,bi]):au P w K mg base 4 "_law_spread_rule" 3 (qo):=
 au.cz a CA λ_ _ _ _ _ _ _ hr=>
  aQ (ck (i:=3) CA.nd (aZ zK hr (aC 0 (aC 1 (ag (aJ (qv 2)) ah bT)))))
  (aQ (el (iI (aZ F8 hr (ag (aJ (qv 2)) (aC 3 ah) bT))) (aO (bL (aB 3))) ef)
  (aQ (ck (i:=4) CA.nd (aZ gM hr (aC 0 (ag (dQ (aB 1) aM) (ag (dX B.aI (qv 2)) ah bO) eZ))))
  (aQ (ck (i:=5) CA.nd (eK (ag (ls B.aS Qu (ag (Eb rfl B.jK JF B.aA (ag (dX B.aI (qv 2)) ah bO)) ah bO)) (ag (XM (iA (ag (aJ (qv 4)) ah bT)) (dX B.aI (qv 2))) ah eZ) bO)))
  (aQ (jy (nW (ql 5) (ag (ls B.aS Qu (ag (gU (k:=1) (N':=Nb) false rfl (gz B.aA (ag (dX B.aI (qv 2)) ah bO)) (λ_ _ _ _=>bG (i:=6) x8z) (λ_ _ _ _=>iC) (λ_ _ _ _=>ig (aW (qv 2) (aJ (qv 6))) (aJ (qv 4)))) ah nY)) ah bO)))
  (aO (bL (aW (ql 5) (aZ gM hr (aC 0 (ag (dQ (aB 1) aM) (cX ah) eZ))))))))))
abbrev F9:aK:=aF (bA 10 (aG dB 3 (bB (aa 0) (e2 cC (e2 cC (aa 1) (ai 3)) (e2 iX (ai 2) (aa 6))) (cj 2))))
 (fX (kO 9 (aE (dF (bF (aG dB 3 (bB (aa 0) (e2 cC (e2 cC (aa 1) (ai 4)) (e2 iX (ai 2) (aa 6))) (aa 4))) (aa 10))))))
abbrev F_:aK:=aF (bA 7 (e2 cC (e2 cC (aa 1) (ai 10)) (e2 iX (ai 22) (aa 6))))
 (aF (bA 8 (aG pF 3 (bB (aa 0) (e2 cC (aa 7) (ai 2)) (aa 2))))
 (aF (cL (eL (aa 3)) (bA 8 (aG qo 3 (bB (aa 0) (e2 cC (aa 7) (ai 2)) (aa 2)))) cU)
 (fX (kO 5 (aE (dF (bB (aG dB 3 (bB (aa 0) (aa 7) (aa 4))) (aG dB 3 (bB (aa 0) (e2 cC (aa 7) (ai 1)) (aa 4))) (aa 8))))))))
def Nc:aK:=aF (bA 4 (e2 cC (ai 1) (aG dB 3 (bB (aa 0) (aa 1) (ai 5)))))
 (aF (bA 5 (cR gJ))
 (aF (eP (cP (aE (aG dB 3 (bB (aa 0) (e2 cC (aa 1) (ai 1)) (ai 8))))) (av 6) F_)
 (aF (bA 9 (cR gJ))
 (aF (eP (cP (aE (aG dB 3 (bB (aa 0) (e2 cC (aa 1) (ai 2)) (ai 4))))) (av 6) F9)
 (bu (dF (bB (aa 4) (iE (aE (aa 5))) (iE (aE (aa 9))))))))))
def rQ:=bX 11 (Nc)
theorem qp:ae [bv,fv,bi,jp,"_law_places",ms,v4,ut,dL,pc,dl] [bv,fv,bi,jp] (bw (top 67)):=cF
theorem y8f(B:Bt mg)(gM:au P w K mg base 2 "_law_pick" 3 dB)(zK:au P w K mg base 3 "_law_rule" 3 pF)(Ga:au P w K mg base 4 "_law_spread_rule" 3 qo)(a:At K mg "_law_chart" (top 67) [bv,fv,bi,jp]):au P w K mg base 5 "_law_chart" 4 (rQ):=
 au.cz a qp λ_ _ _ _ _ _ _ hr=>
  aQ (ck (i:=4) qp.nd (dQ aM (aZ gM hr (aC 0 (aC 1 (cX ah))))))
  (aQ (ck (i:=5) qp.nd (eK ah))
  (aQ (ij QH rfl (gz B.aA (ag (aZ gM hr (aC 0 (ag (dQ (aB 1) aM) (cX ah) eZ))) ah bO)) (bG (i:=6) qp.nd) (aQ (ck (i:=7) qp.nd (dQ (dQ (aB 1) aM) (lg aM (aB 6))))
  (aQ (ck (i:=8) qp.nd (aZ zK hr (aC 0 (ag (dQ (aB 7) aM) (aC 2 ah) eZ))))
  (aQ (el (iI (aB 3)) (aO (ck (i:=8) qp.nd (aZ Ga hr (aC 0 (ag (dQ (aB 7) aM) (aC 2 ah) eZ))))) ef)
  (aO (jy (nW (ql 5) (ag (iA (ag (aZ gM hr (aC 0 (aC 7 (aC 4 ah)))) (ag (aZ gM hr (aC 0 (ag (dQ (aB 7) aM) (aC 4 ah) eZ))) (aC 8 ah) bO) bO)) ah wG))))))))
  (aQ (ck (i:=9) qp.nd (eK ah))
  (aQ (ij QH rfl (gz B.aA (ag (aZ gM hr (aC 0 (ag (dQ (aB 1) aM) (cX ah) eZ))) ah bO)) (bG (i:=6) qp.nd) (aQ (ck (i:=10) qp.nd (aZ gM hr (aC 0 (ag (dQ (dQ (aB 1) aM) (lg aM (aB 6))) (ag (dX B.aI (ql 2)) ah bO) eZ))))
  (aO (jy (nW (ql 9) (ag (iA (ag (aZ gM hr (aC 0 (ag (dQ (dQ (aB 1) aM) (lg aM (aB 6))) (aC 4 ah) eZ))) (aC 10 ah) bO)) ah wG))))))
  (aO (bL (iA (aC 4 (ag (ls B.aS Qu (aC 5 ah)) (ag (ls B.aS Qu (aC 9 ah)) ah bO) bO)))))))))
def z0w:aK:=aF (bA 1 (cR (Cw (tw [li] "NoHouse" (aa 0)) (tw [li] "NoMap" (aa 0)) (tw [li] "NoPlace" (aa 0)) (tw [li] "NoRule" (aa 0)))))
 (aF (fX (sX 1 (cR (bF (tw [li] "NoStep" (aa 0)) (tw [li] "TooGreat" (aa 0))))))
 (aF (cL (j8 (bg (e2 cH (EZ (aa 1) (aE (eC (.bl true)))) (ai 1))) (fL (eL (EX (aa 0))))) (bu (eC (.str "wrong"))) cU)
 (bu (cZ (cR (MQ (eC (.str "no house")) (eC (.str "no map")) (eC (.str "no place")) (eC (.str "no rule")) (eC (.str "no step")) (eC (.str "too great")))) (E1 (aa 1) (aE (eC (.bl true))))))))
def CB:=bX 2 (z0w)
theorem Nd:ae [x0,"_law_kinds"] [x0] (bw (top 68)):=cF
theorem z0t(B:Bt mg)(T:Xt K mg)(a:At K mg "_law_word" (top 68) [x0]):au P w K mg base 1 "_law_word" 1 (CB):=
 au.cz a Nd λ_ _ _ _ _ _ _ hr=>
  aQ (ck (i:=1) Nd.nd (eK (ag (wK T.nC B.ay (aB 0)) (ag (wK T.rO B.ay (aB 0)) (ag (wK T.nE B.ay (aB 0)) (ag (wK T.pD B.ay (aB 0)) ah bO) bO) bO) bO)))
  (aQ (jy (B1 (ql 1) (eK (ag (wK T.pE B.ay (aB 0)) (ag (wK T.lP B.ay (aB 0)) ah bO) bO))))
  (aQ (el (jX (nT (il hr (j3a hr (aB 1) (ag gS ah nq)) aM) (oQ (jT (iI (j72 B.ay B.jJ (aB 0))))))) (aO (bL oN)) ef)
  (aO (bL (ig (eK (ag oN (ag oN (ag oN (ag oN (ag oN (ag oN ah nq) nq) nq) nq) nq) nq)) (z72 hr (aB 1) (ag gS ah nq)))))))
def Nf:aK:=bu (mn (mr .int (aa 0)) (Ep (mr .bool (aa 0))))
def vw:=bX 1 (Nf)
theorem y9y:ae [ce] [ce] (bw (top 9)):=cF
theorem z3n(B:Bt mg)(a:At K mg "is_whole" (top 9) [ce]):au P w K mg base 1 "is_whole" 1 (vw):=
 au.cz a y9y λ_ _ _ _ _ _ _ hr=>
  aO (bL (sS (p_ .int B.ay B.ko PyProof.Rows.boot_int (aB 0)) (sR (W3 (p_ .bool B.ay B.vn PyProof.Rows.boot_bool (aB 0))))))
def Ng:aK:=bu (mn (aG vw 1 (aE (aa 0))) (n6 wy oP (ai 0) (aa 0) (aa 1)))
def jt:=bX 2 (Ng)
theorem y3d:ae [ce,xL] [ce,xL] (bw (top 10)):=cF
theorem y4y(B:Bt mg)(Gb:au P w K mg base 1 "is_whole" 1 vw)(a:At K mg "is_number_of" (top 10) [ce,xL]):au P w K mg base 2 "is_number_of" 2 (jt):=
 au.cz a y3d λ_ _ _ _ _ _ _ hr=>
  aO (bL (sS (aZ Gb hr (aC 0 ah)) (sR (Xp aM (aB 0) (aB 1)))))
def Nh:aK:=cL (fL (eL (aG jt 2 (bF (aa 1) (aa 0))))) yJ (cU)
def zL:=bX 2 (Nh)
theorem Ni:ae [im,lw] [im,lw] (bw (top 39)):=cF
theorem y20(B:Bt mg)(nG:au P w K mg base 2 "is_number_of" 2 jt)(a:At K mg "refuse_no_place" (top 39) [im,lw]):au P w K mg base 3 "refuse_no_place" 2 (zL):=
 au.cz a Ni λ_ _ _ _ _ _ _ hr=>
  aO (el (jT (iI (aZ nG hr (aC 1 (aC 0 ah))))) (aO Ez) ef)
def Nj:jj:=yS (fL (eL (aG jt 2 (bF (aa 1) (aa 0))))) (KR "NoPlace") (KQ)
def vx:List D->Option Str:=fnX 2 Nj
theorem y0i(B:Bt mg)(T:Xt K mg)(nG:au P w K mg base 2 "is_number_of" 2 jt)(a:At K mg "refuse_no_place" (top 39) [im,lw]):nr P w K mg base 3 "refuse_no_place" 2 vx:=
 nr.cz (k:=2) a Ni λ_ _ _ _ _ _ _ hr=>
  E2 (j47 (jT (iI (aZ nG hr (aC 1 (aC 0 ah))))) (E2 (z7k hr T.nB)) j0u)
def Nk:aK:=bu (iE (aE (nX (cR (aE (aa 1))) (cj 0))))
def zM:=bX 2 (Nk)
theorem z6u:ae [bn,re] [bn,re] (bw (top 21)):=cF
theorem z9g(B:Bt mg)(a:At K mg "steady" (top 21) [bn,re]):au P w K mg base 1 "steady" 2 (zM):=
 au.cz a z6u λ_ _ _ _ _ _ _ hr=>
  aO (bL (ls B.aS Qu (ag (BO (eK (aC 1 ah)) (dX B.aI (ql 0))) ah eZ)))
def Gc:aK:=aF (cL (j8 (fL (eL (mr .tuple (aa 0)))) (bg (e2 cH (cj 0) (aa 1)))) (bu (eC (.bl false))) cU)
 (bu (eB p7 (aE (cQ 1 (b8 (aa 0)) (av 3) cN (aG jt 2 (bF (aa 3) (aa 2))) false))))
def vy:=bX 3 (Gc)
theorem y8c:ae [ce,"length",xL] [ce,"length",xL] (bw (top 11)):=cF
abbrev Nl:List Str:=[ce,"length",xL,"part"]
theorem y7a:(Nl).Nodup:=by decide +kernel
theorem y9v(B:Bt mg)(nG:au P w K mg base 2 "is_number_of" 2 jt)(a:At K mg "is_row_of" (top 11) [ce,"length",xL]):au P w K mg base 3 "is_row_of" 3 (vy):=
 au.cz a y8c λ_ _ _ _ _ _ _ hr=>
  aQ (el (jX (nT (jT (iI (p_ .tuple B.ay B.aS Qu (aB 0)))) (oQ (il hr (dX B.aI (ql 0)) (aB 1))))) (aO (bL gS)) ef)
  (aO (bL (BU rfl B.mH (ag (gU (k:=1) (N':=Nl) false rfl (eY (aB 0)) (λ_ _ _ _=>bG (i:=3) y7a) (λ_ _ _ _=>iC) (λ_ _ _ _=>aZ nG hr (ag (aJ (qv 3)) (ag (aJ (qv 2)) ah bT) bT))) ah nY))))
def Nm:aK:=bu (aG vy 3 (bB (aa 1) (cj 0) (cj 0)))
def zN:=bX 2 (Nm)
theorem z4a:ae [bn,ce] [bn,ce] (bw (top 19)):=cF
theorem z75(B:Bt mg)(c44:au P w K mg base 3 "is_row_of" 3 vy)(a:At K mg "is_rule" (top 19) [bn,ce]):au P w K mg base 4 "is_rule" 2 (zN):=
 au.cz a z4a λ_ _ _ _ _ _ _ hr=>
  aO (bL (aZ c44 hr (aC 1 (ag (dX B.aI (ql 0)) (ag (dX B.aI (ql 0)) ah bO) bO))))
def Np:aK:=bu (e2 dG (cZ (aw 0 (aa 1)) (aa 2)) (aa 2))
def oh:=bX 3 (Np)
theorem z1g:ae [bn,"one",zn] [bn,"one",zn] (bw (top 16)):=cF
theorem z45(B:Bt mg)(a:At K mg "is_below" (top 16) [bn,"one",zn]):au P w K mg base 1 "is_below" 3 (oh):=
 au.cz a z1g λ_ _ _ _ _ _ _ hr=>
  aO (bL (IX hr (ig (aW (ql 0) (aB 1)) (aB 2)) (aB 2)))
def Nq:aK:=bu (cQ 1 (cP (aE (cj 0))) (av 2) (eL (aG oh 3 (bB (aa 0) (aa 2) (aa 1)))) (aa 2) false)
def tO:=bX 2 (Nq)
theorem j0r:ae [bn,re] [bn,re] (bw (top 17)):=cF
abbrev Nr:List Str:=[bn,re,"x"]
theorem z6m:(Nr).Nodup:=by decide +kernel
theorem j5q(B:Bt mg)(zO:au P w K mg base 1 "is_below" 3 oh)(a:At K mg "below" (top 17) [bn,re]):au P w K mg base 2 "below" 2 (tO):=
 au.cz a j0r λ_ _ _ _ _ _ _ hr=>
  aO (bL (gU (k:=1) (N':=Nr) false rfl (gz B.aA (ag (dX B.aI (qv 0)) ah bO)) (λ_ _ _ _=>bG (i:=2) z6m) (λ_ _ _ _=>me (iI (aZ zO hr (ag (aJ (qv 0)) (ag (aJ (qv 2)) (ag (aJ (qv 1)) ah bT) bT) bT)))) (λ_ _ _ _=>aJ (qv 2))))
abbrev j10:aK:=cL (fL (eL (aG oh 3 (bB (aa 0) (aw 1 (aa 3)) (aw 1 (aa 2)))))) (bu (eC (.bl false))) (cU)
abbrev j0v:aK:=eP (b8 (aG tO 2 (bF (aa 0) (aa 2)))) (av 3) (j10)
def Nt:aK:=aF (eP (cP (aE (cj 0))) (av 2) j0v)
 (bu (eC (.bl true)))
def zP:=bX 4 (Nt)
theorem Gd:ae [bn,wE,"y","x"] [bn,wE] (bw (top 20)):=cF
theorem j32(B:Bt mg)(c35:au P w K mg base 2 "below" 2 tO)(zO:au P w K mg base 1 "is_below" 3 oh)(a:At K mg "rises" (top 20) [bn,wE]):au P w K mg base 3 "rises" 2 (zP):=
 au.cz a Gd λ_ _ _ _ _ _ _ hr=>
  aQ (ij QH rfl (gz B.aA (ag (dX B.aI (ql 0)) ah bO)) (bG (i:=2) Gd.nd) (aO (ij QH rfl (eY (aZ c35 hr (aC 0 (aC 2 ah)))) (bG (i:=3) Gd.nd) (aO (el (jT (iI (aZ zO hr (aC 0 (ag (aW (ql 1) (aB 3)) (ag (aW (ql 1) (aB 2)) ah dY) dY))))) (aO (bL gS)) ef)))))
  (aO (bL gS))
def Nu:aK:=bu (mn (aG zN 2 (bF (aa 0) (aa 1))) (aG zP 2 (bF (aa 0) (aa 1))))
def vz:=bX 2 (Nu)
theorem y1r:ae [bn,ce] [bn,ce] (bw (top 24)):=cF
theorem y2s(B:Bt mg)(c45:au P w K mg base 4 "is_rule" 2 zN)(c62:au P w K mg base 3 "rises" 2 zP)(a:At K mg "is_rising_rule" (top 24) [bn,ce]):au P w K mg base 5 "is_rising_rule" 2 (vz):=
 au.cz a y1r λ_ _ _ _ _ _ _ hr=>
  aO (bL (sS (aZ c45 hr (aC 0 (aC 1 ah))) (sR (aZ c62 hr (aC 0 (aC 1 ah))))))
def Nv:aK:=cL (fL (eL (aG vz 2 (bF (aa 0) (aa 1))))) yJ (cU)
def zQ:=bX 2 (Nv)
theorem y06:ae [bn,ce] [bn,ce] (bw (top 25)):=cF
theorem y1w(B:Bt mg)(Ge:au P w K mg base 5 "is_rising_rule" 2 vz)(a:At K mg "refuse_unrising" (top 25) [bn,ce]):au P w K mg base 6 "refuse_unrising" 2 (zQ):=
 au.cz a y06 λ_ _ _ _ _ _ _ hr=>
  aO (el (jT (iI (aZ Ge hr (aC 0 (aC 1 ah))))) (aO Ez) ef)
abbrev Nw:aK:=bA 3 (cZ (aw 0 (aa 3)) (aw 1 (aa 3)))
def Nx:aK:=aF (bA 3 (aa 2))
 (aF (yK (fL (eL (aG oh 3 (bB (aa 0) (aw 1 (aa 3)) (aa 3))))) Nw)
 (bu (aa 3)))
def xi:=bX 4 (Nx)
theorem Gf:ae [bn,wE,re,"kept"] [bn,wE,re] (bw (top 27)):=cF
theorem y8g(B:Bt mg)(zO:au P w K mg base 1 "is_below" 3 oh)(a:At K mg "least_kept" (top 27) [bn,wE,re]):au P w K mg base 2 "least_kept" 3 (xi):=
 au.cz a Gf λ_ _ _ _ _ _ _ hr=>
  aQ (ck (i:=3) Gf.nd (aB 2))
  (aQ (EA QH (jT (iI (aZ zO hr (aC 0 (ag (aW (ql 1) (aB 3)) (aC 3 ah) dY))))) (aO (ck (i:=3) Gf.nd (ig (aW (ql 0) (aB 3)) (aW (ql 1) (aB 3))))))
  (aO (bL (aB 3))))
def Ny:aK:=aF (fX (aG zQ 2 (bF (aa 0) (aa 1))))
 (bu (iE (aE (cQ 1 (cP (aE (cj 0))) (av 2) cN (aG xi 3 (bB (aa 0) (aa 1) (aa 2))) false))))
def zR:=bX 2 (Ny)
theorem y0k:ae [bn,wE] [bn,wE] (bw (top 26)):=cF
abbrev Nz:List Str:=[bn,wE,"x"]
theorem x9r:(Nz).Nodup:=by decide +kernel
theorem y1o(B:Bt mg)(c60:au P w K mg base 6 "refuse_unrising" 2 zQ)(c52:au P w K mg base 2 "least_kept" 3 xi)(a:At K mg "again_and_again" (top 26) [bn,wE]):au P w K mg base 7 "again_and_again" 2 (zR):=
 au.cz a y0k λ_ _ _ _ _ _ _ hr=>
  aQ (jy (aZ c60 hr (ag (aJ (qv 0)) (ag (aJ (qv 1)) ah bT) bT)))
  (aO (bL (ls B.aS Qu (ag (gU (k:=1) (N':=Nz) false rfl (gz B.aA (ag (dX B.aI (qv 0)) ah bO)) (λ_ _ _ _=>bG (i:=2) x9r) (λ_ _ _ _=>iC) (λ_ _ _ _=>aZ c52 hr (ag (aJ (qv 0)) (ag (aJ (qv 1)) (ag (aJ (qv 2)) ah bT) bT) bT))) ah nY))))
def NA:aK:=bu (Ke (aE (aa 0)))
def zS:=bX 1 (NA)
theorem y48:ae [xL] [xL] (bw (top 14)):=cF
theorem y59(B:Bt mg)(a:At K mg "row_of_least" (top 14) [xL]):au P w K mg base 1 "row_of_least" 1 (zS):=
 au.cz a y48 λ_ _ _ _ _ _ _ hr=>
  aO (bL (WQ rfl B.aS Qu B.aA (aC 0 ah)))
def NB:aK:=bu (Ek (aa 0) (aE (aG zS 1 (aE (cj 0)))))
def qq:=bX 1 (NB)
theorem z1b:ae [bn] [bn] (bw (top 15)):=cF
theorem z3j(B:Bt mg)(c63:au P w K mg base 1 "row_of_least" 1 zS)(a:At K mg "least_of" (top 15) [bn]):au P w K mg base 2 "least_of" 1 (qq):=
 au.cz a z1b λ_ _ _ _ _ _ _ hr=>
  aO (bL (WW hr (aB 0) (ag (aZ c63 hr (ag (dX B.aI (ql 0)) ah bO)) ah bO)))
def NC:aK:=bu (iE (aE (cQ 2 (uU (bF (aa 1) (aa 2))) (f9 (bH (av 3) (bH (av 4) fC))) cN (cZ (aw 0 (aa 3)) (aa 4)) false)))
def zT:=bX 3 (NC)
theorem y3j:ae [bn,"one",zn] [bn,"one",zn] (bw (top 23)):=cF
abbrev ND:List Str:=[bn,"one",zn,"x","y"]
theorem NF:(ND).Nodup:=by decide +kernel
theorem y4x(B:Bt mg)(a:At K mg "joined_rules" (top 23) [bn,"one",zn]):au P w K mg base 1 "joined_rules" 3 (zT):=
 au.cz a y3j λ_ _ _ _ _ _ _ hr=>
  aO (bL (ls B.aS Qu (ag (gU (k:=2) (N':=ND) false rfl (Kr B.tM (aC 1 (aC 2 ah))) (λ_ _ _ _=>n4 (n:=2) rfl (fN (bG (i:=3) NF) (fN (bG (i:=4) NF) nZ)) wH) (λ_ _ _ _=>iC) (λ_ _ _ _=>ig (aW (qv 0) (aJ (qv 3))) (aJ (qv 4)))) ah nY)))
abbrev NH:aK:=cL (lh (bg (e2 dG (aa 4) (aa 2))) (bg (e2 dG (aa 5) (aa 2)))) (bA 3 (aG zT 3 (bB (aa 0) (aa 3) (aa 6)))) (cU)
def NI:aK:=aF (bA 3 (aG zM 2 (bF (aa 0) (aG qq 1 (aE (aa 0))))))
 (aF (eP (b8 (aw 1 (ai 1))) (f9 (bH (av 4) (bH (av 5) (bH (av 6) fC)))) NH)
 (bu (aG zR 2 (bF (aa 0) (aa 3)))))
def zU:=bX 7 (NI)
theorem xj:ae [bn,cr,lw,"joined","start","goal",wE] [bn,cr,lw] (bw (top 42)):=cF
theorem z7u(B:Bt mg)(c64:au P w K mg base 1 "steady" 2 zM)(zV:au P w K mg base 2 "least_of" 1 qq)(c49:au P w K mg base 1 "joined_rules" 3 zT)(c31:au P w K mg base 7 "again_and_again" 2 zR)(a:At K mg "loop_at" (top 42) [bn,cr,lw]):au P w K mg base 8 "loop_at" 3 (zU):=
 au.cz a xj λ_ _ _ _ _ _ _ hr=>
  aQ (ck (i:=3) xj.nd (aZ c64 hr (aC 0 (ag (aZ zV hr (aC 0 ah)) ah bO))))
  (aQ (ij QH rfl (eY (aW (ql 1) aM)) (n4 (n:=3) rfl (fN (bG (i:=4) xj.nd) (fN (bG (i:=5) xj.nd) (fN (bG (i:=6) xj.nd) nZ))) wI) (aO (el (jX (sL (kM hr (aB 4) (aB 2)) (uK (kM hr (aB 5) (aB 2))))) (aO (ck (i:=3) xj.nd (aZ c49 hr (aC 0 (aC 3 (aC 6 ah)))))) ef)))
  (aO (bL (aZ c31 hr (aC 0 (aC 3 ah))))))
def NJ:aK:=bu (iE (aE (cQ 1 (b8 (aa 0)) (av 2) cN (aw 1 (aa 2)) false)))
def tP:=bX 2 (NJ)
theorem z91:ae ["first","then"] ["first","then"] (bw (top 22)):=cF
abbrev NK:List Str:=["first","then",re]
theorem z5c:(NK).Nodup:=by decide +kernel
theorem j43(B:Bt mg)(a:At K mg "after" (top 22) ["first","then"]):au P w K mg base 1 "after" 2 (tP):=
 au.cz a z91 λ_ _ _ _ _ _ _ hr=>
  aO (bL (ls B.aS Qu (ag (gU (k:=1) (N':=NK) false rfl (eY (aB 0)) (λ_ _ _ _=>bG (i:=2) z5c) (λ_ _ _ _=>iC) (λ_ _ _ _=>aW (qv 1) (aJ (qv 2)))) ah nY)))
abbrev NL:aK:=aF (fX (sX 7 (cQ 2 (b8 (aa 4)) (f9 (bH (av 11) (bH (av 12) fC))) cN (dF (bB (aa 11) (aa 9) (aG tP 2 (bF (aa 12) (aa 10))))) false)))
 (fX (sX 8 (cQ 1 (b8 (aa 6)) (av 11) cN (dF (bF (aa 9) (aw 10 (aa 11)))) false)))
def NM:aK:=aF (fX (aG zL 2 (bF (aw 1 (ai 0)) (aa 2))))
 (aF (bA 3 (aG zU 3 (bB (aa 0) (aa 1) (aa 2))))
 (aF (bA 4 (cQ 3 (b8 (aw 1 (ai 1))) (f9 (bH (av 11) (bH (av 12) (bH (av 13) fC)))) (lh (bg (e2 dG (aa 12) (aa 2))) (bg (e2 cH (aa 11) (aa 2)))) (dF (bF (aa 11) (aa 13))) false))
 (aF (bA 5 (cQ 3 (b8 (aw 1 (ai 1))) (f9 (bH (av 11) (bH (av 12) (bH (av 13) fC)))) (lh (bg (e2 dG (aa 11) (aa 2))) (bg (e2 cH (aa 12) (aa 2)))) (dF (bF (aa 12) (aG tP 2 (bF (aa 3) (aa 13))))) false))
 (aF (bA 6 (sY (cR (aE (aG qq 1 (aE (aa 0))))) (cQ 2 (b8 (aw 1 (ai 2))) (f9 (bH (av 11) (bH (av 12) fC))) (bg (e2 dG (aa 11) (aa 2))) (aa 12) false)))
 (aF (bA 7 (cQ 1 (b8 (aw 1 (ai 1))) (av 11) (bg (e2 qZ (aa 2) (qd (aa 11) rA (qc (ai 2))))) (aa 11) false))
 (aF (bA 8 (cQ 1 (b8 (aw 1 (ai 2))) (av 11) (bg (e2 cH (aw 11 (ai 0)) (aa 2))) (aa 11) false))
 (aF (eP (b8 (aa 5)) (f9 (bH (av 9) (bH (av 10) fC))) NL)
 (bu (dF (bB (aw 1 (ai 0)) (iE (aE (lJ (aa 7)))) (iE (aE (lJ (aa 8))))))))))))))
def xk:=bX 11 (NM)
theorem qr:ae [bn,cr,lw,"loop",wP,zv,AC,"ways",v6,"goal",wT] [bn,cr,lw] (bw (top 41)):=cF
abbrev Gg:List Str:=[bn,cr,lw,"loop",wP,zv,AC,"ways",v6,"#9",wT,"start","goal",wE]
theorem xl:(Gg).Nodup:=by decide +kernel
abbrev NN:List Str:=[bn,cr,lw,"loop",wP,zv,AC,"ways",v6,"goal",wT,AT,re]
theorem NO:(NN).Nodup:=by decide +kernel
abbrev NP:List Str:=[bn,cr,lw,"loop",wP,zv,AC,"ways",v6,"goal",wT,"way"]
theorem y1b:(NP).Nodup:=by decide +kernel
abbrev NQ:List Str:=[bn,cr,lw,"loop",wP,zv,AC,"ways",v6,"goal",wT,AT]
theorem y1n:(NQ).Nodup:=by decide +kernel
abbrev NR:List Str:=[bn,cr,lw,"loop",wP,zv,AC,"ways",v6,"goal",wT,"start",wE]
theorem NS:(NR).Nodup:=by decide +kernel
abbrev NT:List Str:=[bn,cr,lw,"loop",wP,zv,AC,"ways",v6,"goal",wT,re]
theorem y1e:(NT).Nodup:=by decide +kernel
theorem y3f(B:Bt mg)(c58:au P w K mg base 3 "refuse_no_place" 2 zL)(c54:au P w K mg base 8 "loop_at" 3 zU)(NU:au P w K mg base 1 "after" 2 tP)(zV:au P w K mg base 2 "least_of" 1 qq)(a:At K mg "without_place" (top 41) [bn,cr,lw]):au P w K mg base 9 "without_place" 3 (xk):=
 au.cz a qr λ_ _ _ _ _ _ _ hr=>
  aQ (jy (aZ c58 hr (ag (aW (ql 1) aM) (ag (aJ (qv 2)) ah bT) dY)))
  (aQ (ck (i:=3) qr.nd (aZ c54 hr (aC 0 (aC 1 (ag (aJ (qv 2)) ah bT)))))
  (aQ (nV (i:=4) (k:=3) (N':=Gg) false qr.nd rfl rfl (eY (aW (ql 1) aM)) (λ_ _ _ _=>n4 (n:=3) rfl (fN (bG (i:=11) xl) (fN (bG (i:=12) xl) (fN (bG (i:=13) xl) nZ))) wI) (λ_ _ _ _=>me (jX (sL (kM hr (aJ (qv 12)) (aJ (qv 2))) (uK (il hr (aJ (qv 11)) (aJ (qv 2))))))) (λ_ _ _ _=>iA (ag (aJ (qv 11)) (ag (aJ (qv 13)) ah bT) bT)))
  (aQ (nV (i:=5) (k:=3) (N':=Gg) false qr.nd rfl rfl (eY (aW (ql 1) aM)) (λ_ _ _ _=>n4 (n:=3) rfl (fN (bG (i:=11) xl) (fN (bG (i:=12) xl) (fN (bG (i:=13) xl) nZ))) wI) (λ_ _ _ _=>me (jX (sL (kM hr (aJ (qv 11)) (aJ (qv 2))) (uK (il hr (aJ (qv 12)) (aJ (qv 2))))))) (λ_ _ _ _=>iA (ag (aJ (qv 12)) (ag (aZ NU hr (ag (aJ (qv 3)) (ag (aJ (qv 13)) ah bT) bT)) ah bO) bT)))
  (aQ (ck (i:=6) qr.nd (EC (eK (ag (aZ zV hr (aC 0 ah)) ah bO)) (gU (k:=2) (N':=NN) false rfl (eY (aW (ql 1) aM)) (λ_ _ _ _=>n4 (n:=2) rfl (fN (bG (i:=11) NO) (fN (bG (i:=12) NO) nZ)) wH) (λ_ _ _ _=>me (kM hr (aJ (qv 11)) (aJ (qv 2)))) (λ_ _ _ _=>aJ (qv 12)))))
  (aQ (nV (i:=7) (k:=1) (N':=NP) false qr.nd rfl rfl (eY (aW (ql 1) aM)) (λ_ _ _ _=>bG (i:=11) y1b) (λ_ _ _ _=>me (IZ hr (aJ (qv 2)) (yI (aJ (qv 11)) yG (yH aM)))) (λ_ _ _ _=>aJ (qv 11)))
  (aQ (nV (i:=8) (k:=1) (N':=NQ) false qr.nd rfl rfl (eY (aW (ql 1) aM)) (λ_ _ _ _=>bG (i:=11) y1n) (λ_ _ _ _=>me (il hr (aW (qv 11) aM) (aJ (qv 2)))) (λ_ _ _ _=>aJ (qv 11)))
  (aQ (ij QH rfl (eY (aB 5)) (n4 (n:=2) rfl (fN (bG (i:=9) qr.nd) (fN (bG (i:=10) qr.nd) nZ)) wH) (aQ (jy (B1 (ql 7) (gU (k:=2) (N':=NR) false rfl (eY (aB 4)) (λ_ _ _ _=>n4 (n:=2) rfl (fN (bG (i:=11) NS) (fN (bG (i:=12) NS) nZ)) wH) (λ_ _ _ _=>iC) (λ_ _ _ _=>iA (ag (aJ (qv 11)) (ag (aJ (qv 9)) (ag (aZ NU hr (ag (aJ (qv 12)) (ag (aJ (qv 10)) ah bT) bT)) ah bO) bT) bT)))))
  (aO (jy (B1 (ql 8) (gU (k:=1) (N':=NT) false rfl (eY (aB 6)) (λ_ _ _ _=>bG (i:=11) y1e) (λ_ _ _ _=>iC) (λ_ _ _ _=>iA (ag (aJ (qv 9)) (ag (aW (qv 10) (aJ (qv 11))) ah dY) bT))))))))
  (aO (bL (iA (ag (aW (ql 1) aM) (ag (ls B.aS Qu (ag (wX rfl hr B.dR B.jq (aB 7)) ah bO)) (ag (ls B.aS Qu (ag (wX rfl hr B.dR B.jq (aB 8)) ah bO)) ah bO) bO) dY)))))))))))
def Gh:jj:=EM vx 2 (bF (aw 1 (ai 0)) (aa 2))
def pG:List D->Option Str:=fnX 11 Gh
theorem y2w(B:Bt mg)(T:Xt K mg)(c67:nr P w K mg base 3 "refuse_no_place" 2 vx)(a:At K mg "without_place" (top 41) [bn,cr,lw]):nr P w K mg base 9 "without_place" 3 pG:=
 nr.cz (k:=8) a qr λ_ _ _ _ _ _ _ hr=>
  E2 (j00 (z9h c67 hr (by decide) (ag (aW (ql 1) aM) (ag (aJ (qv 2)) ah bT) dY)))
def Gi:aK:=aF (bA 3 (eC .bc))
 (aF (bA 4 (eC .bc))
 (aF (yV [li] (bA 4 (aG xk 3 (bB (aa 0) (aa 1) (aa 2)))) (yU pG 3 (bB (aa 0) (aa 1) (aa 2))) 5 3)
 (aF (cL (bg (e2 B4 (aa 3) (eC .bc))) (bu (aa 4)) cU)
 (bu (aG CB 1 (aE (aa 3)))))))
def tR:=bX 6 (Gi)
theorem zW:ae [bi,ca,db,x0,"_law_answer","e"] [bi,ca,db] (bw (top 69)):=cF
theorem y9o(B:Bt mg)(T:Xt K mg)(c65:au P w K mg base 9 "without_place" 3 xk)(c29:au P w K mg base 1 "_law_word" 1 CB)(c68:nr P w K mg base 9 "without_place" 3 pG)(a:At K mg "_law_tried" (top 69) [bi,ca,db]):au P w K mg base 10 "_law_tried" 3 (tR):=
 au.cz a zW λ_ _ _ _ _ _ _ hr=>
  aQ (ck (i:=3) zW.nd Bz)
  (aQ (ck (i:=4) zW.nd Bz)
  (aQ (z9v (ie:=5) (ik:=3) T.u (aO (ck (i:=4) zW.nd (aZ c65 hr (aC 0 (aC 1 (aC 2 ah)))))) (j5i (z9s c68 hr (by decide) (aC 0 (aC 1 (aC 2 ah))))) zW.nd rfl rfl)
  (aQ (el (j5z (aB 3) Bz) (aO (bL (aB 4))) ef)
  (aO (bL (aZ c29 hr (aC 3 ah)))))))
abbrev Gj:aK:=cL (lh (bg (e2 dG (aa 13) (aa 2))) (bg (e2 cH (aa 12) (aa 2)))) (fX (kO 9 (aE (dF (bB (aa 12) (aa 5) (iE (aE (cQ 1 (b8 (aa 14)) (av 15) cN (aw 6 (aw 7 (aa 15))) false)))))))) (cU)
abbrev Gk:aK:=cL (lh (bg (e2 dG (aa 4) (aa 2))) (bg (e2 cH (aa 5) (aa 2)))) (aF (fX (sX 10 (cQ 1 (b8 (aa 11)) (av 15) cN (dF (bF (aa 5) (aw 6 (aw 7 (aa 15))))) false)))
 (eP (b8 (aw 1 (ai 1))) (f9 (bH (av 12) (bH (av 13) (bH (av 14) fC)))) Gj)) (cU)
abbrev NV:aK:=bA 8 (cZ (aw 0 (aa 8)) (aw 3 (aa 8)))
abbrev Gm:aK:=aF (yK (bg (e2 cH (cZ (aw 0 (aa 8)) (aw 3 (aa 8))) (aa 8))) NV)
 (fX (kO 7 (aE (aa 8))))
abbrev Gn:aK:=cL (bg (n6 vj vj (aa 4) (aa 5) (aa 2))) (bA 3 (cQ 2 (uU (bF (aa 3) (aa 6))) (f9 (bH (av 15) (bH (av 16) fC))) cN (cZ (aw 0 (aa 15)) (aa 16)) false)) (cU)
def NW:aK:=aF (bA 3 (nX (cR (aE (aG nF 1 (aE (aa 0))))) (cj 0)))
 (aF (eP (b8 (aw 1 (ai 1))) (f9 (bH (av 4) (bH (av 5) (bH (av 6) fC)))) Gn)
 (aF (bA 7 (cR gJ))
 (aF (eP (cP (aE (cj 0))) (av 8) Gm)
 (aF (bA 9 (cQ 1 (b8 (aw 1 (ai 1))) (av 15) (bg (e2 qZ (aa 2) (qd (aa 15) rA (qc (ai 2))))) (aa 15) false))
 (aF (bA 10 (cQ 1 (b8 (aw 1 (ai 2))) (av 15) (bg (e2 cH (aw 15 (ai 0)) (aa 2))) (aa 15) false))
 (aF (bA 11 (sY (cR (aE (aG nF 1 (aE (aa 0))))) (cQ 2 (b8 (aw 1 (ai 2))) (f9 (bH (av 15) (bH (av 16) fC))) (bg (e2 dG (aa 15) (aa 2))) (aa 16) false)))
 (aF (eP (b8 (aw 1 (ai 1))) (f9 (bH (av 4) (bH (av 5) (bH (av 6) fC)))) Gk)
 (bu (cR (bF (lJ (aa 9)) (lJ (aa 10))))))))))))
def zX:=bX 15 (NW)
theorem jY:ae [bi,ca,db,wf,o0,pi,dL,sB,dl,ms,pc,wn,pp,rc,sK] [bi,ca,db] (bw (top 71)):=cF
abbrev NX:List Str:=[bi,ca,db,wf,o0,pi,dL,sB,dl,ms,pc,wn,pp,rc,sK,"_law_mine","_law_yours"]
theorem NY:(NX).Nodup:=by decide +kernel
abbrev NZ:List Str:=[bi,ca,db,wf,o0,pi,dL,sB,dl,ms,pc,wn,pp,rc,sK,"_law_way"]
theorem y89:(NZ).Nodup:=by decide +kernel
abbrev N0:List Str:=[bi,ca,db,wf,o0,pi,dL,sB,dl,ms,pc,wn,pp,rc,sK,"_law_begin"]
theorem y9e:(N0).Nodup:=by decide +kernel
abbrev N1:List Str:=[bi,ca,db,wf,o0,pi,dL,sB,"#8",ms,pc,wn,pp,rc,sK,ii,dl]
theorem N2:(N1).Nodup:=by decide +kernel
abbrev Gp:List Str:=[bi,ca,db,wf,o0,pi,dL,sB,"#8",ms,pc,wn,pp,rc,sK,dl]
theorem N3:(Gp).Nodup:=by decide +kernel
theorem z3z(B:Bt mg)(xg:au P w K mg base 1 "_law_low" 1 nF)(a:At K mg "_law_due" (top 71) [bi,ca,db]):au P w K mg base 2 "_law_due" 3 (zX):=
 au.cz a jY λ_ _ _ _ _ _ _ hr=>
  aQ (ck (i:=3) jY.nd (BO (eK (ag (aZ xg hr (ag (aJ (qv 0)) ah bT)) ah bO)) (dX B.aI (qv 0))))
  (aQ (ij QH rfl (eY (aW (ql 1) aM)) (n4 (n:=3) rfl (fN (bG (i:=4) jY.nd) (fN (bG (i:=5) jY.nd) (fN (bG (i:=6) jY.nd) nZ))) wI) (aO (el (y51 (aB 4) (aJ (qv 5)) (aJ (qv 2))) (aO (nV (i:=3) (k:=2) (N':=NX) false jY.nd rfl rfl (Kr B.tM (aC 3 (ag (aJ (qv 6)) ah bT))) (λ_ _ _ _=>n4 (n:=2) rfl (fN (bG (i:=15) NY) (fN (bG (i:=16) NY) nZ)) wH) (λ_ _ _ _=>iC) (λ_ _ _ _=>ig (aW (qv 0) (aJ (qv 15))) (aJ (qv 16))))) ef)))
  (aQ (ck (i:=7) jY.nd (eK ah))
  (aQ (ij QH rfl (gz B.aA (ag (dX B.aI (qv 0)) ah bO)) (bG (i:=8) jY.nd) (aQ (EA QH (il hr (ig (aW (qv 0) (aB 8)) (aW (ql 3) (aB 8))) (aB 8)) (aO (ck (i:=8) jY.nd (ig (aW (qv 0) (aB 8)) (aW (ql 3) (aB 8))))))
  (aO (jy (nW (qv 7) (aC 8 ah))))))
  (aQ (nV (i:=9) (k:=1) (N':=NZ) false jY.nd rfl rfl (eY (aW (ql 1) aM)) (λ_ _ _ _=>bG (i:=15) y89) (λ_ _ _ _=>me (IZ hr (aJ (qv 2)) (yI (aJ (qv 15)) yG (yH aM)))) (λ_ _ _ _=>aJ (qv 15)))
  (aQ (nV (i:=10) (k:=1) (N':=N0) false jY.nd rfl rfl (eY (aW (ql 1) aM)) (λ_ _ _ _=>bG (i:=15) y9e) (λ_ _ _ _=>me (il hr (aW (qv 15) aM) (aJ (qv 2)))) (λ_ _ _ _=>aJ (qv 15)))
  (aQ (ck (i:=11) jY.nd (EC (eK (ag (aZ xg hr (ag (aJ (qv 0)) ah bT)) ah bO)) (gU (k:=2) (N':=N1) false rfl (eY (aW (ql 1) aM)) (λ_ _ _ _=>n4 (n:=2) rfl (fN (bG (i:=15) N2) (fN (bG (i:=16) N2) nZ)) wH) (λ_ _ _ _=>me (kM hr (aJ (qv 15)) (aJ (qv 2)))) (λ_ _ _ _=>aJ (qv 16)))))
  (aQ (ij QH rfl (eY (aW (ql 1) aM)) (n4 (n:=3) rfl (fN (bG (i:=4) jY.nd) (fN (bG (i:=5) jY.nd) (fN (bG (i:=6) jY.nd) nZ))) wI) (aO (el (jX (sL (kM hr (aB 4) (aJ (qv 2))) (uK (il hr (aJ (qv 5)) (aJ (qv 2)))))) (aQ (jy (B1 (ql 10) (gU (k:=1) (N':=Gp) false rfl (eY (aB 11)) (λ_ _ _ _=>bG (i:=15) N3) (λ_ _ _ _=>iC) (λ_ _ _ _=>iA (ag (aJ (qv 5)) (ag (aW (qv 6) (aW (qv 7) (aJ (qv 15)))) ah dY) bT)))))
  (aO (ij QH rfl (eY (aW (ql 1) aM)) (n4 (n:=3) rfl (fN (bG (i:=12) jY.nd) (fN (bG (i:=13) jY.nd) (fN (bG (i:=14) jY.nd) nZ))) wI) (aO (el (jX (sL (kM hr (aB 13) (aJ (qv 2))) (uK (il hr (aB 12) (aJ (qv 2)))))) (aO (jy (nW (ql 9) (ag (iA (aC 12 (ag (aJ (qv 5)) (ag (ls B.aS Qu (ag (gU (k:=1) (N':=Gp) false rfl (eY (aB 14)) (λ_ _ _ _=>bG (i:=15) N3) (λ_ _ _ _=>iC) (λ_ _ _ _=>aW (qv 6) (aW (qv 7) (aJ (qv 15))))) ah nY)) ah bO) bT))) ah wG)))) ef))))) ef)))
  (aO (bL (eK (ag (wX rfl hr B.dR B.jq (aB 9)) (ag (wX rfl hr B.dR B.jq (aB 10)) ah bO) bO)))))))))))
def N4:aK:=aF (cL (j8 (fL (eL (mr .tuple (aa 0)))) (j8 (bg (e2 cH (cj 0) (ai 2))) (fL (eL (mr .str (aw 0 (ai 0))))))) (bu (eC (.bl false))) cU)
 (bu (aG jt 2 (bF (aw 0 (ai 1)) (EE (aa 1) (aw 0 (ai 0)) (ai 0)))))
def zY:=bX 2 (N4)
theorem y02:ae [ce,"many_by_name"] [ce,"many_by_name"] (bw (top 12)):=cF
theorem y1h(B:Bt mg)(nG:au P w K mg base 2 "is_number_of" 2 jt)(a:At K mg "is_named_number" (top 12) [ce,"many_by_name"]):au P w K mg base 3 "is_named_number" 2 (zY):=
 au.cz a y02 λ_ _ _ _ _ _ _ hr=>
  aQ (el (jX (nT (jT (iI (p_ .tuple B.ay B.aS Qu (aB 0)))) (nT (il hr (dX B.aI (ql 0)) aM) (oQ (jT (iI (p_ .str B.ay B.zG PyProof.Rows.boot_str (aW (ql 0) aM)))))))) (aO (bL gS)) ef)
  (aO (bL (aZ nG hr (ag (aW (ql 0) aM) (ag (XW hr (aB 1) (aW (ql 0) aM) aM) ah bO) dY))))
def N5:aK:=bu (aG zY 2 (bF (aa 1) (yL "begin" "way" (sZ 0 2) (sZ 0 1))))
def tS:=bX 2 (N5)
theorem z4f:ae [cr,ce] [cr,ce] (bw (top 47)):=cF
theorem z5j(B:Bt mg)(c41:au P w K mg base 3 "is_named_number" 2 zY)(a:At K mg "is_step" (top 47) [cr,ce]):au P w K mg base 4 "is_step" 2 (tS):=
 au.cz a z4f λ_ _ _ _ _ _ _ hr=>
  aO (bL (aZ c41 hr (aC 1 (ag (XT (by decide) (KC B.aI (ql 0)) (KC B.aI (ql 0))) ah X0))))
def N6:aK:=cL (fL (eL (eB p7 (aE (cQ 1 (b8 (aa 1)) (av 2) cN (aG tS 2 (bF (aa 0) (aa 2))) false))))) yJ (cU)
def xm:=bX 2 (N6)
theorem y1s:ae [cr,"steps"] [cr,"steps"] (bw (top 48)):=cF
abbrev N7:List Str:=[cr,"steps","step"]
theorem x9u:(N7).Nodup:=by decide +kernel
theorem y2r(B:Bt mg)(c46:au P w K mg base 4 "is_step" 2 tS)(a:At K mg "refuse_no_step" (top 48) [cr,"steps"]):au P w K mg base 5 "refuse_no_step" 2 (xm):=
 au.cz a y1s λ_ _ _ _ _ _ _ hr=>
  aO (el (jT (iI (BU rfl B.mH (ag (gU (k:=1) (N':=N7) false rfl (eY (aB 1)) (λ_ _ _ _=>bG (i:=2) x9u) (λ_ _ _ _=>iC) (λ_ _ _ _=>aZ c46 hr (ag (aJ (qv 0)) (ag (aJ (qv 2)) ah bT) bT))) ah nY)))) (aO Ez) ef)
def N8:aK:=aF (cL (bg (e2 dG (aw 2 (ai 0)) (eC (.str "begin")))) (bu (cZ (aw 0 (ai 2)) (aw 2 (ai 1)))) cU)
 (aF (bA 3 (cZ (aw 0 (ai 1)) (aw 2 (ai 1))))
 (bu (dF (bF (aw 3 (ai 1)) (cZ (aw 3 (ai 2)) (aw 1 (aw 3 (ai 0))))))))
def zZ:=bX 4 (N8)
theorem N9:ae [cr,wp,"step","way"] [cr,wp,"step"] (bw (top 49)):=cF
theorem y1i(B:Bt mg)(a:At K mg "place_and_worth" (top 49) [cr,wp,"step"]):au P w K mg base 1 "place_and_worth" 3 (zZ):=
 au.cz a N9 λ_ _ _ _ _ _ _ hr=>
  aQ (el (kM hr (aW (ql 2) aM) oN) (aO (bL (ig (aW (ql 0) aM) (aW (ql 2) aM)))) ef)
  (aQ (ck (i:=3) N9.nd (ig (aW (ql 0) aM) (aW (ql 2) aM)))
  (aO (bL (iA (ag (aW (ql 3) aM) (ag (ig (aW (ql 3) aM) (aW (ql 1) (aW (ql 3) aM))) ah dY) dY)))))
def N_:aK:=aF (bA 4 (aG zZ 3 (bB (aa 1) (aa 2) (aa 3))))
 (aF (bA 5 (aw 4 (ai 0)))
 (aF (bA 6 (cZ (aw 0 (aw 2 (aa 5))) (aw 4 (ai 1))))
 (bu (uW (uW (qd (aa 2) rA (qc (aa 5))) (dF (aE (aa 6)))) (qd (aa 2) (qc (e2 cC (aa 5) (ai 1))) rA)))))
def z_:=bX 7 (N_)
theorem CC:ae [bn,cr,wp,"step",wP,lw,"joined"] [bn,cr,wp,"step"] (bw (top 50)):=cF
theorem y3w(B:Bt mg)(c57:au P w K mg base 1 "place_and_worth" 3 zZ)(a:At K mg "worths_behind" (top 50) [bn,cr,wp,"step"]):au P w K mg base 2 "worths_behind" 4 (z_):=
 au.cz a CC λ_ _ _ _ _ _ _ hr=>
  aQ (ck (i:=4) CC.nd (aZ c57 hr (aC 1 (aC 2 (aC 3 ah)))))
  (aQ (ck (i:=5) CC.nd (aW (ql 4) aM))
  (aQ (ck (i:=6) CC.nd (ig (aW (ql 0) (aW (ql 2) (aB 5))) (aW (ql 4) aM)))
  (aO (bL (Ex (Ex (yI (aB 2) yG (yH (aB 5))) (iA (aC 6 ah))) (yI (aB 2) (yH (dQ (aB 5) aM)) yG))))))
abbrev Gq:aK:=aF (bA 7 (aG z_ 4 (Cw (aa 0) (aa 1) (aa 3) (aa 6))))
 (aF (cL (bg (e2 cH (aa 7) (aa 3))) (fX (kO 4 (aE (aa 6)))) cU)
 (bA 3 (aa 7)))
abbrev Gr:aK:=aF (bA 5 (aa 3))
 (eP (b8 (aa 2)) (av 6) Gq)
def Oa:aK:=aF (bA 4 (cR gJ))
 (aF (bA 5 (eC .bc))
 (aF (yK (bg (e2 cH (aa 3) (aa 5))) Gr)
 (bu (dF (bF (aa 3) (aa 4))))))
def Aa:=bX 8 (Oa)
theorem vA:ae [bn,cr,"order",wp,"raising","ahead","step","behind"] [bn,cr,"order",wp] (bw (top 51)):=cF
theorem j51(B:Bt mg)(c66:au P w K mg base 2 "worths_behind" 4 z_)(a:At K mg "risen" (top 51) [bn,cr,"order",wp]):au P w K mg base 3 "risen" 4 (Aa):=
 au.cz a vA λ_ _ _ _ _ _ _ hr=>
  aQ (ck (i:=4) vA.nd (eK ah))
  (aQ (ck (i:=5) vA.nd Bz)
  (aQ (EA QH (il hr (aB 3) (aB 5)) (aQ (ck (i:=5) vA.nd (aB 3))
  (aO (ij QH rfl (eY (aB 2)) (bG (i:=6) vA.nd) (aQ (ck (i:=7) vA.nd (aZ c66 hr (aC 0 (aC 1 (aC 3 (aC 6 ah))))))
  (aQ (el (il hr (aB 7) (aB 3)) (aO (jy (nW (ql 4) (aC 6 ah)))) ef)
  (aO (ck (i:=3) vA.nd (aB 7)))))))))
  (aO (bL (iA (aC 3 (aC 4 ah)))))))
def Ob:aK:=bu (iE (aE (nX (cR (aE (aG qq 1 (aE (aa 0))))) (aw 1 (ai 0)))))
def Ab:=bX 2 (Ob)
theorem z6i:ae [bn,cr] [bn,cr] (bw (top 44)):=cF
theorem z95(B:Bt mg)(zV:au P w K mg base 2 "least_of" 1 qq)(a:At K mg "lowest" (top 44) [bn,cr]):au P w K mg base 3 "lowest" 2 (Ab):=
 au.cz a z6i λ_ _ _ _ _ _ _ hr=>
  aO (bL (ls B.aS Qu (ag (BO (eK (ag (aZ zV hr (aC 0 ah)) ah bO)) (aW (ql 1) aM)) ah eZ)))
def Oc:aK:=aF (fX (aG xm 2 (bF (aa 1) (aa 2))))
 (aF (bA 3 (aG Aa 4 (Cw (aa 0) (aa 1) (aa 2) (aG Ab 2 (bF (aa 0) (aa 1))))))
 (bu (dF (bF (aw 3 (ai 0)) (eB sP (aE (aw 3 (ai 1))))))))
def Ac:=bX 4 (Oc)
theorem Od:ae [bn,cr,"order","ended"] [bn,cr,"order"] (bw (top 52)):=cF
theorem z42(B:Bt mg)(c59:au P w K mg base 5 "refuse_no_step" 2 xm)(c61:au P w K mg base 3 "risen" 4 Aa)(c55:au P w K mg base 3 "lowest" 2 Ab)(a:At K mg "least_by" (top 52) [bn,cr,"order"]):au P w K mg base 6 "least_by" 3 (Ac):=
 au.cz a Od λ_ _ _ _ _ _ _ hr=>
  aQ (jy (aZ c59 hr (aC 1 (aC 2 ah))))
  (aQ (ck (i:=3) Od.nd (aZ c61 hr (aC 0 (aC 1 (aC 2 (ag (aZ c55 hr (aC 0 (aC 1 ah))) ah bO))))))
  (aO (bL (iA (ag (aW (ql 3) aM) (ag (D9 B.aI (ag (aW (ql 3) aM) ah dY)) ah bO) dY)))))
def Oe:aK:=aF (bA 1 (cQ 1 (cP (aE (eB sP (aE (aw 0 (ai 2)))))) (av 2) cN (dF (bF (eC (.str "begin")) (aa 2))) false))
 (bu (sY (aa 1) (cQ 1 (cP (aE (eB sP (aE (aw 0 (ai 1)))))) (av 2) cN (dF (bF (eC (.str "way")) (aa 2))) false)))
def Ad:=bX 2 (Oe)
theorem Of:ae [cr,v6] [cr] (bw (top 46)):=cF
abbrev Gs:List Str:=[cr,v6,"number"]
theorem Og:(Gs).Nodup:=by decide +kernel
theorem z0c(B:Bt mg)(a:At K mg "all_steps" (top 46) [cr]):au P w K mg base 1 "all_steps" 1 (Ad):=
 au.cz a Of λ_ _ _ _ _ _ _ hr=>
  aQ (nV (i:=1) (k:=1) (N':=Gs) false Of.nd rfl rfl (gz B.aA (ag (D9 B.aI (ag (aW (ql 0) aM) ah dY)) ah bO)) (λ_ _ _ _=>bG (i:=2) Og) (λ_ _ _ _=>iC) (λ_ _ _ _=>iA (ag oN (ag (aJ (qv 2)) ah bT) nq)))
  (aO (bL (EC (aB 1) (gU (k:=1) (N':=Gs) false rfl (gz B.aA (ag (D9 B.aI (ag (aW (ql 0) aM) ah dY)) ah bO)) (λ_ _ _ _=>bG (i:=2) Og) (λ_ _ _ _=>iC) (λ_ _ _ _=>iA (ag oN (ag (aJ (qv 2)) ah bT) nq))))))
def Oh:aK:=bu (cZ (aG Ac 3 (bB (aa 0) (aa 1) (aG Ad 1 (aE (aa 1))))) (ai 0))
def xn:=bX 2 (Oh)
theorem z8j:ae [bn,cr] [bn,cr] (bw (top 45)):=cF
theorem j4c(B:Bt mg)(c51:au P w K mg base 6 "least_by" 3 Ac)(c32:au P w K mg base 1 "all_steps" 1 Ad)(a:At K mg "least" (top 45) [bn,cr]):au P w K mg base 7 "least" 2 (xn):=
 au.cz a z8j λ_ _ _ _ _ _ _ hr=>
  aO (bL (ig (aZ c51 hr (aC 0 (aC 1 (ag (aZ c32 hr (aC 1 ah)) ah bO)))) aM))
def CD:aK:=aF (bA 6 (cQ 1 (cP (aE (ai 3))) (av 10) cN (aG pF 3 (bB (aa 0) (e2 cC (aa 1) (e2 iX (ai 50) (aa 10))) (aa 2))) false))
 (aF (cL (eL (aa 5)) (bA 6 (cQ 1 (cP (aE (ai 3))) (av 10) cN (aG qo 3 (bB (aa 0) (e2 cC (aa 1) (e2 iX (ai 50) (aa 10))) (aa 2))) false)) cU)
 (aF (yX 7 8 (bF (aG dB 3 (bB (aa 0) (e2 cC (aa 1) (ai 150)) (aw 3 (ai 0)))) (aG dB 3 (bB (aa 0) (e2 cC (aa 1) (ai 151)) (aw 3 (ai 0))))))
 (aF (bA 9 (dF (bB (dF (bB (aa 7) (aa 4) (aw 6 (ai 0)))) (dF (bB (aa 4) (aa 4) (aw 6 (ai 1)))) (dF (bB (aa 4) (aa 8) (aw 6 (ai 2)))))))
 (bu (dF (bB (aw 3 (ai 0)) (uW (aw 3 (ai 1)) (aa 9)) (aw 3 (ai 2))))))))
def xo:=bX 10 (CD)
theorem Ae:ae [bv,fv,bi,ca,db,jp,"_law_rules",o0,pi,ms] [bv,fv,bi,ca,db,jp] (bw (top 70)):=cF
abbrev Gu:List Str:=[bv,fv,bi,ca,db,jp,"_law_rules",o0,pi,ms,v4]
theorem Oi:(Gu).Nodup:=by decide +kernel
theorem y1j(B:Bt mg)(zK:au P w K mg base 3 "_law_rule" 3 pF)(Ga:au P w K mg base 4 "_law_spread_rule" 3 qo)(gM:au P w K mg base 2 "_law_pick" 3 dB)(a:At K mg "_law_with_round" (top 70) [bv,fv,bi,ca,db,jp]):au P w K mg base 5 "_law_with_round" 6 (xo):=
 au.cz a Ae λ_ _ _ _ _ _ _ hr=>
  aQ (nV (i:=6) (k:=1) (N':=Gu) false Ae.nd rfl rfl (gz B.aA (cX ah)) (λ_ _ _ _=>bG (i:=10) Oi) (λ_ _ _ _=>iC) (λ_ _ _ _=>aZ zK hr (ag (aJ (qv 0)) (ag (dQ (aJ (qv 1)) (lg aM (aJ (qv 10)))) (ag (aJ (qv 2)) ah bT) eZ) bT)))
  (aQ (el (iI (aB 5)) (aO (nV (i:=6) (k:=1) (N':=Gu) false Ae.nd rfl rfl (gz B.aA (cX ah)) (λ_ _ _ _=>bG (i:=10) Oi) (λ_ _ _ _=>iC) (λ_ _ _ _=>aZ Ga hr (ag (aJ (qv 0)) (ag (dQ (aJ (qv 1)) (lg aM (aJ (qv 10)))) (ag (aJ (qv 2)) ah bT) eZ) bT)))) ef)
  (aQ (j5a (i:=7) (j:=8) rfl Ae.nd rfl rfl (by decide) (ag (aZ gM hr (ag (aJ (qv 0)) (ag (dQ (aJ (qv 1)) aM) (ag (aW (ql 3) aM) ah dY) eZ) bT)) (ag (aZ gM hr (ag (aJ (qv 0)) (ag (dQ (aJ (qv 1)) aM) (ag (aW (ql 3) aM) ah dY) eZ) bT)) ah bO) bO))
  (aQ (ck (i:=9) Ae.nd (iA (ag (iA (aC 7 (aC 4 (ag (aW (ql 6) aM) ah dY)))) (ag (iA (aC 4 (aC 4 (ag (aW (ql 6) aM) ah dY)))) (ag (iA (aC 4 (aC 8 (ag (aW (ql 6) aM) ah dY)))) ah wG) wG) wG)))
  (aO (bL (iA (ag (aW (ql 3) aM) (ag (Ex (aW (ql 3) aM) (aB 9)) (ag (aW (ql 3) aM) ah dY) eZ) dY)))))))
def Oj:aK:=bu (mn (aG vw 1 (aE (aa 0))) (n6 wy wy (ai 1) (aa 0) (ai 8)))
def Af:=bX 1 (Oj)
theorem y1d:ae [ce] [ce] (bw (top 33)):=cF
theorem y2y(B:Bt mg)(Gb:au P w K mg base 1 "is_whole" 1 vw)(a:At K mg "is_many_places" (top 33) [ce]):au P w K mg base 2 "is_many_places" 1 (Af):=
 au.cz a y1d λ_ _ _ _ _ _ _ hr=>
  aO (bL (sS (aZ Gb hr (aC 0 ah)) (sR (Xq aM (aB 0) (Ey B.jf)))))
def Ol:aK:=aF (cL (j8 (fL (eL (mr .tuple (aa 1)))) (bg (e2 cH (cj 1) (ai 3)))) (bu (eC (.bl false))) cU)
 (bu (mn (aG jt 2 (bF (aw 1 (ai 0)) (aa 0))) (aG jt 2 (bF (aw 1 (ai 1)) (aa 0)))))
def Ag:=bX 2 (Ol)
theorem y3a:ae [im,ce] [im,ce] (bw (top 36)):=cF
theorem y58(B:Bt mg)(nG:au P w K mg base 2 "is_number_of" 2 jt)(a:At K mg "goes_between" (top 36) [im,ce]):au P w K mg base 3 "goes_between" 2 (Ag):=
 au.cz a y3a λ_ _ _ _ _ _ _ hr=>
  aQ (el (jX (nT (jT (iI (p_ .tuple B.ay B.aS Qu (aB 1)))) (oQ (il hr (dX B.aI (ql 1)) aM)))) (aO (bL gS)) ef)
  (aO (bL (sS (aZ nG hr (ag (aW (ql 1) aM) (aC 0 ah) dY)) (sR (aZ nG hr (ag (aW (ql 1) aM) (aC 0 ah) dY))))))
def Om:aK:=bu (mn (aG Ag 2 (bF (aa 1) (aa 2))) (aG vz 2 (bF (aa 0) (aw 2 (ai 2)))))
def xp:=bX 3 (Om)
theorem z74:ae [bn,im,ce] [bn,im,ce] (bw (top 35)):=cF
theorem z8b(B:Bt mg)(c36:au P w K mg base 3 "goes_between" 2 Ag)(Ge:au P w K mg base 5 "is_rising_rule" 2 vz)(a:At K mg "is_way" (top 35) [bn,im,ce]):au P w K mg base 6 "is_way" 3 (xp):=
 au.cz a z74 λ_ _ _ _ _ _ _ hr=>
  aO (bL (sS (aZ c36 hr (aC 1 (aC 2 ah))) (sR (aZ Ge hr (aC 0 (ag (aW (ql 2) aM) ah dY))))))
def Oo:aK:=aF (cL (j8 (fL (eL (mr .tuple (aa 2)))) (bg (e2 uJ (cj 2) (ai 60)))) (bu (eC (.bl false))) cU)
 (bu (eB p7 (aE (cQ 1 (b8 (aa 2)) (av 3) cN (aG xp 3 (bB (aa 0) (aa 1) (aa 3))) false))))
def Ah:=bX 3 (Oo)
theorem z0e:ae [bn,im,ce] [bn,im,ce] (bw (top 34)):=cF
abbrev Oq:List Str:=[bn,im,ce,"way"]
theorem y8v:(Oq).Nodup:=by decide +kernel
theorem z3t(B:Bt mg)(c47:au P w K mg base 6 "is_way" 3 xp)(a:At K mg "are_ways" (top 34) [bn,im,ce]):au P w K mg base 7 "are_ways" 3 (Ah):=
 au.cz a z0e λ_ _ _ _ _ _ _ hr=>
  aQ (el (jX (nT (jT (iI (p_ .tuple B.ay B.aS Qu (aB 2)))) (oQ (D2 (dX B.aI (ql 2)) (Ey B.kq))))) (aO (bL gS)) ef)
  (aO (bL (BU rfl B.mH (ag (gU (k:=1) (N':=Oq) false rfl (eY (aB 2)) (λ_ _ _ _=>bG (i:=3) y8v) (λ_ _ _ _=>iC) (λ_ _ _ _=>aZ c47 hr (ag (aJ (qv 0)) (ag (aJ (qv 1)) (ag (aJ (qv 3)) ah bT) bT) bT))) ah nY))))
def Ot:aK:=aF (cL (j8 (fL (eL (mr .tuple (aa 2)))) (bg (e2 cH (cj 2) (ai 2)))) (bu (eC (.bl false))) cU)
 (bu (mn (aG jt 2 (bF (aw 2 (ai 0)) (aa 1))) (aG jt 2 (bF (aw 2 (ai 1)) (cj 0)))))
def xq:=bX 3 (Ot)
theorem z0z:ae [bn,im,ce] [bn,im,ce] (bw (top 38)):=cF
theorem z4j(B:Bt mg)(nG:au P w K mg base 2 "is_number_of" 2 jt)(a:At K mg "is_begin" (top 38) [bn,im,ce]):au P w K mg base 3 "is_begin" 3 (xq):=
 au.cz a z0z λ_ _ _ _ _ _ _ hr=>
  aQ (el (jX (nT (jT (iI (p_ .tuple B.ay B.aS Qu (aB 2)))) (oQ (il hr (dX B.aI (ql 2)) aM)))) (aO (bL gS)) ef)
  (aO (bL (sS (aZ nG hr (ag (aW (ql 2) aM) (aC 1 ah) dY)) (sR (aZ nG hr (ag (aW (ql 2) aM) (ag (dX B.aI (ql 0)) ah bO) dY))))))
def Ou:aK:=aF (cL (j8 (fL (eL (mr .tuple (aa 2)))) (bg (e2 uJ (cj 2) (ai 60)))) (bu (eC (.bl false))) cU)
 (bu (eB p7 (aE (cQ 1 (b8 (aa 2)) (av 3) cN (aG xq 3 (bB (aa 0) (aa 1) (aa 3))) false))))
def Ai:=bX 3 (Ou)
theorem y75:ae [bn,im,ce] [bn,im,ce] (bw (top 37)):=cF
abbrev Ov:List Str:=[bn,im,ce,AT]
theorem y52:(Ov).Nodup:=by decide +kernel
theorem y84(B:Bt mg)(c37:au P w K mg base 3 "is_begin" 3 xq)(a:At K mg "are_begins" (top 37) [bn,im,ce]):au P w K mg base 4 "are_begins" 3 (Ai):=
 au.cz a y75 λ_ _ _ _ _ _ _ hr=>
  aQ (el (jX (nT (jT (iI (p_ .tuple B.ay B.aS Qu (aB 2)))) (oQ (D2 (dX B.aI (ql 2)) (Ey B.je))))) (aO (bL gS)) ef)
  (aO (bL (BU rfl B.mH (ag (gU (k:=1) (N':=Ov) false rfl (eY (aB 2)) (λ_ _ _ _=>bG (i:=3) y52) (λ_ _ _ _=>iC) (λ_ _ _ _=>aZ c37 hr (ag (aJ (qv 0)) (ag (aJ (qv 1)) (ag (aJ (qv 3)) ah bT) bT) bT))) ah nY))))
def Ox:aK:=aF (cL (j8 (fL (eL (mr .tuple (aa 1)))) (bg (e2 cH (cj 1) (ai 3)))) (bu (eC (.bl false))) cU)
 (aF (cL (fL (eL (aG Af 1 (aE (aw 1 (ai 0)))))) (bu (eC (.bl false))) cU)
 (bu (mn (aG Ah 3 (bB (aa 0) (aw 1 (ai 0)) (aw 1 (ai 1)))) (aG Ai 3 (bB (aa 0) (aw 1 (ai 0)) (aw 1 (ai 2)))))))
def Aj:=bX 2 (Ox)
theorem z1f:ae [bn,ce] [bn,ce] (bw (top 32)):=cF
theorem z3w(B:Bt mg)(c40:au P w K mg base 2 "is_many_places" 1 Af)(c34:au P w K mg base 7 "are_ways" 3 Ah)(c33:au P w K mg base 4 "are_begins" 3 Ai)(a:At K mg "is_chart" (top 32) [bn,ce]):au P w K mg base 8 "is_chart" 2 (Aj):=
 au.cz a z1f λ_ _ _ _ _ _ _ hr=>
  aQ (el (jX (nT (jT (iI (p_ .tuple B.ay B.aS Qu (aB 1)))) (oQ (il hr (dX B.aI (ql 1)) aM)))) (aO (bL gS)) ef)
  (aQ (el (jT (iI (aZ c40 hr (ag (aW (ql 1) aM) ah dY)))) (aO (bL gS)) ef)
  (aO (bL (sS (aZ c34 hr (aC 0 (ag (aW (ql 1) aM) (ag (aW (ql 1) aM) ah dY) dY))) (sR (aZ c33 hr (aC 0 (ag (aW (ql 1) aM) (ag (aW (ql 1) aM) ah dY) dY))))))))
abbrev Gv:aK:=aF (cL (lh (bg (e2 cH (aa 10) (aa 4))) (bg (e2 cH (cZ (aw 1 (aw 8 (aa 10))) (aw 7 (aa 10))) (aw 7 (aa 10))))) (bu (eC (.bl false))) cU)
 (cL (lh (bg (e2 cH (aa 10) (aa 4))) (lh (eL (aa 9)) (bg (e2 cH (aw 8 (aa 10)) (aw 7 (aa 10)))))) (bu (eC (.bl false))) cU)
abbrev Gw:aK:=aF (bA 3 (aG rQ 4 (Cw (aa 0) (e2 cC (ai 20) (e2 iX (ai 180) (eB u5 (aE (aa 2))))) (aa 1) (aa 2))))
 (aF (bA 4 (aG dB 3 (bB (aa 0) (e2 cC (ai 400) (eB u5 (aE (aa 2)))) (aw 3 (ai 0)))))
 (aF (cL (bg (e2 uJ (aG dB 3 (bB (aa 0) (e2 cC (ai 410) (eB u5 (aE (aa 2)))) (ai 4))) (ai 0))) (bA 3 (aG xo 6 (MQ (aa 0) (e2 cC (ai 500) (e2 iX (ai 200) (eB u5 (aE (aa 2))))) (aa 1) (aa 3) (aa 4) (aa 2)))) cU)
 (aF (bA 5 (aG tR 3 (bB (aa 1) (aa 3) (aa 4))))
 (aF (cL (j8 (bg (e2 BV (aG Aj 2 (bF (aa 1) (aa 5))) (eC (.bl true)))) (bg (e2 cH (aw 5 (ai 0)) (aw 3 (ai 0))))) (bu (eC (.bl false))) cU)
 (aF (cL (j8 (bg (e2 cH (cQ 1 (b8 (aw 5 (ai 1))) (av 11) (bg (e2 sO (aa 4) (qd (aa 11) rA (qc (ai 2))))) (aa 11) false) (cR gJ))) (bg (e2 cH (cQ 1 (b8 (aw 5 (ai 2))) (av 11) (bg (e2 dG (aw 11 (ai 0)) (aa 4))) (aa 11) false) (cR gJ)))) (bu (eC (.bl false))) cU)
 (aF (bA 6 (aG zX 3 (bB (aa 1) (aa 3) (aa 4))))
 (aF (cL (bg (e2 cH (cR (bF (lJ (aw 5 (ai 1))) (lJ (aw 5 (ai 2))))) (aa 6))) (bu (eC (.bl false))) cU)
 (aF (bA 7 (aG xn 2 (bF (aa 1) (aa 3))))
 (aF (bA 8 (aG xn 2 (bF (aa 1) (aa 5))))
 (aF (bA 9 (e2 dG (cQ 1 (b8 (aw 3 (ai 1))) (av 11) (fL (eL (aG tN 2 (bF (aa 1) (aw 11 (ai 2)))))) (aa 11) false) (cR gJ)))
 (aF (eP (cP (aE (aw 3 (ai 0)))) (av 10) Gv)
 (cL (bg (e2 cH (aG tR 3 (bB (aa 1) (aa 3) (cZ (cR (bF (Ew (ai 1)) (aw 3 (ai 0)))) (aG dB 3 (bB (aa 0) (ai 402) (ai 2)))))) (eC (.str "no place")))) (bu (eC (.bl false))) cU))))))))))))
def Oy:aK:=aF (bA 1 (aG xa 2 (bF (aa 0) (ai 0))))
 (aF (eP (b8 (dF (bF (eC (.bl false)) (eC (.bl true))))) (av 2) Gw)
 (bu (eC (.bl true))))
def vB:=bX 11 (Oy)
theorem oi:ae [bv,bi,jp,ca,db,"_law_less",ww,"_law_old","_law_new",wS,ii] [bv] (bw (top 72)):=cF
abbrev Gx:List Str:=[bv,bi,jp,ca,db,"_law_less",ww,"_law_old","_law_new",wS,ii,"_law_way"]
theorem Oz:(Gx).Nodup:=by decide +kernel
abbrev OA:List Str:=[bv,bi,jp,ca,db,"_law_less",ww,"_law_old","_law_new",wS,"#10",ii]
theorem y76:(OA).Nodup:=by decide +kernel
theorem y9x(B:Bt mg)(c18:au P w K mg base 4 "_law_ladder" 2 xa)(c14:au P w K mg base 5 "_law_chart" 4 rQ)(gM:au P w K mg base 2 "_law_pick" 3 dB)(c28:au P w K mg base 5 "_law_with_round" 6 xo)(OB:au P w K mg base 10 "_law_tried" 3 tR)(c39:au P w K mg base 8 "is_chart" 2 Aj)(c16:au P w K mg base 2 "_law_due" 3 zX)(OC:au P w K mg base 7 "least" 2 xn)(F8:au P w K mg base 1 "_law_spreads" 2 tN)(a:At K mg "_law_once" (top 72) [bv]):au P w K mg base 11 "_law_once" 1 (vB):=
 au.cz a oi λ_ _ _ _ _ _ _ hr=>
  aQ (ck (i:=1) oi.nd (aZ c18 hr (aC 0 (cX ah))))
  (aQ (ij QH rfl (eY (iA (ag gS (ag gS ah nq) nq))) (bG (i:=2) oi.nd) (aQ (ck (i:=3) oi.nd (aZ c14 hr (aC 0 (ag (dQ aM (lg aM (B6 B.ko (aC 2 ah)))) (ag (aJ (qv 1)) (aC 2 ah) bT) eZ))))
  (aQ (ck (i:=4) oi.nd (aZ gM hr (aC 0 (ag (dQ aM (B6 B.ko (aC 2 ah))) (ag (aW (ql 3) aM) ah dY) eZ))))
  (aQ (el (D2 (aZ gM hr (aC 0 (ag (dQ aM (B6 B.ko (aC 2 ah))) (cX ah) eZ))) aM) (aO (ck (i:=3) oi.nd (aZ c28 hr (aC 0 (ag (dQ aM (lg aM (B6 B.ko (aC 2 ah)))) (ag (aJ (qv 1)) (aC 3 (ag (aJ (qv 4)) (aC 2 ah) bT)) bT) eZ))))) ef)
  (aQ (ck (i:=5) oi.nd (aZ OB hr (ag (aJ (qv 1)) (aC 3 (ag (aJ (qv 4)) ah bT)) bT)))
  (aQ (el (jX (nT (Xu (aZ c39 hr (ag (aJ (qv 1)) (aC 5 ah) bT)) gS) (oQ (il hr (aW (ql 5) aM) (aW (ql 3) aM))))) (aO (bL gS)) ef)
  (aQ (el (jX (nT (il hr (gU (k:=1) (N':=Gx) false rfl (eY (aW (ql 5) aM)) (λ_ _ _ _=>bG (i:=11) Oz) (λ_ _ _ _=>me (IY hr (aJ (qv 4)) (yI (aJ (qv 11)) yG (yH aM)))) (λ_ _ _ _=>aJ (qv 11))) (eK ah)) (oQ (il hr (gU (k:=1) (N':=OA) false rfl (eY (aW (ql 5) aM)) (λ_ _ _ _=>bG (i:=11) y76) (λ_ _ _ _=>me (kM hr (aW (qv 11) aM) (aJ (qv 4)))) (λ_ _ _ _=>aJ (qv 11))) (eK ah))))) (aO (bL gS)) ef)
  (aQ (ck (i:=6) oi.nd (aZ c16 hr (ag (aJ (qv 1)) (aC 3 (ag (aJ (qv 4)) ah bT)) bT)))
  (aQ (el (il hr (eK (ag (wX rfl hr B.dR B.jq (aW (ql 5) aM)) (ag (wX rfl hr B.dR B.jq (aW (ql 5) aM)) ah bO) bO)) (aB 6)) (aO (bL gS)) ef)
  (aQ (ck (i:=7) oi.nd (aZ OC hr (ag (aJ (qv 1)) (aC 3 ah) bT)))
  (aQ (ck (i:=8) oi.nd (aZ OC hr (ag (aJ (qv 1)) (aC 5 ah) bT)))
  (aQ (ck (i:=9) oi.nd (IX hr (gU (k:=1) (N':=Gx) false rfl (eY (aW (ql 3) aM)) (λ_ _ _ _=>bG (i:=11) Oz) (λ_ _ _ _=>me (jT (iI (aZ F8 hr (ag (aJ (qv 1)) (ag (aW (qv 11) aM) ah dY) bT))))) (λ_ _ _ _=>aJ (qv 11))) (eK ah)))
  (aQ (ij QH rfl (gz B.aA (ag (aW (ql 3) aM) ah dY)) (bG (i:=10) oi.nd) (aQ (el (jX (sL (il hr (aB 10) (aJ (qv 4))) (uK (il hr (ig (aW (qv 1) (aW (ql 8) (aB 10))) (aW (ql 7) (aB 10))) (aW (ql 7) (aB 10)))))) (aO (bL gS)) ef)
  (aO (el (jX (sL (il hr (aB 10) (aJ (qv 4))) (sL (iI (aB 9)) (uK (il hr (aW (ql 8) (aB 10)) (aW (ql 7) (aB 10))))))) (aO (bL gS)) ef))))
  (aO (el (il hr (aZ OB hr (ag (aJ (qv 1)) (aC 3 (ag (ig (eK (ag (Xv aM) (ag (aW (ql 3) aM) ah dY) W4)) (aZ gM hr (aC 0 (cX (cX ah))))) ah dY)) bT)) oN) (aO (bL gS)) ef)))))))))))))))
  (aO (bL gS)))
abbrev Ak:aK:=aF (cL (fL (eL (aG vB 1 (aE (cQ 1 (b8 (aa 0)) (av 2) cN (e2 cC (aa 2) (e2 iX (ai 7919) (aa 1))) false))))) (bu (eC (.bl false))) cU)
 (cL (bg (e2 dG (aa 0) (cR gJ))) IF cU)
def OE:aK:=aF (eP (cP (aE (ai 3))) (av 1) Ak)
 (bu (eC (.bl true)))
def xt:=bX 2 (OE)
theorem OF:ae [bv,"_law_turn"] [bv] (bw (top 73)):=cF
abbrev OG:List Str:=[bv,"_law_turn","_law_cell_here"]
theorem j2w:(OG).Nodup:=by decide +kernel
theorem j3j(B:Bt mg)(c20:au P w K mg base 11 "_law_once" 1 vB){f:Addr}{fd:FuncData}(F:oM K "law" "law" (top 73) f fd):fz P w K mg base kJ 12 f fd [bv] (ng K 1 xt):=
 j2o (k:=11) F OF λ_ _ _ _ _ _ _ hr=>
  aQ (ij QH rfl (gz B.aA (cX ah)) (bG (i:=1) OF.nd) (aQ (el (jT (iI (aZ c20 hr (ag (gU (k:=1) (N':=OG) false rfl (eY (aB 0)) (λ_ _ _ _=>bG (i:=2) j2w) (λ_ _ _ _=>iC) (λ_ _ _ _=>dQ (aJ (qv 2)) (lg aM (aJ (qv 1))))) ah nY)))) (aO (bL gS)) ef)
  (aO (el (kM hr (aB 0) (eK ah)) (aO We) ef))))
  (aO (bL gS))
end
abbrev bY (ns:List Int):D:=.lst (ns.map D.int)
abbrev n0 (l:List Int):OD:=some (bY l,0)
def CF (ns:List Int)(k:Int):Int:=if k<ns.length then ns.getD k.toNat 0 else if ns=[]then 0 else ns.getD (k % ns.length).toNat 0*31+k
theorem OH{k:Int}(h0:0<=k)(h:k<ns.length):L2.fK (ns.map D.int) k=some (.int (ns.getD k.toNat 0)):=by
 obtain⟨m,rfl⟩:∃ m:Nat,k=Int.ofNat m:=⟨k.toNat,by show k=(k.toNat:Int);omega⟩;have hk:m<ns.length:=by have:(m:Int)<ns.length:=h;omega
 apply zx;rw[Qp,Qc hk];simp[hk]
theorem j8a(ns:List Int):Sh 1 (bY ns):=.lst λd m=>by obtain⟨x,_,rfl⟩:=Qo.mp m;exact .int _
theorem Gy(ns:List Int):dG (bY ns) (.lst [])=some (.bl (decide (ns=[]))):=by unfold dG;rw[Qh ⟨(j8a ns).ok,(zz []).ok⟩];cases ns<;>rfl
theorem j58(ns:List Int)(k:Int)(h0:0<=k):zH [bY ns,.int k]=some (.int (CF ns k),9):=by
 unfold zH MR CF;by_cases h:k<ns.length
 .simp[h,OH h0 h,ip,dJ]
 .by_cases hn:ns=[]
  .subst hn;have h':¬ k<0:=by omega
   simp[h',ip,Gy]
  .have hp:(0:Int)<ns.length:=by have:=YX.mpr hn;omega
   have h1:=VR k (Int.ne_of_gt hp);have h2:=Vc k hp;have h3:=OH h1 h2;have nR:=YX.mpr hn;simp[h,ip,dJ,Gy,hn,nR,h3]
def tT (ns:List Int)(k:Int):Int:=(CF ns k+6151*(k+1))*40692 % 2147483399
def qt (ns:List Int)(k m:Int):Int:=(tT ns k*tT ns k+tT ns k / 31) % 2147483629 % m
theorem Al(ns:List Int)(k m:Int)(h0:0<=k)(hm:0<m):dB [bY ns,.int k,.int m]=some (.int (qt ns k m),9):=by
 have d0:0<=tT ns k:=VR _ (by decide);have d1:tT ns k<2147483399:=Vc _ (by decide);have g1:-18446744073709551616<tT ns k:=by omega
 have g2:tT ns k<18446744073709551616:=by omega
 have hd:(CF ns k+6151*(k+1))*40692 % 2147483399=tT ns k:=rfl;unfold dB MS qt;simp[j58 ns k h0,hm,hd,g1,g2]
theorem xu(ns:List Int)(k:Int){m:Int}(hm:0<m):0<=qt ns k m:=VR _ (Int.ne_of_gt hm)
theorem Am(ns:List Int)(k:Int){m:Int}(hm:0<m):qt ns k m<m:=Vc _ hm
def tf (rows:List (List Nat))(i j:Nat):Nat:=(rows.getD i []).getD j 0
def fQ (rows:List (List Nat)):D:=cD rows.length (tf rows)
def ch (n:Nat):List (List Nat):=(range n).map λi=>(range n).map λj=>max i j
def cp (a b:List (List Nat)):List (List Nat):=(range (a.length*b.length)).map λi=>(range (a.length*b.length)).map λj=>tf a (i / b.length) (j / b.length)*b.length+tf b (i % b.length) (j % b.length)
def sb (n:Nat):List (List Nat):=(range (n+2)).map λi=>(range (n+2)).map λj=>if i=0\/j=0\/i=j then max i j else n+1
def n5:List (List Nat):=[[0,1,2,3,4],[1,1,2,4,4],[2,2,2,4,4],[3,4,4,3,4],[4,4,4,4,4]]
def rR:List (List (List Nat)):=[ch 1,ch 2,ch 3,ch 4,ch 5,cp (ch 2) (ch 2),cp (ch 2) (ch 3),cp (ch 2) (ch 4),sb 0,sb 1,sb 2,sb 3,sb 4,cp (ch 2) (cp (ch 2) (ch 2)),n5]
theorem ch1:lQ [.int 1]=some (fQ (ch 1),1):=by rfl
theorem xw:lQ [.int 2]=some (fQ (ch 2),1):=by rfl
theorem OI:lQ [.int 3]=some (fQ (ch 3),1):=by rfl
theorem OJ:lQ [.int 4]=some (fQ (ch 4),1):=by rfl
theorem ch5:lQ [.int 5]=some (fQ (ch 5),1):=by rfl
theorem sb0:rP [.int 0]=some (fQ (sb 0),0):=by rfl
theorem sb1:rP [.int 1]=some (fQ (sb 1),0):=by rfl
theorem sb2:rP [.int 2]=some (fQ (sb 2),0):=by rfl
theorem sb3:rP [.int 3]=some (fQ (sb 3),0):=by rfl
theorem sb4:rP [.int 4]=some (fQ (sb 4),0):=by rfl
theorem OK:qk [fQ (ch 2),fQ (ch 2)]=some (fQ (cp (ch 2) (ch 2)),0):=by rfl
theorem k2t:qk [fQ (ch 2),fQ (ch 3)]=some (fQ (cp (ch 2) (ch 3)),0):=by rfl
theorem k3j:qk [fQ (ch 2),fQ (ch 4)]=some (fQ (cp (ch 2) (ch 4)),0):=by rfl
theorem k0v:qk [fQ (ch 2),fQ (cp (ch 2) (ch 2))]=some (fQ (cp (ch 2) (cp (ch 2) (ch 2))),0):=by rfl
theorem j5k(ns:List Int)(t:Int)(h0:0<=t):∃ rows∈rR,∃ q,zJ [bY ns,.int t]=some (fQ rows,q):=by
 have k0:=xu ns t (m:=9) (by decide);have k1:=Am ns t (m:=9) (by decide);have p0:=xu ns (t+1) (m:=5) (by decide);have p1:=Am ns (t+1) (m:=5) (by decide);have r0:=xu ns (t+1) (m:=3) (by decide);have r1:=Am ns (t+1) (m:=3) (by decide);have e9:=Al ns t 9 h0 (by decide);have e5:=Al ns (t+1) 5 (by omega) (by decide);have e3:=Al ns (t+1) 3 (by omega) (by decide);have mem:∀ i:Nat,i<15->rR.getD i []∈rR:=λi hi=>by rw[Qi,Qc (show i<rR.length from hi)];exact Q7 _
 have hc:∀ p:Int,0<=p->p<5->∃ rows∈rR,lQ [.int (1+p)]=some (fQ rows,1):=λp a b=>by
  have:p=0\/p=1\/p=2\/p=3\/p=4:=by omega
  rcases this with rfl|rfl|rfl|rfl|rfl
  .exact⟨_,mem 0 (by decide),ch1⟩
  .exact⟨_,mem 1 (by decide),xw⟩
  .exact⟨_,mem 2 (by decide),OI⟩
  .exact⟨_,mem 3 (by decide),OJ⟩
  .exact⟨_,mem 4 (by decide),ch5⟩
 have hs:∀ p:Int,0<=p->p<5->∃ rows∈rR,rP [.int p]=some (fQ rows,0):=λp a b=>by
  have:p=0\/p=1\/p=2\/p=3\/p=4:=by omega
  rcases this with rfl|rfl|rfl|rfl|rfl
  .exact⟨_,mem 8 (by decide),sb0⟩
  .exact⟨_,mem 9 (by decide),sb1⟩
  .exact⟨_,mem 10 (by decide),sb2⟩
  .exact⟨_,mem 11 (by decide),sb3⟩
  .exact⟨_,mem 12 (by decide),sb4⟩
 have hp:∀ r:Int,0<=r->r<3->∃ x pH rows,dJ (.lst [.int 2,.int 3,.int 4]) r=some (.int x)/\lQ [.int x]=some (fQ pH,1)/\rows∈rR/\qk [fQ (ch 2),fQ pH]=some (fQ rows,0):=λr a b=>by
  have:r=0\/r=1\/r=2:=by omega
  rcases this with rfl|rfl|rfl
  .exact⟨2,_,_,rfl,xw,mem 5 (by decide),OK⟩
  .exact⟨3,_,_,rfl,OI,mem 6 (by decide),k2t⟩
  .exact⟨4,_,_,rfl,OJ,mem 7 (by decide),k3j⟩
 unfold zJ MW;generalize qt ns t 9=k at *
 generalize qt ns (t+1) 5=p at *
 generalize qt ns (t+1) 3=r at *
 have lt:∀ c:Int,bg (e2 oP (aa 2) (ai c)) [n0 ns,some (.int t,9),some (.int k,9),none]=some (decide (k<c),[n0 ns,some (.int t,9),some (.int k,9),none]):=λc=>eH (cI (q:=9) (q':=9) rfl rfl rfl);have f:∀ {c:Int} {x:aK},¬ k<c->cL (bg (e2 oP (aa 2) (ai c))) x cU [n0 ns,some (.int t,9),some (.int k,9),none]=some (.nx [n0 ns,some (.int t,9),some (.int k,9),none]):=λ{c x} h=>(iu ((lt c).trans (by rw[QF h]))).trans rfl;have s2:∀ {k:Int},dB [bY ns,.int t,.int 9]=some (.int k,9)->bA 2 (aG dB 3 (bB (aa 0) (aa 1) (ai 9))) [n0 ns,some (.int t,9),none,none]=some (.nx [n0 ns,some (.int t,9),some (.int k,9),none]):=λe=>dw (bp (ds:=[bY ns,.int t,.int 9]) rfl rfl e) rfl;have tt:∀ {c:Int},k<c->bg (e2 oP (aa 2) (ai c)) [n0 ns,some (.int t,9),some (.int k,9),none]=some (true,[n0 ns,some (.int t,9),some (.int k,9),none]):=λ{c} h=>(lt c).trans (by rw[Qr h]);by_cases h3:k<3
 .obtain⟨rows,hm,e⟩:=hc p p0 p1;exact⟨rows,hm,1,dh ((aR (s2 e9)).trans (qg ((nu (tt h3)).trans (fg (bp (ds:=[.int (1+p)]) (bS (cI (q:=9) rfl (bp (ds:=[bY ns,.int (t+1),.int 5]) rfl rfl e5) rfl)) rfl e)))))⟩
 by_cases h5:k<5
 .obtain⟨x,pH,rows,ea,e1,hm,oX⟩:=hp r r0 r1;have ei:cZ (cR (bB (ai 2) (ai 3) (ai 4))) (aG dB 3 (bB (aa 0) (e2 cC (aa 1) (ai 1)) (ai 3))) [n0 ns,some (.int t,9),some (.int k,9),none]=some (.int x,9,[n0 ns,some (.int t,9),some (.int k,9),none]):=by have ek:=bp (F:=dB) (n:=3) (g:=bB (aa 0) (e2 cC (aa 1) (ai 1)) (ai 3)) (ρ:=[n0 ns,some (.int t,9),some (.int k,9),none]) (ds:=[bY ns,.int (t+1),.int 3]) rfl rfl e3;unfold cZ;rw[show cR (bB (ai 2) (ai 3) (ai 4)) [n0 ns,some (.int t,9),some (.int k,9),none]=some (.lst [.int 2,.int 3,.int 4],1,[n0 ns,some (.int t,9),some (.int k,9),none])from rfl];simp only[ek,ea];rfl
  exact⟨rows,hm,0,dh ((aR (s2 e9)).trans ((aR (f h3)).trans (qg ((nu (tt h5)).trans (fg (bp (b7 (bp (ds:=[.int 2]) rfl rfl xw) (bS (bp (bS ei) rfl e1))) rfl oX))))))⟩
 by_cases h7:k<7
 .obtain⟨rows,hm,e⟩:=hs p p0 p1;exact⟨rows,hm,0,dh ((aR (s2 e9)).trans ((aR (f h3)).trans ((aR (f h5)).trans (qg ((nu (tt h7)).trans (fg (bp (bS (bp (ds:=[bY ns,.int (t+1),.int 5]) rfl rfl e5)) rfl e)))))))⟩
 have:k=7\/k=8:=by omega
 rcases this with rfl|rfl
 .exact⟨_,mem 13 (by decide),0,dh ((aR (s2 e9)).trans ((aR (f h3)).trans ((aR (f h5)).trans ((aR (f h7)).trans (qg ((nu ((eH (cI (q:=9) (q':=9) rfl rfl (Mr 7 7))).trans rfl)).trans (fg (bp (b7 (bp (ds:=[.int 2]) rfl rfl xw) (bS (bp (b7 (bp (ds:=[.int 2]) rfl rfl xw) (bS (bp (ds:=[.int 2]) rfl rfl xw))) rfl OK))) rfl k0v))))))))⟩
 .exact⟨_,mem 14 (by decide),0,dh ((aR (s2 e9)).trans ((aR (f h3)).trans ((aR (f h5)).trans ((aR (f h7)).trans ((aR ((iu ((eH (cI (q:=9) (q':=9) rfl rfl (Mr 8 7))).trans rfl)).trans rfl)).trans rfl)))))⟩
theorem j03:∀ rows∈rR,FV rows.length (tf rows)=true:=by decide +kernel
def pk (ns:List Int)(t:Int)(k m:Nat):Nat:=(qt ns (t+2+Int.ofNat k) (Int.ofNat m)).toNat
theorem Gz(ns:List Int)(t:Int)(k m:Nat)(h:0<m):pk ns t k m<m:=by have h1:=xu ns (t+2+Int.ofNat k) (m:=Int.ofNat m) (by show(0:Int)<m;omega);have h2:=Am ns (t+2+Int.ofNat k) (m:=Int.ofNat m) (by show(0:Int)<m;omega);have h3:(Int.ofNat m)=(m:Int):=rfl;unfold pk;omega
theorem k0w(ns:List Int)(t:Int)(k m:Nat)(h:0<m):qt ns (t+2+Int.ofNat k) (Int.ofNat m)=Int.ofNat (pk ns t k m):=by have h1:=xu ns (t+2+Int.ofNat k) (m:=Int.ofNat m) (by show(0:Int)<m;omega);unfold pk;show _=((qt ns (t+2+Int.ofNat k) (Int.ofNat m)).toNat:Int);omega
section
variable (ns:List Int)(t:Int)(n:Nat)(B:Nat->Nat->Nat)(q:Nat)
theorem z94(h0:0<=t)(hn:n<=16):j9 1 (av 8) cN (yw 3 (aE (aG dB 3 (bB (aa 0) (e2 cC (e2 cC (aa 1) (ai 2)) (aa 8)) (cj 3))))) false (cM n)
  [n0 ns,some (.int t,9),some (cD n B,q),some (.lst (cM n),1),none,none,none,none] =
  some (aq ((range n).map (drawn (pk ns t) n)),[n0 ns,some (.int t,9),some (cD n B,q),some (.lst [],1),none,none,none,none]):=by
 have hp:=Gz ns t;have h:=rM (k:=1) (pt:=av 8) (tt:=cN) (te:=yw 3 (aE (aG dB 3 (bB (aa 0) (e2 cC (e2 cC (aa 1) (ai 2)) (aa 8)) (cj 3))))) (deep:=false) (cM n)
  (λk=>[n0 ns,some (.int t,9),some (cD n B,q),uL (b_ (pk ns t) n k),none,none,none,none]) (λ_=>true) (λk=>(iD (drawn (pk ns t) n k))) (λk hk=>?_)
 .rw[fM]at h;have hl:b_ (pk ns t) n n=[]:=ZQ.mp (by rw[zA hp n (Qj n)];omega);rw[hl]at h;have e1:(range n).filter (λ_=>true)=range n:=by simp
  rw[e1]at h;simp only[aq,QO,JM];exact h
 .rw[fM]at hk;have hl:=zA hp k (Jx hk);have OL:0<(b_ (pk ns t) n k).length:=by rw[hl];omega
  have e:=k0w ns t k _ OL;have hj:=Gz ns t k _ OL;have CG:=Al ns (t+2+Int.ofNat k) (Int.ofNat (b_ (pk ns t) n k).length) (by show 0<=t+2+(k:Int);omega) (by show(0:Int)<((b_ (pk ns t) n k).length:Int);omega);have hs:seqIndex? (Int.ofNat (pk ns t k (b_ (pk ns t) n k).length)) (aq (b_ (pk ns t) n k)).length=some (pk ns t k (b_ (pk ns t) n k).length):=(Di (Cq (by rw[fP];exact hj))).1;have hg:(aq (b_ (pk ns t) n k))[pk ns t k (b_ (pk ns t) n k).length]? = some (iD (drawn (pk ns t) n k)):=by rw[Cp];unfold drawn;rw[Qi,Qc hj];rfl
  have hb:pk ns t k (b_ (pk ns t) n k).length<=16:=by omega
  have he:(aq (b_ (pk ns t) n k)).eraseIdx (pk ns t k (b_ (pk ns t) n k).length)=aq (b_ (pk ns t) n (k+1)):=by rw[b_,Mt]
  refine⟨[n0 ns,some (.int t,9),some (cD n B,q),uL (b_ (pk ns t) n k),none,none,none,none,i9 k],_,by simp[cM],rfl,?_⟩;rw[Qh rfl];refine⟨9,[n0 ns,some (.int t,9),some (cD n B,q),uL (b_ (pk ns t) n (k+1)),none,none,none,none,i9 k],?_,by simp,by simp⟩;have b1:(-1000:Int)<=Int.ofNat (pk ns t k (b_ (pk ns t) n k).length):=by show(-1000:Int)<=(pk ns t k (b_ (pk ns t) n k).length:Int);omega
  have b2:Int.ofNat (pk ns t k (b_ (pk ns t) n k).length)<=1000:=by show(pk ns t k (b_ (pk ns t) n k).length:Int)<=1000;omega
  have oz:ip (.lst (aq (b_ (pk ns t) n k)))=some (b_ (pk ns t) n k).length:=by simp[ip,fP]
  rw[e]at CG;simp[-ofNat_eq_natCast,oz,CG,hs,hg,he,b1,b2]
theorem j4j(hn:n<=16)(x:OD):j9 1 (av 8) cN (nX (cR (aE (ai 0))) (cj 2)) true ((range n).map λi=>f_ n B i)
  [n0 ns,some (.int t,9),some (cD n B,0),some (.lst [],1),x,none,none,none] =
  some ((range n).map λi=>f_ n (λ_ _=>0) i,[n0 ns,some (.int t,9),some (cD n B,0),some (.lst [],1),x,none,none,none]):=by
 have h:=rM (k:=1) (pt:=av 8) (tt:=cN) (te:=nX (cR (aE (ai 0))) (cj 2)) (deep:=true) ((range n).map λi=>f_ n B i)
  (λ_=>[n0 ns,some (.int t,9),some (cD n B,0),some (.lst [],1),x,none,none,none]) (λ_=>true) (λi=>f_ n (λ_ _=>0) i) (λk hk=>?_)
 .rw[Qb,QK,show(range n).filter (λ_=>true)=range n by simp]at h;exact h
 .refine⟨[n0 ns,some (.int t,9),some (cD n B,0),some (.lst [],1),x,none,none,none,some (f_ n B k,0)],_,by simp[f_],rfl,?_⟩;rw[Qh rfl];refine⟨1,[n0 ns,some (.int t,9),some (cD n B,0),some (.lst [],1),x,none,none,none,some (f_ n B k,0)],?_,by simp,by simp⟩;have z:f_ n (λ_ _=>0) k=D.lst (replicate n [D.int 0]).flatten:=(k1y n).symm;have b1:(-1000:Int)<=n:=by omega
  have b2:(n:Int)<=1000:=by omega
  have b3:n<=1000:=by omega
  rw[z];simp[zy,b1,b2,b3]
def iZ (π ι:Nat->Nat)(i j a b:Nat):Nat:=if ι a<i\/(ι a=i/\ι b<j)then π (B (ι a) (ι b))else 0
abbrev vC:aK:=yA 5 (uT 4 (uS 6)) (uT 4 (uS 7)) (aw 4 (cZ (aw 2 (aa 6)) (aa 7)))
section
variable {n B}{π ι:Nat->Nat}(cl:∀ i j,i<n->j<n->B i j<n)(h1:∀ i,i<n->π i<n)(h2:∀ i,i<n->ι i<n)(h3:∀ i,i<n->ι (π i)=i)(h4:∀ i,i<n->π (ι i)=i)
include cl h1 h2 h3 h4
theorem z52(hi:i<n)(hj:j<n){y:OD} :
  vC [n0 ns,some (.int t,9),some (cD n B,0),some (.lst [],1),uL ((range n).map π),some (cD n f,2),i9 i,i9 j] =
  some (.nx [n0 ns,some (.int t,9),some (cD n B,0),some (.lst [],1),uL ((range n).map π),some (cD n (λa b=>if a=π i/\b=π j then π (B i j)else f a b),2),i9 i,i9 j]):=by
 have a1:=j5e (f:=B) hi;have a2:=j3d (f:=B) (i:=i) hj;have a3:dJ (.lst (aq ((range n).map π))) (Int.ofNat (B i j))=some (iD (π (B i j))):=vk (cl i j hi hj);have a4:dJ (.lst (aq ((range n).map π))) (Int.ofNat i)=some (iD (π i)):=vk hi;have a5:dJ (.lst (aq ((range n).map π))) (Int.ofNat j)=some (iD (π j)):=vk hj;have a6:k9 ((range n).map λa=>f_ n f a).length (Int.ofNat (π i))=some (π i):=Cq (by simpa using h1 i hi);have a7:((range n).map λa=>f_ n f a)[π i]? = some (.lst (aq ((range n).map λb=>f (π i) b))):=by rw[Qp,Za (h1 i hi)];rfl
 have a8:k9 (aq ((range n).map λb=>f (π i) b)).length (Int.ofNat (π j))=some (π j):=Cq (by simpa [fP]using h1 j hj);have a9:=j11 (n:=n) (f:=f) (a:=π i) (b:=π j) (v:=π (B i j));rw[<- a9];show vC [n0 ns,some (.int t,9),some (cD n B,0),some (.lst [],1),uL ((range n).map π),some (.lst ((range n).map λa=>f_ n f a),2),i9 i,i9 j]=_;unfold vC;simp only[yA,aw,cZ,aa,uT,uS,Zl,List.getElem?_cons_zero,D.df,ZE,a1,a2,a3,a4,a5,a6,a7,a8,ne_eq,not_true_eq_false,false_and,and_false,Zm,Qs,reduceCtorEq,Ze,QW,dP,List.set_cons_succ,List.set_cons_zero]
abbrev mJ (f:Nat->Nat->Nat)(x y:OD:=none):a_:=[n0 ns,some (.int t,9),some (cD n B,0),some (.lst [],1),uL ((range n).map π),some (cD n f,2),x,y]
omit cl h1 h2 h3 h4
theorem rS(h:i<(cM n).length):(cM n)[i]=(iD i):=by simp[cM]
include cl h1 h2 h3 h4
theorem j0g(hi:i<n)(hj:j<n):cD n (λa b=>if a=π i/\b=π j then π (B i j)else iZ B π ι i j a b)=cD n (iZ B π ι i (j+1)):=by
 refine Cr λa b ha hb=>?_;unfold iZ;by_cases h:a=π i/\b=π j
 .obtain⟨rfl,rfl⟩:=h;rw[Qh ⟨rfl,rfl⟩,h3 i hi,h3 j hj,Qh (.inr ⟨rfl,ZP _⟩)]
 .rw[Ql h];have:¬ (ι a=i/\ι b=j):=λ⟨e1,e2⟩=>h ⟨by rw[<- e1,h4 a ha],by rw[<- e2,h4 b hb]⟩;by_cases c:ι a<i\/ι a=i/\ι b<j
  .rw[Qh c,Qh (by omega)]
  .rw[Ql c,Ql (by omega)]
theorem j2r:cD n (iZ B π ι i n)=cD n (iZ B π ι (i+1) 0):=by
 refine Cr λa b ha hb=>?_;have:=h2 b hb;unfold iZ;by_cases c:ι a<i\/ι a=i/\ι b<n
 .rw[Qh c,Qh (by omega)]
 .rw[Ql c,Ql (by omega)]
theorem z82(hn:n<=16)(hi:i<n)(y:OD):∃ y',fY (av 7) vC (cM n) (mJ ns t (n:=n) (B:=B) (π:=π) (iZ B π ι i 0) ((i9 i)) y) =
  some (.nx (mJ ns t (n:=n) (B:=B) (π:=π) (iZ B π ι (i+1) 0) ((i9 i)) y')):=by
 obtain⟨am,e,y',rfl⟩:=kh (pt:=av 7) (body:=vC) (cM n) (λj ρ=>∃ y,ρ=mJ ns t (n:=n) (B:=B) (π:=π) (iZ B π ι i j) ((i9 i)) y) (mJ ns t (n:=n) (B:=B) (π:=π) (iZ B π ι i 0) ((i9 i)) y) (λj hj ρ aj=>by obtain⟨y,hy⟩:=aj;subst hy;rw[fM]at hj;refine⟨mJ ns t (n:=n) (B:=B) (π:=π) (iZ B π ι i j) ((i9 i)) ((i9 j)),_,by rw[rS];simp,.inl (z52 ns t cl h1 h2 h3 h4 hi hj (y:=none)),?_⟩;rw[j0g cl h1 h2 h3 h4 hi hj];exact⟨_,rfl⟩) ⟨y,rfl⟩
 refine⟨y',?_⟩;rw[e,fM];show some (Out.nx [_,_,_,_,_,some (cD n (iZ B π ι i n),2),_,_])=_;rw[j2r cl h1 h2 h3 h4]
theorem z93(hn:n<=16)(x y:OD):∃ x' y',fY (av 6) (eP (cP (aE (cj 2))) (av 7) vC) (cM n) (mJ ns t (n:=n) (B:=B) (π:=π) (λ_ _=>0) x y) =
  some (.nx (mJ ns t (n:=n) (B:=B) (π:=π) (λa b=>π (B (ι a) (ι b))) x' y')):=by
 have z:cD n (λ_ _=>0)=cD n (iZ B π ι 0 0):=Cr λa b _ _=>by unfold iZ;rw[Ql (by omega)]
 have z':cD n (iZ B π ι n 0)=cD n (λa b=>π (B (ι a) (ι b))):=Cr λa b ha _=>by unfold iZ;rw[Qh (.inl (h2 a ha))]
 obtain⟨am,e,x',y',rfl⟩:=kh (pt:=av 6) (body:=eP (cP (aE (cj 2))) (av 7) vC) (cM n) (λi ρ=>∃ x y,ρ=mJ ns t (n:=n) (B:=B) (π:=π) (iZ B π ι i 0) x y) (mJ ns t (n:=n) (B:=B) (π:=π) (iZ B π ι 0 0) x y) (λi hi ρ aj=>by
  obtain⟨x,y,hy⟩:=aj;subst hy;rw[fM]at hi;obtain⟨y',ir⟩:=z82 ns t cl h1 h2 h3 h4 hn hi y;refine⟨mJ ns t (n:=n) (B:=B) (π:=π) (iZ B π ι i 0) ((i9 i)) y,_,by rw[rS];simp,.inl (show _=some (Out.nx (mJ ns t (n:=n) (B:=B) (π:=π) (iZ B π ι (i+1) 0) ((i9 i)) y'))from ?_),⟨_,_,rfl⟩⟩;have b1:(-1000:Int)<=Int.ofNat n:=by show(-1000:Int)<=n;omega
  have b2:Int.ofNat n<=1000:=by show(n:Int)<=1000;omega
  have e:cP (aE (cj 2)) (mJ ns t (n:=n) (B:=B) (π:=π) (iZ B π ι i 0) ((i9 i)) y)=some (cM n,mJ ns t (n:=n) (B:=B) (π:=π) (iZ B π ι i 0) ((i9 i)) y):=by simp[-ofNat_eq_natCast,zy,b1,b2];rfl
  unfold eP;rw[e];exact ir) ⟨x,y,rfl⟩
 refine⟨x',y',?_⟩;show fY _ _ _ [_,_,_,_,_,some (cD n (λ_ _=>0),2),_,_]=some (.nx [_,_,_,_,_,some (cD n (λa b=>π (B (ι a) (ι b))),2),_,_]);rw[z,<- z'];rw[fM]at e;exact e
end
end
theorem z96{a b c d e:OD}{x y:OD}:j9 1 (av 8) cN (iE (aE (aa 8))) false ((range n).map λi=>f_ n f i) [a,b,c,d,e,some (cD n f,0),x,y] =
  some ((range n).map λi=>ny n f i,[a,b,c,d,e,some (cD n f,0),x,y]):=by
 have h:=rM (k:=1) (pt:=av 8) (tt:=cN) (te:=iE (aE (aa 8))) (deep:=false) ((range n).map λi=>f_ n f i)
  (λ_=>[a,b,c,d,e,some (cD n f,0),x,y]) (λ_=>true) (λi=>ny n f i) (λk hk=>?_)
 .rw[Qb,QK,show(range n).filter (λ_=>true)=range n by simp]at h;exact h
 .refine⟨[a,b,c,d,e,some (cD n f,0),x,y,some (f_ n f k,0)],_,by simp[f_],rfl,?_⟩;rw[Qh rfl];exact⟨9,[a,b,c,d,e,some (cD n f,0),x,y,some (f_ n f k,0)],by simp[f_,ny],by simp,by simp⟩
theorem kr(hn:n<=1000)(h:ρ[i]? = some (some (d,q)))(hl:ip d=some n):cP (aE (cj i)) ρ=some (cM n,ρ):=by
 have b1:(-1000:Int)<=Int.ofNat n:=by show(-1000:Int)<=n;omega
 have b2:Int.ofNat n<=1000:=by show(n:Int)<=1000;omega
 simp only[cP,fq,cj,gJ,h,hl];rw[Qh ⟨b1,b2⟩];rfl
theorem j4w:∀ rows∈rR,rows.length<=8:=by decide +kernel
theorem j4p(ns:List Int)(t:Int)(h0:0<=t):∃ n f,bq n f/\n<=8/\xa [bY ns,.int t]=(t9 n f):=by
 obtain⟨rows,hm,q,hb⟩:=j5k ns t h0;have L:=j5o (j03 rows hm);have h8:=j4w rows hm;unfold fQ at hb;revert hb L h8;generalize rows.length=n;generalize tf rows=B;intro hb L h8;have hp:=Gz ns t;have hn:n<=1000:=Qw L.hi (by decide);refine⟨n,λa b=>drawn (pk ns t) n (B (mC (pk ns t) n a) (mC (pk ns t) n b)),L.ren (λi hi=>Mw hp hi) (λi hi=>Mx hp hi) (λi hi=>MA hp hi) (λi hi=>Mz hp hi),h8,?_⟩;unfold xa MX;refine dh ?_;have s0:nU 8 [bY ns,.int t]=[n0 ns,some (.int t,9),none,none,none,none,none,none]:=rfl;rw[s0];refine(aR (ac:=[n0 ns,some (.int t,9),some (cD n B,q),none,none,none,none,none]) ?_).trans ?_
 .simp[hb]
 refine(aR (ac:=[n0 ns,some (.int t,9),some (cD n B,q),some (.lst (cM n),1),none,none,none,none]) ?_).trans ?_
 .exact dw (FL (kr hn rfl zy)) rfl
 refine(aR (ac:=[n0 ns,some (.int t,9),some (cD n B,q),some (.lst [],1),uL ((range n).map (drawn (pk ns t) n)),none,none,none]) ?_).trans ?_
 .exact dw (e_ (kr hn rfl zy) (z94 ns t n B q h0 L.hi)) rfl
 refine(aR (ac:=[n0 ns,some (.int t,9),some (cD n B,0),some (.lst [],1),uL ((range n).map (drawn (pk ns t) n)),some (cD n (λ_ _=>0),2),none,none]) ?_).trans ?_
 .have e:b8 (aa 2) [n0 ns,some (.int t,9),some (cD n B,q),some (.lst [],1),uL ((range n).map (drawn (pk ns t) n)),none,none,none]=some ((range n).map λi=>f_ n B i,[n0 ns,some (.int t,9),some (cD n B,0),some (.lst [],1),uL ((range n).map (drawn (pk ns t) n)),none,none,none]):=by
   by_cases hq:q=0
   .subst hq;simp[cD,hn]
   .simp[cD,hn,hq]
  exact dw (e_ e (j4j ns t n B L.hi _)) rfl
 obtain⟨x',y',hf⟩:=z93 ns t (n:=n) (B:=B) (π:=drawn (pk ns t) n) (ι:=mC (pk ns t) n) L.cl (λi hi=>Mw hp hi) (λi hi=>Mx hp hi) (λi hi=>MA hp hi) (λi hi=>Mz hp hi) L.hi none none;refine(aR ((iF (kr hn rfl zy)).trans hf)).trans ?_;refine fg (ac:=[n0 ns,some (.int t,9),some (cD n B,0),some (.lst [],1),uL ((range n).map (drawn (pk ns t) n)),some (cD n (λa b=>drawn (pk ns t) n (B (mC (pk ns t) n a) (mC (pk ns t) n b))),0),x',y']) ?_;have e:b8 (aa 5) (mJ ns t (n:=n) (B:=B) (π:=drawn (pk ns t) n) (λa b=>drawn (pk ns t) n (B (mC (pk ns t) n a) (mC (pk ns t) n b))) x' y')=some ((range n).map λi=>f_ n (λa b=>drawn (pk ns t) n (B (mC (pk ns t) n a) (mC (pk ns t) n b))) i,[n0 ns,some (.int t,9),some (cD n B,0),some (.lst [],1),uL ((range n).map (drawn (pk ns t) n)),some (cD n (λa b=>drawn (pk ns t) n (B (mC (pk ns t) n a) (mC (pk ns t) n b))),0),x',y']):=by simp[cD,hn]
 have e2:=e_ (k:=1) (pt:=av 8) (tt:=cN) (te:=iE (aE (aa 8))) (deep:=false) e z96;exact nv (bS e2)
theorem j6f(ns:List Int)(t:Int)(h0:0<=t):∃ n f,bq n f/\xa [bY ns,.int t]=(t9 n f):=by obtain⟨n,f,L,_,e⟩:=j4p ns t h0;exact⟨n,f,L,e⟩
theorem OM(v:Nat)(l:List Nat):inD (iD v) (.lst (aq l))=some (decide (v∈l)):=by
 show some ((eG (aq l)).any λy=>PyData.eqv y (b6 (iD v)))=_;congr 1;induction l with
 | nil=>rfl
 | cons a l ih=>
  have h1:(eG (aq (a::l)))=b6 (iD a)::eG (aq l):=rfl;rw[h1,Ue,ih];have h2:PyData.eqv (b6 (iD a)) (b6 (iD v))=decide (a=v):=FU a v;rw[h2];by_cases h:a=v
  .simp[h]
  .have h':¬ v=a:=λq=>h q.symm;simp[h,h']
theorem z9m{x:D×Nat}(h:ρ[i]? = some (some x)):ρ.set i (some x)=ρ:=by
 apply Zp;intro k;by_cases hk:i=k
 .subst hk;rw[h,QN (Qy.mp h).1]
 .rw[QP hk]
theorem mK(h:ρ[i]? = some (some (.lst ds,q))):aa i ρ=some (.lst ds,0,ρ.set i (some (.lst ds,0))):=by
 unfold aa;rw[h];by_cases hq:q=0
 .subst hq;rw[z9m h];rfl
 .simp[hq]
theorem GA{g h:cS}(e:g ρ=some (false,ac)):j8 g h ρ=h ac:=by unfold j8;rw[e];rfl
theorem An{g:cS}{b:Bool}(e:g ρ=some (b,ac)):fL g ρ=some (!b,ac):=by unfold fL;rw[e]
theorem oo{f:aN}{b:Bool}(h:f ρ=some (.bl b,q,ac)):eL f ρ=some (b,ac):=by unfold eL;rw[h];cases b<;>rfl
theorem xx(h:ρ[i]? = some (some (d,q)))(hl:ip d=some n):cj i ρ=some ((iD n),9,ρ):=by unfold cj;rw[h];simp only[hl]
theorem j9l(h:ρ[i]? = some (some (d,q)))(hd:d.df=false):aa i ρ=some (d,9,ρ):=by unfold aa;rw[h];simp[hd]
theorem oq{x:D}{b:aN}{k:Int}(hb:b ρ=some (.int k,q',ρ))(h:ρ[i]? = some (some (x,q)))(ha:dJ x k=some d)(hd:d.df=false):aw i b ρ=some (d,9,ρ):=by unfold aw;rw[h];simp only[hb,h,ha,hd,dP];simp
theorem CH{x:D}{a b:aN}{k:Int}(h:a ρ=some (x,q,ac))(hb:b ac=some (.int k,q',ap))(ha:dJ x k=some d)(hx:x.df=false)(hd:d.df=false):cZ a b ρ=some (d,9,ap):=by unfold cZ;rw[h];simp only[hb,ha,hd,hx,dP];simp
theorem kT(ns:List Int){c:Int}(hc:0<=c)(hn:0<n):∃ v,v<n/\dB [bY ns,.int c,iD n]=(i9 v):=by
 have GC:(0:Int)<Int.ofNat n:=by show(0:Int)<(n:Int);omega
 have h1:=xu ns c GC;have h2:=Am ns c GC;have h3:Int.ofNat n=(n:Int):=rfl;obtain⟨v,hv⟩:=Int.eq_ofNat_of_zero_le h1;refine⟨v,by rw[hv,h3]at h2;omega,?_⟩;rw[Al ns c _ hc GC,hv];rfl
section
variable {n:Nat}{f:Nat->Nat->Nat}
theorem CI{x w:Nat}(hx:x<n)(hw:w<n):oh [aT n f,iD x,iD w]=(b9 (decide (f x w=w))):=by unfold oh Np;simp[-ofNat_eq_natCast,lK hx,mB hw,pq]
theorem u6(hn:n<=1000){w:Nat}(hw:w<n):tO [aT n f,iD w]=(uL ((range n).filter λx=>decide (f x w=w))):=by
 unfold tO Nq;refine dh (fg (e_ (deep:=false) (ap:=[t9 n f,i9 w]) (kr hn rfl iN) ?_));refine vm (i:=2) (ρ:=[t9 n f,i9 w]) (deep:=false) rfl (λx=>decide (f x w=w)) (λx=>(iD x)) (λ_=>9) (λj hj=>?_) (λj hj _=>?_)
 .simp[-ofNat_eq_natCast,CI hj hw]
 .simp[-ofNat_eq_natCast]
theorem z8p(hn:n<=1000){w:Nat}(hw:w<n):vt [aT n f,iD w]=(uL ((range n).filter λx=>decide (f x w=w))):=by
 unfold vt M4;refine dh (fg (e_ (deep:=false) (ap:=[t9 n f,i9 w]) (kr hn rfl iN) ?_));refine vm (i:=2) (ρ:=[t9 n f,i9 w]) (deep:=false) rfl (λx=>decide (f x w=w)) (λx=>(iD x)) (λ_=>9) (λj hj=>?_) (λj hj _=>?_)
 .simp[-ofNat_eq_natCast,lK hj,mB hw,pq]
 .simp[-ofNat_eq_natCast]
variable (L:bq n f){z:Nat}(hz:z<n)(bz:∀ j,j<n->f z j=j)
include L hz bz
theorem ON{w:Nat}(hw:w<n):decide ((range n).map (λj=>f w j)=range n)=decide (w=z):=by rw[ZR,y8m];exact⟨λh=>L.pz hz bz hw h,λh=>by subst h;exact bz⟩
theorem CJ(hn:n<=1000):nF [aT n f]=(i9 z):=by
 unfold nF M0;refine dh (fg (ac:=[t9 n f]) ?_);have hc:cQ 1 (cP (aE (cj 0))) (av 1) (bg (e2 dG (yt (aE (aw 0 (aa 1)))) (q9 (aE (cj 0))))) (aa 1) false (nU 1 [aT n f])=some (.lst (aq [z]),1,[t9 n f]):=by
  refine(e_ (deep:=false) (ap:=[t9 n f]) (kr hn rfl iN) (vm rfl (λx=>decide (x=z)) (λx=>(iD x)) (λ_=>9) (λj hj=>?_) (λj hj _=>?_))).trans ?_
  .have e1:yt (aE (aw 0 (aa 1))) ([t9 n f]++[i9 j])=some (.lst (aq ((range n).map λk=>f j k)),1,[t9 n f,i9 j]):=by simp[-ofNat_eq_natCast,lK hj,ny]
   have oX:q9 (aE (cj 0)) [t9 n f,i9 j]=some (.lst (aq (range n)),1,[t9 n f,i9 j]):=FL (kr hn rfl iN);unfold bg e2;rw[e1];simp only[oX,Mq,ON L hz bz hj];rfl
  .simp[-ofNat_eq_natCast]
  .rw[MB,Qh hz];rfl
 unfold cZ;rw[hc];simp[-ofNat_eq_natCast,dJ,aq,L2.fK,k9]
theorem j5p(hn:n<=1000)(hl:l.length<=1000)(hm:∀ x∈l,x<n):xf [aT n f,.lst (aq l)]=(i9 (l.foldl f z)):=by
 unfold xf M3;refine dh ?_;refine(aR (ac:=[t9 n f,some (.lst (aq l),0),i9 z,none]) ?_).trans ?_
 .simp[-ofNat_eq_natCast,CJ L hz bz hn]
 obtain⟨am,e,y,rfl⟩:=kh (pt:=av 3) (body:=bA 2 (cZ (aw 0 (aa 2)) (aa 3))) (aq l) (λi ρ=>∃ y,ρ=[t9 n f,some (.lst (aq l),0),i9 ((l.take i).foldl f z),y]) [t9 n f,some (.lst (aq l),0),i9 z,none] (λi hi ρ aj=>by
  obtain⟨y,hy⟩:=aj;subst hy;have bW:i<l.length:=by rw[fP]at hi;exact hi
  have hg:(aq l)[i]=.int (Int.ofNat l[i]):=by simp[aq]
  have hx:l[i]<n:=hm _ (Q7 bW);have ha:(l.take i).foldl f z<n:=L.fold_lt hz λx m=>hm x (YK m);refine⟨[t9 n f,some (.lst (aq l),0),i9 ((l.take i).foldl f z),some (.int (Int.ofNat l[i]),9)],[t9 n f,some (.lst (aq l),0),i9 ((l.take (i+1)).foldl f z),some (.int (Int.ofNat l[i]),9)],?_,.inl ?_,⟨_,rfl⟩⟩
  .rw[hg];simp
  .rw[List.take_succ_eq_append_getElem bW,List.foldl_append];simp[-ofNat_eq_natCast,lK ha,mB hx]) ⟨none,rfl⟩
 rw[fP,Jc]at e;refine(aR ((iF (ds:=aq l) (ac:=[t9 n f,some (.lst (aq l),0),i9 z,none]) ?_).trans e)).trans ?_
 .simp[fP,hl]
 .simp[-ofNat_eq_natCast]
end
section
variable {n:Nat}{f:Nat->Nat->Nat}
variable (L:bq n f){z:Nat}(hz:z<n)(bz:∀ j,j<n->f z j=j)
include L hz bz
theorem GD(hn:n<=1000):qq [aT n f]=(i9 z):=by
 have b1:(-1000:Int)<=Int.ofNat n:=by show(-1000:Int)<=n;omega
 have b2:Int.ofNat n<=1000:=by show(n:Int)<=1000;omega
 have hr:zS [iD n]=(v9 (range n)):=by unfold zS NA;simp[-ofNat_eq_natCast,b1,b2];rfl
 have hi:wD (.tup (aq (range n))) ((range n).map λi=>ny n f i)=some z:=by
  unfold wD;rw[Mi,QO];have ev:∀ i,i<n->PyData.eqv (b6 (ny n f i)) (b6 (.tup (aq (range n))))=decide (i=z):=λi hi=>(Mp _ _).trans (ON L hz bz hi);refine Ms (x:=b6 (ny n f z)) ?_ ?_ ?_
  .rw[Qp,Za hz];rfl
  .rw[ev z hz];simp
  .intro i y hi hy;have bW:i<n:=JR hi hz;rw[Qp,Za bW]at hy;cases hy;refine(ev i bW).trans ?_;simp;omega
 have h1:eS (.tup ((range n).map λi=>ny n f i))=true:=(j3z n f).ok;have h2:eS (.tup (aq (range n)))=true:=(wY _).ok;have hl:ip (.tup ((range n).map λi=>ny n f i))=some n:=iN (f:=f);unfold qq NB aT;simp[-ofNat_eq_natCast,hr,hl,h1,h2,hi]
end
section
variable {n:Nat}{f:Nat->Nat->Nat}
def rT (n:Nat)(f:Nat->Nat->Nat)(r:Nat->Nat):Bool:=(range n).all λy=>(bq.low n f y).all λx=>decide (f (r x) (r y)=r y)
theorem CK:rT n f r=true ↔ ∀ y x,y<n->x<n->f x y=y->f (r x) (r y)=r y:=by unfold rT;rw[L3.range_all];simp only[ZG,bq.eF,ZC];exact⟨λh y x hy hx e=>h y hy x ⟨hx,e⟩,λh y hy x e=>h y x hy e.1 e.2⟩
theorem j0i(hn:n<=1000)(hr:∀ i,i<n->r i<n):zP [aT n f,aU n r]=(b9 (rT n f r)):=by
 unfold zP Nt;refine dh ?_;have hs:nU 4 [aT n f,aU n r]=[t9 n f,r9 n r,none,none]:=rfl;rw[hs];obtain⟨h1,h2⟩:=zB (pt:=av 2) (body:=eP (b8 (aG tO 2 (bF (aa 0) (aa 2)))) (av 3) (cL (fL (eL (aG oh 3 (bB (aa 0) (aw 1 (aa 3)) (aw 1 (aa 2)))))) (bu (eC (.bl false))) cU)) (d:=.bl false) (q:=9) (cM n) (λρ=>∃ x y,ρ=[t9 n f,r9 n r,x,y]) (λy=>(bq.low n f y).all λx=>decide (f (r x) (r y)=r y)) [t9 n f,r9 n r,none,none] (λy hy ρ ⟨a,b,e⟩=>by
  subst e;have ir:y<n:=by rw[fM]at hy;exact hy
  refine⟨[t9 n f,r9 n r,i9 y,b],by rw[show(cM n)[y]=(iD y)by simp[cM]];simp,?_⟩;have hl:(aq (bq.low n f y)).length<=1000:=by rw[fP];have:=Q0 (λx=>decide (f x y=y)) (range n);rw[QK]at this;exact Qw this hn
  have hi:b8 (aG tO 2 (bF (aa 0) (aa 2))) [t9 n f,r9 n r,i9 y,b]=some (aq (bq.low n f y),[t9 n f,r9 n r,i9 y,b]):=by have hb:tO [aT n f,iD y]=(uL (bq.low n f y)):=u6 hn ir;simp[-ofNat_eq_natCast,hb,hl]
  obtain⟨i1,i2⟩:=zB (pt:=av 3) (body:=cL (fL (eL (aG oh 3 (bB (aa 0) (aw 1 (aa 3)) (aw 1 (aa 2)))))) (bu (eC (.bl false))) cU) (d:=.bl false) (q:=9) (aq (bq.low n f y)) (λρ=>∃ b,ρ=[t9 n f,r9 n r,i9 y,b]) (λi=>decide (f (r ((bq.low n f y).getD i 0)) (r y)=r y)) [t9 n f,r9 n r,i9 y,b] (λi bW ρ ⟨b,e⟩=>by
   subst e;have hm:=FW (l:=bq.low n f y) (i:=i) (by rw[fP]at bW;exact bW);have hx:=(bq.eF.mp hm).1;rw[ME bW];refine⟨[t9 n f,r9 n r,i9 y,i9 ((bq.low n f y).getD i 0)],by simp,λok=>⟨[t9 n f,r9 n r,i9 y,i9 ((bq.low n f y).getD i 0)],?_,⟨_,rfl⟩⟩,λno=>?_⟩
   .have GF:=Q5 ok;simp[-ofNat_eq_natCast,-List.getD_eq_getElem?_getD,kS hx,kS ir,CI (f:=f) (hr _ hx) (hr _ ir),GF]
   .have GG:=JD no;simp[-ofNat_eq_natCast,-List.getD_eq_getElem?_getD,kS hx,kS ir,CI (f:=f) (hr _ hx) (hr _ ir),GG]) ⟨b,rfl⟩
  rw[fP,MD (λx=>decide (f (r x) (r y)=r y))]at i1 i2;refine⟨λok=>?_,λno=>(iF hi).trans (i2 no)⟩;obtain⟨ap,e,b',rfl⟩:=i1 ok;exact⟨_,(iF hi).trans e,_,_,rfl⟩) ⟨none,none,rfl⟩
 rw[fM]at h1 h2;cases h:rT n f r with
 | true=>
  obtain⟨am,e,x,y,rfl⟩:=h1 h;exact(aR ((iF (kr hn rfl iN)).trans e)).trans rfl
 | false=>exact qg ((iF (kr hn rfl iN)).trans (h2 h))
theorem y4c(hn:n<=1000)(hr:∀ i,i<n->r i<n)(hs:∀ i,i<n->s i<n):zT [aT n f,aU n r,aU n s]=(r9 n (λi=>f (r i) (s i))):=by
 unfold zT NC;refine dh (fg (ac:=[t9 n f,r9 n r,r9 n s]) ?_);have hz:uU (bF (aa 1) (aa 2)) [t9 n f,r9 n r,r9 n s]=some ((range n).map λj=>.tup [iD (r j),iD (s j)],[t9 n f,r9 n r,r9 n s]):=by have:=MJ n r s;simp[-ofNat_eq_natCast,aU,fP,hn,this]
 have hc:=e_ (k:=2) (tt:=cN) (te:=cZ (aw 0 (aa 3)) (aa 4)) (deep:=false) hz (ML (i:=3) rfl r s (λ_=>true) (λj=>(iD (f (r j) (s j)))) (λ_=>9) (λj hj=>rfl) (λj hj _=>by simp[-ofNat_eq_natCast,lK (f:=f) (hr j hj),mB (f:=f) (i:=r j) (hs j hj)]))
 rw[show(range n).filter (λ_=>true)=range n by simp]at hc;refine(nv (bS hc)).trans ?_;exact Zy (λd=>some (d,9,_)) (MH _)
end
theorem Ao(h:g ρ=some (.lst ds,q,ac))(hl:ds.length<=1000):b8 g ρ=some (ds,ac):=by unfold b8;rw[h];exact Qh hl
theorem kU(h:g ρ=some (.tup ds,q,ac))(hl:ds.length<=1000):b8 g ρ=some (ds,ac):=by unfold b8;rw[h];exact Qh hl
theorem k3v{a b:aN}{k:Int}(ha:a ρ=some (.lst ds,q,ac))(hb:b ac=some (.int k,q',ap))(h:dJ (.lst ds) k=some d):cZ a b ρ=some (d,dP d,ap):=by unfold cZ;rw[ha];simp only[hb,h]
theorem OO(l:List Nat)(x:Nat):aq l++[iD x]=aq (l++[x]):=by unfold aq;rw[Q4];rfl
theorem tU{g:cf}(h:g ρ=some (ds,ac))(hl:ds.length<=1000):cR g ρ=some (.lst ds,1,ac):=by unfold cR;rw[h];exact Qh hl
abbrev R7 (ns:List Int)(t:Int)(n:Nat)(f:Nat->Nat->Nat)(z:Nat)(a b c:OD:=none):a_:=[n0 ns,some (.int t,9),t9 n f,i9 z,a,b,c]
section
variable {n:Nat}{f:Nat->Nat->Nat}
variable (L:bq n f){z:Nat}(hz:z<n)(bz:∀ j,j<n->f z j=j)
include L hz bz
theorem GH(ns:List Int)(t:Int)(h0:0<=t):∃ d:Nat->Nat,(∀ i,i<n->d i<n)/\pF [bY ns,.int t,aT n f]=some (aU n (bq.lr n f z d),9):=by
 have hn:n<=1000:=Qw L.hi (by decide);have hn0:0<n:=L.lo;obtain⟨am,e,l,y,hl,hm,rfl⟩:=kh (pt:=av 5) (body:=M7) (cM n) (λi ρ=>∃ l y,l.length=i/\(∀ x∈l,x<n)/\ρ=R7 ns t n f z (some (.lst (aq l),1)) y none) (R7 ns t n f z (some (.lst [],1))) (λi hi ρ aj=>by
  obtain⟨l,y,hl,hm,rfl⟩:=aj;have bW:i<n:=by rw[fM]at hi;exact hi
  have hii:Int.ofNat i=(i:Int):=rfl;obtain⟨v,hv,ev⟩:=kT ns (show 0<=t+Int.ofNat i by omega) hn0;obtain⟨k,hk,ek⟩:=kT ns (show 0<=t+8+Int.ofNat i by omega) (show 0<3 by decide);have hx:∃ x,x<n/\dJ (.lst [.int (Int.ofNat z),.int (Int.ofNat i),.int (Int.ofNat v)]) (Int.ofNat k)=some (.int (Int.ofNat x)):=by
   match k,hk with
   | 0,_=>exact⟨z,hz,rfl⟩
   | 1,_=>exact⟨i,bW,rfl⟩
   | 2,_=>exact⟨v,hv,rfl⟩
  obtain⟨x,hx,ex⟩:=hx;refine⟨R7 ns t n f z (some (.lst (aq l),1)) (some (.int (Int.ofNat i),9)) none,R7 ns t n f z (some (.lst (aq (l++[x])),1)) (some (.int (Int.ofNat i),9)) none,by rw[rS];rfl,.inl ?_,l++[x],_,by rw[Qk,hl];rfl,λw hw=>?_,rfl⟩
  .rw[<- OO];exact tJ rfl (bS (k3v (tU (b7 (q:=9) rfl (b7 (q:=9) rfl (bS (bp (ds:=[bY ns,.int (t+Int.ofNat i),.int (Int.ofNat n)]) (b7 (q:=0) rfl (b7 (q:=9) rfl (bS (xx rfl iN)))) rfl ev)))) (by show 3<=1000;decide)) (bp (ds:=[bY ns,.int (t+8+Int.ofNat i),.int (Int.ofNat 3)]) rfl rfl ek) ex)) rfl (by rw[fP];omega) rfl
  .rcases Q9.mp hw with h|h
   .exact hm w h
   .rw[Q6.mp h];exact hx) ⟨[],none,rfl,(λ_ h=>nomatch h),rfl⟩
 rw[fM]at hl;have hg:∀ i,i<n->gv l i<n:=λi hi=>hm _ (MN (by omega));refine⟨gv l,hg,?_⟩;obtain⟨am,e2,y',rfl⟩:=kh (pt:=av 5) (body:=M6) (cM n) (λi ρ=>∃ y,ρ=R7 ns t n f z (some (.lst (aq l),1)) y (some (.lst (aq ((range i).map (bq.lr n f z (gv l)))),1))) (R7 ns t n f z (some (.lst (aq l),1)) y (some (.lst [],1))) (λi hi ρ aj=>by
  obtain⟨y,rfl⟩:=aj;have bW:i<n:=by rw[fM]at hi;exact hi
  have Ap:(bq.low n f i).length<=1000:=by have:=Q0 (λy=>decide (f y i=i)) (range n);rw[QK]at this;exact Qw this hn
  have hb:vt [aT n f,.int (Int.ofNat i)]=some (.lst (aq (bq.low n f i)),1):=z8p hn bW;have hc:=e_ (k:=1) (te:=aw 4 (aa 7)) (deep:=false) (ρ:=R7 ns t n f z (some (.lst (aq l),1)) (some (.int (Int.ofNat i),9)) (some (.lst (aq ((range i).map (bq.lr n f z (gv l)))),1))) (it:=b8 (aG vt 2 (bF (aa 2) (aa 5)))) (ds:=aq (bq.low n f i)) (ac:=R7 ns t n f z (some (.lst (aq l),1)) (some (.int (Int.ofNat i),9)) (some (.lst (aq ((range i).map (bq.lr n f z (gv l)))),1))) (Ao (bp (ds:=[aT n f,.int (Int.ofNat i)]) rfl rfl hb) (by rw[fP];exact Ap)) (MF (i:=7) (bq.low n f i) rfl (λy=>.int (Int.ofNat (gv l y))) (λ_=>9) (λy hy=>by have hyn:=(bq.eF.mp hy).1;have q_:dJ (.lst (aq l)) (Int.ofNat y)=some (.int (Int.ofNat (gv l y))):=FZ (by omega);simp[-ofNat_eq_natCast,q_]))
  rw[show((bq.low n f i).map λy=>D.int (Int.ofNat (gv l y)))=aq ((bq.low n f i).map (gv l))by simp[aq]]at hc;have hj:xf [aT n f,.lst (aq ((bq.low n f i).map (gv l)))]=some (.int (Int.ofNat (bq.lr n f z (gv l) i)),9):=j5p L hz bz hn (by rw[Qb];exact Ap) (bq.jF L hz bz hg);refine⟨R7 ns t n f z (some (.lst (aq l),1)) (some (.int (Int.ofNat i),9)) (some (.lst (aq ((range i).map (bq.lr n f z (gv l)))),1)),R7 ns t n f z (some (.lst (aq l),1)) (some (.int (Int.ofNat i),9)) (some (.lst (aq ((range (i+1)).map (bq.lr n f z (gv l)))),1)),by rw[rS];rfl,.inl ?_,_,rfl⟩;rw[VQ,Q4,List.map_singleton,<- OO];exact tJ rfl (bS (bp (b7 (q:=9) rfl (bS hc)) rfl hj)) rfl (by rw[fP,Qb,QK];omega) rfl) ⟨y,rfl⟩
 rw[fM]at e2;unfold pF M8;refine dh ?_;show aF _ _ [some (bY ns,0),some (.int t,9),some (aT n f,9),none,none,none,none]=_;refine(aR (dw (bp (ds:=[aT n f]) rfl rfl (CJ L hz bz hn)) rfl)).trans ?_;refine(aR (ac:=R7 ns t n f z (some (.lst [],1)) none none) rfl).trans ?_;refine(aR ((iF (kr hn (i:=2) rfl iN)).trans e)).trans ?_;refine(aR (ac:=R7 ns t n f z (some (.lst (aq l),1)) y (some (.lst [],1))) rfl).trans ?_;refine(aR ((iF (kr hn (i:=2) rfl iN)).trans e2)).trans ?_;exact fg (nv (bS (q:=0) (ac:=R7 ns t n f z (some (.lst (aq l),1)) y' (some (.lst (aq ((range n).map (bq.lr n f z (gv l)))),0))) rfl))
end
def gZ (n:Nat):D->Bool
 | .int i=>decide (0<=i)&&decide (i<(n:Int))
 | _=>false
def g_ (m n:Nat):D->Bool
 | .tup ds=>decide (ds.length=m)&&ds.all (gZ n)
 | _=>false
theorem pI(d:D):vw [d]=(b9 (match d with|.int _=>true|_=>false)):=by unfold vw Nf;cases d<;>simp[ja]
theorem Aq(n:Nat)(d:D):jt [d,iD n]=(b9 (gZ n d)):=by
 unfold jt Ng;cases d with
 | int i=>
  have h:=pI (.int i);by_cases h0:0<=i
  .by_cases h1:i<(n:Int)
   .simp[h,gZ,h0,h1]
   .simp[h,gZ,h0,h1]
  .simp[h,gZ,h0]
 | bc=>simp[pI,gZ]
 | bl b=>simp[pI,gZ]
 | str x=>simp[pI,gZ]
 | tup ds=>simp[pI,gZ]
 | lst ds=>simp[pI,gZ]
 | iH ks ds=>simp[pI,gZ]
 | exc nm=>simp[pI,gZ]
 | ob f fo vs ds=>simp[pI,gZ]
 | mp k ds=>simp[pI,gZ]
theorem z5o(m n:Nat)(d:D)(hl:∀ ds,d=.tup ds->ds.length<=1000):vy [d,iD m,iD n]=(b9 (g_ m n d)):=by
 unfold vy Gc;cases d with
 | tup ds=>
  have hl:=hl ds rfl;refine dh ?_;have hs:nU 3 [.tup ds,iD m,iD n]=[some (.tup ds,9),i9 m,i9 n]:=rfl;rw[hs];by_cases hm:ds.length=m
  .refine(aR (ac:=[some (.tup ds,9),i9 m,i9 n]) ?_).trans ?_
   .simp[-ofNat_eq_natCast,ja,ip,hm,jE]
   .have hi:b8 (aa 0) [some (.tup ds,9),i9 m,i9 n]=some (ds,[some (.tup ds,9),i9 m,i9 n]):=by simp[hl]
    have hc:=rM (k:=1) (pt:=av 3) (tt:=cN) (te:=aG jt 2 (bF (aa 3) (aa 2))) (deep:=false) ds (λ_=>[some (.tup ds,9),i9 m,i9 n]) (λ_=>true) (λi=>.bl (gZ n (ds.getD i .bc))) (λi hi=>by
     have hg:ds.getD i .bc=ds[i]:=by simp[hi]
     refine⟨[some (.tup ds,9),i9 m,i9 n,some (ds[i],dP ds[i])],[some (.tup ds,9),i9 m,i9 n,some (ds[i],dP ds[i])],by simp[-dP],rfl,?_⟩;rw[Qh rfl];refine⟨9,[some (.tup ds,9),i9 m,i9 n,some (ds[i],dP ds[i])],?_,by simp,by simp⟩;have hv:∃ q,aa 3 [some (.tup ds,9),i9 m,i9 n,some (ds[i],dP ds[i])]=some (ds[i],q,[some (.tup ds,9),i9 m,i9 n,some (ds[i],dP ds[i])]):=by
      cases hL:(ds[i]).df with
      | false=>exact⟨9,by simp[-dP,hL]⟩
      | true=>exact⟨0,by simp[hL]⟩
     obtain⟨q,hv⟩:=hv;rw[hg];exact bp (b7 hv (bS (q:=9) rfl)) rfl (Aq n _))
    rw[show(range ds.length).filter (λ_=>true)=range ds.length by simp]at hc;have e:(range ds.length).map (λi=>D.bl (gZ n (ds.getD i .bc)))=ds.map λd=>.bl (gZ n d):=by
     apply Zp;intro k;by_cases hk:k<ds.length
     .simp[hk]
     .rw[Qz (by simp;omega),Qz (by simp;omega)]
    rw[e]at hc;refine fg (wZ (bS (e_ (deep:=false) hi hc)) ?_);simp only[p7,Ku,ZY,g_,hm];simp[VL,JM]
  .have e:g_ m n (.tup ds)=false:=by simp[g_,hm]
   rw[e];refine qg ?_;simp[-ofNat_eq_natCast,ja,ip,jE,hm]
 | bc=>simp[ja,g_]
 | bl b=>simp[ja,g_]
 | int i=>simp[ja,g_]
 | str x=>simp[ja,g_]
 | lst ds=>simp[ja,g_]
 | iH ks ds=>simp[ja,g_]
 | exc nm=>simp[ja,g_]
 | ob f fo vs ds=>simp[ja,g_]
 | mp k ds=>simp[ja,g_]
theorem z3i(m n:Nat)(hm:m<=1000)(d:D):vy [d,iD m,iD n]=(b9 (g_ m n d)):=by
 by_cases h:∀ ds,d=.tup ds->ds.length<=1000
 .exact z5o m n d h
 .cases d with
  | tup ds=>
   have eJ:ds.length≠m:=λe=>h λm8 e'=>by cases e';omega
   have e:g_ m n (.tup ds)=false:=by simp[g_,eJ]
   unfold vy Gc;refine dh ?_;rw[e];refine qg ?_;simp[-ofNat_eq_natCast,ja,ip,jE,eJ]
  | _=>exact absurd (λds e=>nomatch e) h
theorem z3o(hr:∀ i,i<n->r i<n):g_ n n (aU n r)=true:=by unfold g_ aU;simp only[fP,Qb,QK,decide_true,JI];rw[ZG];intro d m;obtain⟨x,hx,rfl⟩:=Qo.mp m;obtain⟨i,hi,rfl⟩:=Qo.mp hx;have:=hr i (QA.mp hi);show(decide ((0:Int)<=(r i:Int))&&decide ((r i:Int)<(n:Int)))=true;simp;omega
theorem z1c(hn:n<=1000)(d:D):zN [aT n f,d]=(b9 (g_ n n d)):=by
 unfold zN Nm;have hv:∃ q am,aa 1 [t9 n f,some (d,dP d)]=some (d,q,am)/\am[0]? = some ((t9 n f)):=by
  cases hL:d.df with
  | false=>exact⟨9,[t9 n f,some (d,dP d)],by simp[-dP,hL],rfl⟩
  | true=>exact⟨0,[t9 n f,some (d,0)],by simp[hL],rfl⟩
 obtain⟨q,am,hv,h0⟩:=hv;have OP:cj 0 am=some ((iD n),9,am):=by unfold cj;simp only[h0,iN]
 exact dh (fg (bp (b7 (ρ:=[t9 n f,some (d,dP d)]) hv (b7 OP (bS OP))) rfl (z3i n n hn d)))
theorem OQ(hn:n<=1000)(h:ρ[i]? = some (some ((iD n),q))):cP (aE (aa i)) ρ=some (cM n,ρ):=by
 have b1:(-1000:Int)<=Int.ofNat n:=by show(-1000:Int)<=n;omega
 have b2:Int.ofNat n<=1000:=by show(n:Int)<=1000;omega
 simp only[cP,fq,aa,gJ,h,D.qT,ZE];rw[Qh ⟨b1,b2⟩];rfl
section
variable {n:Nat}{f:Nat->Nat->Nat}
def gC (n:Nat)(f:Nat->Nat->Nat)(r:Nat->Nat):Bool:=(range n).all λx=>(range n).all λy=>decide (r (f x y)=f (r x) (r y))
theorem mL:gC n f r=true ↔ ∀ x y,x<n->y<n->r (f x y)=f (r x) (r y):=by unfold gC;rw[L3.range_all];exact⟨λh x y hx hy=>Q5 (L3.range_all.mp (h x hx) y hy),λh x hx=>L3.range_all.mpr λy hy=>Qr (h x y hx hy)⟩
variable (L:bq n f)
include L
end
section
variable {n:Nat}{f:Nat->Nat->Nat}(L:bq n f)
include L
theorem OR(hr:∀ i,i<n->r i<n):tN [aT n f,aU n r]=(b9 (gC n f r)):=by
 have hn:n<=1000:=Qw L.hi (by decide);have eB:gC n f r=((range n).all λx=>(range x).all λy=>decide (r (f x y)=f (r x) (r y))):=by
  rw[VS,mL,L3.range_all];constructor
  .intro h x hx;exact L3.range_all.mpr λy hy=>Qr (h x y hx (JR hy hx))
  .intro h x y hx hy;rcases Nat.lt_trichotomy x y with c|c|c
   .have:=Q5 (L3.range_all.mp (h y hy) x c);rw[L.comm x y hx hy,this,L.comm _ _ (hr y hy) (hr x hx)]
   .subst c;rw[L.idem x hx,L.idem _ (hr x hx)]
   .exact Q5 (L3.range_all.mp (h x hx) y c)
 unfold tN M_;refine dh ?_;have hs:nU 5 [aT n f,aU n r]=[t9 n f,r9 n r,none,none,none]:=rfl;rw[hs,eB];obtain⟨h1,h2⟩:=zB (pt:=av 2) (body:=eP (cP (aE (aa 2))) (av 3) (aF (bA 4 (cZ (aw 0 (aw 1 (aa 2))) (aw 1 (aa 3)))) (cL (bg (e2 cH (aw 1 (cZ (aw 0 (aa 2)) (aa 3))) (aa 4))) (bu (eC (.bl false))) cU))) (d:=.bl false) (q:=9) (cM n) (λρ=>∃ x y z,ρ=[t9 n f,r9 n r,x,y,z]) (λx=>(range x).all λy=>decide (r (f x y)=f (r x) (r y))) [t9 n f,r9 n r,none,none,none] (λx hx ρ ⟨a,b,c,e⟩=>by
  subst e;have fT:x<n:=by rw[fM]at hx;exact hx
  have OS:x<=1000:=by omega
  refine⟨[t9 n f,r9 n r,i9 x,b,c],by rw[show(cM n)[x]=(iD x)by simp[cM]];simp,?_⟩;obtain⟨i1,i2⟩:=zB (pt:=av 3) (body:=aF (bA 4 (cZ (aw 0 (aw 1 (aa 2))) (aw 1 (aa 3)))) (cL (bg (e2 cH (aw 1 (cZ (aw 0 (aa 2)) (aa 3))) (aa 4))) (bu (eC (.bl false))) cU)) (d:=.bl false) (q:=9) (cM x) (λρ=>∃ y z,ρ=[t9 n f,r9 n r,i9 x,y,z]) (λy=>decide (r (f x y)=f (r x) (r y))) [t9 n f,r9 n r,i9 x,b,c] (λy hy ρ ⟨b,c,e⟩=>by
   subst e;have o7:y<x:=by rw[fM]at hy;exact hy
   have ir:y<n:=JR o7 fT;refine⟨[t9 n f,r9 n r,i9 x,i9 y,c],by rw[show(cM x)[y]=(iD y)by simp[cM]];simp,λok=>⟨[t9 n f,r9 n r,i9 x,i9 y,i9 (f (r x) (r y))],?_,⟨_,_,rfl⟩⟩,λno=>?_⟩
   .have GF:=Q5 ok;simp[-ofNat_eq_natCast,lK fT,mB ir,kS (L.cl x y fT ir),kS fT,kS ir,lK (hr x fT),mB (hr y ir),jE,GF]
   .have GG:=JD no;simp[-ofNat_eq_natCast,lK fT,mB ir,kS (L.cl x y fT ir),kS fT,kS ir,lK (hr x fT),mB (hr y ir),jE,GG]) ⟨b,c,rfl⟩
  rw[fM]at i1 i2;refine⟨λok=>?_,λno=>(iF (OQ OS (i:=2) (q:=9) rfl)).trans (i2 no)⟩;obtain⟨ap,e,b',c',rfl⟩:=i1 ok;exact⟨_,(iF (OQ OS (i:=2) (q:=9) rfl)).trans e,_,_,_,rfl⟩) ⟨none,none,none,rfl⟩
 rw[fM]at h1 h2;cases h:((range n).all λx=>(range x).all λy=>decide (r (f x y)=f (r x) (r y)))with
 | true=>
  obtain⟨am,e,x,y,z,rfl⟩:=h1 h;exact(aR ((iF (kr hn rfl iN)).trans e)).trans rfl
 | false=>exact qg ((iF (kr hn rfl iN)).trans (h2 h))
end
section
variable {n:Nat}{f:Nat->Nat->Nat}(L:bq n f){z:Nat}(hz:z<n)(bz:∀ j,j<n->f z j=j)
include L
theorem j6z:gC n f (λi=>i)=true:=mL.mpr λ_ _ _ _=>rfl
theorem z7r{v:Nat}(hv:v<n):gC n f (λ_=>v)=true:=mL.mpr λ_ _ _ _=>(L.idem v hv).symm
theorem j2n{c d:Nat}(ha:a<n)(hb:b<n)(hc:c<n)(hd:d<n):f (f a b) (f c d)=f (f a c) (f b d):=by rw[L.assoc a b _ ha hb (L.cl c d hc hd),<- L.assoc b c d hb hc hd,L.comm b c hb hc,L.assoc c b d hc hb hd,<- L.assoc a c _ ha hc (L.cl b d hb hd)]
theorem j15{v:Nat}(hv:v<n):gC n f (λi=>f i v)=true:=mL.mpr λx y hx hy=>by show f (f x y) v=f (f x v) (f y v);rw[j2n L hx hv hy hv,L.idem v hv]
include hz bz
theorem OT(ns:List Int)(t:Int)(h0:0<=t):∃ g:Nat->Nat,(∀ i,i<n->g i<n)/\gC n f g=true/\qo [bY ns,.int t,aT n f]=some (aU n g,9):=by
 have hn:n<=1000:=Qw L.hi (by decide);obtain⟨d,hd,hR⟩:=GH L hz bz ns t h0;have hr:∀ i,i<n->bq.lr n f z d i<n:=λi _=>L.mE hz bz hd i;generalize bq.lr n f z d=r at *
 have hS:=OR L hr;unfold qo Na;cases hB:gC n f r with
 | true=>
  rw[hB]at hS;exact⟨r,hr,hB,dh ((aR (dw (bp (ds:=[bY ns,.int t,aT n f]) rfl rfl hR) rfl)).trans (qg ((nu (oo (bp (ds:=[aT n f,aU n r]) rfl rfl hS))).trans rfl)))⟩
 | false=>
  rw[hB]at hS;obtain⟨v,hv,ev⟩:=kT ns (show 0<=t+17 by omega) L.lo;obtain⟨k,hk,ek⟩:=kT ns (show 0<=t+16 by omega) (show 0<3 by decide);have fin:∃ g:Nat->Nat,(∀ i,i<n->g i<n)/\gC n f g=true/\dJ (.lst [aU n (λi=>i),aU n (λ_=>v),aU n (λi=>f i v)]) (Int.ofNat k)=some (aU n g):=by
   match k,hk with
   | 0,_=>exact⟨_,λi hi=>hi,j6z L,rfl⟩
   | 1,_=>exact⟨_,λ_ _=>hv,z7r L hv,rfl⟩
   | 2,_=>exact⟨_,λi hi=>L.cl i v hi hv,j15 L hv,rfl⟩
  obtain⟨g,hg,hgs,q_⟩:=fin;refine⟨g,hg,hgs,dh ?_⟩;refine(aR (ac:=[some (bY ns,0),some (.int t,9),some (aT n f,9),some (aU n r,9),none,none]) (dw (bp (ds:=[bY ns,.int t,aT n f]) rfl rfl hR) rfl)).trans ?_;refine(aR (ac:=[some (bY ns,0),some (.int t,9),some (aT n f,9),some (aU n r,9),none,none]) ((iu (oo (bp (ds:=[aT n f,aU n r]) rfl rfl hS))).trans rfl)).trans ?_;refine(aR (ac:=[some (bY ns,0),some (.int t,9),some (aT n f,9),some (aU n r,9),some (.int (Int.ofNat v),9),none]) (dw (bp (ds:=[bY ns,.int (t+17),.int (Int.ofNat n)]) (b7 (q:=0) rfl (b7 (q:=9) rfl (bS (xx rfl iN)))) rfl ev) rfl)).trans ?_;have e1:iE (aE (q9 (aE (cj 2)))) [some (bY ns,0),some (.int t,9),some (aT n f,9),some (aU n r,9),some (.int (Int.ofNat v),9),none]=some (aU n (λi=>i),9,[some (bY ns,0),some (.int t,9),some (aT n f,9),some (aU n r,9),some (.int (Int.ofNat v),9),none]):=(nv (bS (FL (kr hn (i:=2) rfl iN)))).trans (by rw[z1i];show some (D.tup (aq (range n)),9,_)=some (D.tup (aq ((range n).map λi=>i)),9,_);rw[List.map_id']);have oX:BZ (dF (aE (aa 4))) (cj 2) [some (bY ns,0),some (.int t,9),some (aT n f,9),some (aU n r,9),some (.int (Int.ofNat v),9),none]=some (aU n (λ_=>v),9,[some (bY ns,0),some (.int t,9),some (aT n f,9),some (aU n r,9),some (.int (Int.ofNat v),9),none]):=by
   have b1:(1:Int)<=n:=by have:=L.lo;omega
   have e':(replicate n [D.int (v:Int)]).flatten=aq ((range n).map λ_=>v):=by show(replicate n [D.int (Int.ofNat v)]).flatten=_;simp[aq,ZD,YU]
   simp[iN,b1,hn,aU,e']
  refine(aR (ac:=[some (bY ns,0),some (.int t,9),some (aT n f,9),some (aU n r,9),some (.int (Int.ofNat v),9),some (.lst [aU n (λi=>i),aU n (λ_=>v)],1)]) (dw (tU (b7 e1 (bS oX)) (by show 2<=1000;decide)) rfl)).trans ?_;have hc:=e_ (k:=1) (tt:=cN) (te:=cZ (aw 2 (aa 6)) (aa 4)) (deep:=false) (kr hn (i:=2) (ρ:=[some (bY ns,0),some (.int t,9),some (aT n f,9),some (aU n r,9),some (.int (Int.ofNat v),9),some (.lst [aU n (λi=>i),aU n (λ_=>v)],1)]) rfl iN) (vm (i:=6) rfl (λ_=>true) (λw=>.int (Int.ofNat (f w v))) (λ_=>9) (λj hj=>rfl) (λj hj _=>by simp[-ofNat_eq_natCast,lK (f:=f) hj,mB (f:=f) (i:=j) hv]))
  rw[show(range n).filter (λ_=>true)=range n by simp,<- rN]at hc;refine(aR (ac:=[some (bY ns,0),some (.int t,9),some (aT n f,9),some (aU n r,9),some (.int (Int.ofNat v),9),some (.lst [aU n (λi=>i),aU n (λ_=>v),aU n (λi=>f i v)],1)]) (tJ (ds:=[aU n (λi=>i),aU n (λ_=>v)]) rfl (bS (nv (bS hc))) rfl (by show 2<=1000;decide) rfl)).trans ?_;exact fg (oq (bp (ds:=[bY ns,.int (t+16),.int (Int.ofNat 3)]) rfl rfl ek) rfl q_ rfl)
end
theorem z8u(h:ρ[i]? = some (some (d,dP d))):aa i ρ=some (d,dP d,ρ):=by
 unfold aa;rw[h];cases hL:d.df with
 | false=>simp[hL]
 | true=>simp[hL]
theorem OU(ds:List D)(hi:ρ.length=i)(v:D->D)(q:D->Nat)
  (he:∀ d,d∈ds->te (ρ++[some (d,dP d)])=some (v d,q d,ρ++[some (d,dP d)])) :
  j9 1 (av i) cN te false ds ρ=some (ds.map v,ρ):=by
 have h:=rM (k:=1) (pt:=av i) (tt:=cN) (te:=te) (deep:=false) ds (λ_=>ρ) (λ_=>true) (λj=>v (ds.getD j .bc)) (λj hj=>?_)
 .rw[show(range ds.length).filter (λ_=>true)=range ds.length by simp]at h;rw[h];have e:(range ds.length).map (λj=>v (ds.getD j .bc))=ds.map v:=by
   apply Zp;intro k;by_cases hk:k<ds.length
   .simp[hk]
   .rw[Qz (by simp;omega),Qz (by simp;omega)]
  rw[e]
 .have hg:ds.getD j .bc=ds[j]:=by simp[hj]
  refine⟨ρ++[some (ds[j],dP ds[j])],_,?_,rfl,?_⟩
  .unfold av;rw[Qh (by simp[hi])];subst hi;simp[-dP,YV]
  .rw[Qh rfl,hg];exact⟨q _,_,he _ (Q7 hj),by simp,by simp⟩
theorem GI{it:ma}(hi:ρ.length=i)(hit:it ρ=some (ds,ρ))(b:D->Bool)(q:D->Nat)
  (he:∀ d,d∈ds->te (ρ++[some (d,dP d)])=some (.bl (b d),q d,ρ++[some (d,dP d)])) :
  eB p7 (aE (cQ 1 it (av i) cN te false)) ρ=some (.bl (ds.all b),9,ρ):=by refine wZ (bS (e_ (deep:=false) hit (OU ds hi (λd=>.bl (b d)) q he))) ?_;simp only[p7,Ku,ZY];simp[VL,JM]
def qu (ds:List D)(i:Nat):Nat:=match ds[i]? with
 | some (.int k)=>k.toNat
 | _=>0
theorem OV(h:g_ m n (.tup ds)=true):ds.length=m/\∀ i,i<m->ds[i]? = some (iD (qu ds i))/\qu ds i<n:=by
 unfold g_ at h;simp only[Zo,ZC,ZG]at h;obtain⟨hl,ha⟩:=h;refine⟨hl,λi hi=>?_⟩;have bW:i<ds.length:=by omega
 have hm:=ha ds[i] (Q7 bW);have hg:ds[i]? = some ds[i]:=Qc bW;unfold qu;rw[hg];cases e:ds[i]with
 | int k=>
  rw[e]at hm;unfold gZ at hm;simp only[Zo,ZC]at hm;refine⟨?_,?_⟩
  .show some (D.int k)=some (D.int ((k.toNat:Nat):Int));rw[Ud hm.1]
  .show k.toNat<n;omega
 | _=>rw[e]at hm;cases hm
theorem j6i(h:g_ m n (.tup ds)=true):D.tup ds=aU m (qu ds):=by
 obtain⟨hl,key⟩:=OV h;unfold aU;congr 1;apply Zp;intro i;by_cases hi:i<m
 .rw[(key i hi).1,Cp,Qp,Za hi];rfl
 .rw[Qz (by omega),Qz (by simp[fP];omega)]
theorem j0q(h:g_ n n (.tup ds)=true):D.tup ds=aU n (qu ds)/\∀ i,i<n->qu ds i<n:=⟨j6i h,λi hi=>((OV h).2 i hi).2⟩
theorem z4e(hi:i<n):qu (aq ((range n).map r)) i=r i:=by unfold qu;rw[Cp,Qp,Za hi];rfl
def rr (n:Nat)(f:Nat->Nat->Nat)(d:D):Bool:=match d with
 | .tup ds=>g_ n n (.tup ds)&&rT n f (qu ds)
 | _=>false
theorem y8x(h:∀ i,i<n->r i=s i):rT n f r=rT n f s:=by
 rw[VS,CK,CK];constructor
 .intro k y x hy hx e;rw[<- h x hx,<- h y hy];exact k y x hy hx e
 .intro k y x hy hx e;rw[h x hx,h y hy];exact k y x hy hx e
theorem OW(hr:∀ i,i<n->r i<n):rr n f (aU n r)=rT n f r:=by have h:=z3o hr;show(g_ n n (aU n r)&&rT n f (qu (aq ((range n).map r))))=_;rw[h,JI];exact y8x λi hi=>z4e hi
theorem OY(hn:n<=1000)(d:D):vz [aT n f,d]=(b9 (rr n f d)):=by
 have h1:=z1c (n:=n) (f:=f) hn d;have v1:aa 1 [t9 n f,some (d,dP d)]=some (d,dP d,[t9 n f,some (d,dP d)]):=z8u rfl;have v0:aa 0 [t9 n f,some (d,dP d)]=some (aT n f,9,[t9 n f,some (d,dP d)]):=rfl;have c1:=bp (n:=2) (b7 v0 (bS v1)) rfl h1;unfold vz Nu;refine dh (fg (ac:=[t9 n f,some (d,dP d)]) ?_);show mn _ _ [t9 n f,some (d,dP d)]=_;unfold mn;rw[c1];cases hR:g_ n n d with
 | false=>
  have:rr n f d=false:=by cases d<;>simp_all [rr]
  simp[this]
 | true=>
  cases d with
  | tup ds=>
   obtain⟨e,hb⟩:=j0q hR;have r:=j0i (f:=f) hn hb;rw[<- e]at r;have c2:=bp (n:=2) (b7 v0 (bS v1)) rfl r;simp only[ZE,c2];simp[rr,hR]
  | _=>cases hR
structure cK where
 p:Nat
 W:List (Nat×Nat×(Nat->Nat))
 B:List (Nat×Nat)
def ba (n:Nat)(w:Nat×Nat×(Nat->Nat)):D:=.tup [iD w.1,iD w.2.1,aU n w.2.2]
def cA (b:Nat×Nat):D:=.tup [iD b.1,iD b.2]
def cY (n:Nat)(C:cK):D:=.tup [iD C.p,.tup (C.W.map (ba n)),.tup (C.B.map cA)]
abbrev c9 (n:Nat)(C:cK):OD:=some (cY n C,9)
def tV (n:Nat)(f:Nat->Nat->Nat)(p:Nat)(w:Nat×Nat×(Nat->Nat)):Prop:=w.1<p/\w.2.1<p/\(∀ i,i<n->w.2.2 i<n)/\∀ x y,x<n->y<n->f x y=y->f (w.2.2 x) (w.2.2 y)=w.2.2 y
def vD (n:Nat)(p:Nat)(b:Nat×Nat):Prop:=b.1<p/\b.2<n
structure cK.Ok (n:Nat) (f:Nat->Nat->Nat) (C:cK):Prop where
 p1:1<=C.p
 p8:C.p<=8
 tW:C.W.length<=60
 xy:C.B.length<=60
 ws:∀ w∈C.W,tV n f C.p w
 bs:∀ b∈C.B,vD n C.p b
@[simp] theorem j66{C:cK}:(cY n C).df=false:=rfl
@[simp] theorem k01{w:Nat×Nat×(Nat->Nat)}:(ba n w).df=false:=rfl
@[simp] theorem k04{b:Nat×Nat}:(cA b).df=false:=rfl
theorem xA(hm:m<=1000){fe:aN}{am:a_}(h:fe ρ=some ((iD m),q,am)):cP (aE fe) ρ=some (cM m,am):=by
 have b1:(-1000:Int)<=Int.ofNat m:=by show(-1000:Int)<=m;omega
 have b2:Int.ofNat m<=1000:=by show(m:Int)<=1000;omega
 simp only[cP,fq,gJ,h];rw[Qh ⟨b1,b2⟩];rfl
theorem GJ{g:cf}(h:g ρ=some (ds,ac))(hl:ds.length<=1000):dF g ρ=some (.tup ds,9,ac):=by unfold dF;rw[h];exact Qh hl
theorem GK{k:Int}(hk:k=2\/k=22\/k=50)(v:Nat):iX (.int k) (iD v)=some (.int (k*Int.ofNat v)):=by rcases hk with rfl|rfl|rfl<;>simp[-ofNat_eq_natCast]
abbrev jL (ns:List Int)(t:Int)(n:Nat)(f:Nat->Nat->Nat)(b:Bool)(w p a x c g h:OD:=none):a_:=[n0 ns,some (.int t,9),t9 n f,b9 b,p,w,a,x,c,g,h]
section
variable {n:Nat}{f:Nat->Nat->Nat}(L:bq n f){z:Nat}(hz:z<n)(bz:∀ j,j<n->f z j=j)(ns:List Int){t:Int}(h0:0<=t){b:Bool}{p:Nat}(hp:1<=p)
include L hz bz h0 hp
theorem z3e(m:Nat)(hm:m<=7) :
  ∃ W:List (Nat×Nat×(Nat->Nat)),W.length=m/\(∀ w∈W,tV n f p w/\(b=true->gC n f w.2.2=true))/\∃ a x c,fY (av 6) F_ (cM m) (jL ns t n f b (some (.lst [],1)) ((i9 p)))=some (.nx (jL ns t n f b (some (.lst (W.map (ba n)),1)) ((i9 p)) a x c)):=by
 obtain⟨am,e,W,hl,aP,a,x,c,rfl⟩:=kh (pt:=av 6) (body:=F_) (cM m) (λi ρ=>∃ W:List (Nat×Nat×(Nat->Nat)),W.length=i/\(∀ w∈W,tV n f p w/\(b=true->gC n f w.2.2=true))/\∃ a x c,ρ=jL ns t n f b (some (.lst (W.map (ba n)),1)) ((i9 p)) a x c none none) (jL ns t n f b (some (.lst [],1)) ((i9 p))) (λi hi ρ aj=>by
  obtain⟨W,hl,aP,a,x,c,rfl⟩:=aj;have bW:i<m:=by rw[fM]at hi;exact hi
  obtain⟨y,hy⟩:∃ y:Int,y=t+10+22*Int.ofNat i:=⟨_,rfl⟩;have hy0:0<=y:=by have:Int.ofNat i=(i:Int):=rfl;omega
  obtain⟨d,hd,hR⟩:=GH L hz bz ns (y+2) (by omega);obtain⟨r2,hr1,wR,hR2⟩:=OT L hz bz ns (y+2) (by omega);obtain⟨s,hs,es⟩:=kT ns hy0 hp;obtain⟨g,hg,eg⟩:=kT ns (show 0<=y+1 by omega) hp;have hr:∃ r,tV n f p (s,g,r)/\(b=true->gC n f r=true)/\cL (eL (aa 3)) (bA 8 (aG qo 3 (bB (aa 0) (e2 cC (aa 7) (ai 2)) (aa 2)))) cU (jL ns t n f b (some (.lst (W.map (ba n)),1)) ((i9 p)) ((i9 i)) (some (.int y,9)) ((r9 n (bq.lr n f z d))))=some (.nx (jL ns t n f b (some (.lst (W.map (ba n)),1)) ((i9 p)) ((i9 i)) (some (.int y,9)) ((r9 n r)))):=by
   cases b with
   | false=>exact⟨_,⟨hs,hg,λi _=>L.mE hz bz hd i,λx y hx hy e=>L.ki hz bz hd hx hy e⟩,(λh=>nomatch h),(iu (oo (f:=aa 3) (b:=false) (q:=9) rfl)).trans rfl⟩
   | true=>exact⟨r2,⟨hs,hg,hr1,λx y hx hy e=>by rw[<- mL.mp wR x y hx hy,e]⟩,λ_=>wR,(nu (oo (f:=aa 3) (b:=true) (q:=9) rfl)).trans (dw (bp (ds:=[bY ns,.int (y+2),aT n f]) rfl rfl hR2) rfl)⟩
  obtain⟨r,ok,sp,er⟩:=hr;refine⟨jL ns t n f b (some (.lst (W.map (ba n)),1)) ((i9 p)) ((i9 i)) x c none none,jL ns t n f b (some (.lst ((W++[(s,g,r)]).map (ba n)),1)) ((i9 p)) ((i9 i)) (some (.int y,9)) ((r9 n r)) none none,by rw[rS];rfl,.inl ?_,W++[(s,g,r)],by rw[Qk,hl];rfl,λw hw=>?_,_,_,_,rfl⟩
  .rw[Q4];refine(aR (ac:=jL ns t n f b (some (.lst (W.map (ba n)),1)) ((i9 p)) ((i9 i)) (some (.int y,9)) c none none) (dw (cI (q:=9) rfl (cI (q:=9) (q':=9) rfl rfl (GK (.inr (.inl rfl)) i)) rfl) (by rw[hy];rfl))).trans ((aR (ac:=jL ns t n f b (some (.lst (W.map (ba n)),1)) ((i9 p)) ((i9 i)) (some (.int y,9)) ((r9 n (bq.lr n f z d))) none none) (dw (bp (ds:=[bY ns,.int (y+2),aT n f]) rfl rfl hR) rfl)).trans ((aR er).trans ?_));exact tJ rfl (bS (GJ (b7 (bp (ds:=[bY ns,.int y,iD p]) rfl rfl es) (b7 (bp (ds:=[bY ns,.int (y+1),iD p]) rfl rfl eg) (bS (q:=9) rfl))) (by show 3<=1000;decide))) rfl (by rw[Qb];omega) rfl
  .rcases Q9.mp hw with h|h
   .exact aP w h
   .rw[Q6.mp h];exact⟨ok,sp⟩) ⟨[],rfl,(λ_ z=>nomatch z),none,none,none,rfl⟩
 rw[fM]at hl;exact⟨W,hl,aP,a,x,c,e⟩
theorem z3s(m:Nat)(hm:m<=3)(W a x c:OD) :
  ∃ B:List (Nat×Nat),B.length=m/\(∀ w∈B,vD n p w)/\∃ a' h,fY (av 6) F9 (cM m) (jL ns t n f b W ((i9 p)) a x c (some (.lst [],1)))=some (.nx (jL ns t n f b W ((i9 p)) a' x c (some (.lst (B.map cA),1)) h)):=by
 obtain⟨am,e,B,hl,aP,a',h,rfl⟩:=kh (pt:=av 6) (body:=F9) (cM m) (λi ρ=>∃ B:List (Nat×Nat),B.length=i/\(∀ w∈B,vD n p w)/\∃ a h,ρ=jL ns t n f b W ((i9 p)) a x c (some (.lst (B.map cA),1)) h) (jL ns t n f b W ((i9 p)) a x c (some (.lst [],1))) (λi hi ρ aj=>by
  obtain⟨B,hl,aP,a,h,rfl⟩:=aj;have bW:i<m:=by rw[fM]at hi;exact hi
  have hii:Int.ofNat i=(i:Int):=rfl;obtain⟨v,hv,ev⟩:=kT ns (show 0<=t+3+2*Int.ofNat i by omega) (show 0<n by have:=L.lo;omega);obtain⟨g,hg,eg⟩:=kT ns (show 0<=t+4+2*Int.ofNat i by omega) hp;refine⟨jL ns t n f b W ((i9 p)) ((i9 i)) x c (some (.lst (B.map cA),1)) h,jL ns t n f b W ((i9 p)) ((i9 i)) x c (some (.lst ((B++[(g,v)]).map cA),1)) ((i9 v)),by rw[rS];rfl,.inl ?_,B++[(g,v)],by rw[Qk,hl];rfl,λw hw=>?_,_,_,rfl⟩
  .rw[Q4];refine(aR (dw (bp (ds:=[bY ns,.int (t+3+2*Int.ofNat i),iD n]) (b7 (q:=0) rfl (b7 (cI (q:=9) rfl (cI (q:=9) (q':=9) rfl rfl (GK (.inl rfl) i)) rfl) (bS (xx rfl iN)))) rfl ev) rfl)).trans ?_;exact tJ rfl (bS (GJ (b7 (bp (ds:=[bY ns,.int (t+4+2*Int.ofNat i),iD p]) (b7 (q:=0) rfl (b7 (cI (q:=9) rfl (cI (q:=9) (q':=9) rfl rfl (GK (.inl rfl) i)) rfl) (bS (q:=9) rfl))) rfl eg) (bS (q:=9) rfl)) (by show 2<=1000;decide))) rfl (by rw[Qb];omega) rfl
  .rcases Q9.mp hw with h|h
   .exact aP w h
   .rw[Q6.mp h];exact⟨hg,hv⟩) ⟨[],rfl,(λ_ z=>nomatch z),a,none,rfl⟩
 rw[fM]at hl;exact⟨B,hl,aP,a',h,e⟩
end
section
variable {n:Nat}{f:Nat->Nat->Nat}(L:bq n f){z:Nat}(hz:z<n)(bz:∀ j,j<n->f z j=j)
include L hz bz
theorem OZ(ns:List Int)(t:Int)(h0:0<=t)(b:Bool):∃ C:cK,C.Ok n f/\(b=true->∀ w∈C.W,gC n f w.2.2=true)/\C.p<=5/\C.W.length<=7/\C.B.length<=3/\rQ [bY ns,.int t,aT n f,.bl b]=(c9 n C):=by
 obtain⟨p0,Lu,ep⟩:=kT ns h0 (n:=5) (by decide);obtain⟨mw,hmw,ew⟩:=kT ns (show 0<=t+1 by omega) (n:=8) (by decide);obtain⟨mb,hmb,eb⟩:=kT ns (show 0<=t+2 by omega) (n:=4) (by decide);obtain⟨p,hp⟩:∃ p:Nat,p=p0+1:=⟨_,rfl⟩;have nR:(1:Int)+Int.ofNat p0=Int.ofNat p:=by show(1:Int)+(p0:Int)=(p:Int);omega
 obtain⟨W,hWl,Ar,a,x,c,eW⟩:=z3e L hz bz ns h0 (b:=b) (p:=p) (by omega) mw (by omega);obtain⟨B,hBl,GL,a',h,eB⟩:=z3s L hz bz ns h0 (b:=b) (p:=p) (by omega) mb (by omega) (some (.lst (W.map (ba n)),1)) a x c;refine⟨⟨p,W,B⟩,⟨by show 1<=p;omega,by show p<=8;omega,by show W.length<=60;omega,by show B.length<=60;omega,λw hw=>(Ar w hw).1,GL⟩,λhb w hw=>(Ar w hw).2 hb,by show p<=5;omega,by show W.length<=7;omega,by show B.length<=3;omega,?_⟩;unfold rQ Nc;refine dh ?_;show aF _ _ (jL ns t n f b)=_;refine(aR (dw (cI (q:=9) rfl (bp (ds:=[bY ns,.int t,iD 5]) rfl rfl ep) (by show some (D.int ((1:Int)+Int.ofNat p0))=_;rw[nR])) rfl)).trans ?_;refine(aR (ac:=jL ns t n f b (some (.lst [],1)) ((i9 p)) none none none none none) rfl).trans ?_;refine(aR ((iF (xA (m:=mw) (by omega) (bp (ds:=[bY ns,.int (t+1),iD 8]) rfl rfl ew))).trans eW)).trans ?_;refine(aR (ac:=jL ns t n f b (some (.lst (W.map (ba n)),1)) ((i9 p)) a x c (some (.lst [],1)) none) rfl).trans ?_;refine(aR ((iF (xA (m:=mb) (by omega) (bp (ds:=[bY ns,.int (t+2),iD 4]) rfl rfl eb))).trans eB)).trans ?_;exact fg (GJ (b7 (q:=9) rfl (b7 (nv (bS (mK rfl))) (bS (nv (bS (mK rfl)))))) (by show 3<=1000;decide))
theorem y88(ns:List Int)(t:Int)(h0:0<=t):∃ C:cK,C.Ok n f/\C.p<=5/\C.W.length<=7/\C.B.length<=3/\rQ [bY ns,.int t,aT n f,.bl false]=(c9 n C):=by obtain⟨C,h1,_,h2⟩:=OZ L hz bz ns t h0 false;exact⟨C,h1,h2⟩
theorem y6r(ns:List Int)(t:Int)(h0:0<=t):∃ C:cK,C.Ok n f/\(∀ w∈C.W,gC n f w.2.2=true)/\C.p<=5/\C.W.length<=7/\C.B.length<=3/\rQ [bY ns,.int t,aT n f,.bl true]=(c9 n C):=by obtain⟨C,h1,h2,h3⟩:=OZ L hz bz ns t h0 true;exact⟨C,h1,h2 rfl,h3⟩
end
theorem As(h:fa ρ=some (.bl true,q,ac)):mn fa fb ρ=fb ac:=by unfold mn;rw[h];rfl
theorem CL{k:Nat}(hk:k<h):jt [iD k,iD h]=(b9 true):=by
 rw[Aq,show gZ h (iD k)=true from by show(decide ((0:Int)<=(k:Int))&&decide ((k:Int)<(h:Int)))=true;rw[Qr (by omega),Qr (by omega)];rfl]
theorem Au{g:D->D->Option D}{c:D}(h:ρ[i]? = some (some (.tup ds,9)))(hg:g (iD ds.length) c=some (.bl false)):j8 (fL (eL (mr .tuple (aa i)))) (bg (e2 g (cj i) (eC c))) ρ=some (false,ρ):=by have v:=j9l (d:=.tup ds) h rfl;refine(GA (An (b:=true) (oo (q:=9) ?_))).trans (eH (cI (xx h rfl) (q':=9) rfl hg));unfold mr;rw[v];rfl
theorem O0(h:m<=60):uJ (iD m) (.int 60)=some (.bl false):=by show some (D.bl (decide ((60:Int)<Int.ofNat m)))=_;rw[QF (by show ¬ (60:Int)<(m:Int);omega)]
section
variable {n:Nat}{f:Nat->Nat->Nat}(hn:n<=1000)
include hn
theorem k0j{w:Nat×Nat×(Nat->Nat)}(h:tV n f p w):xp [aT n f,iD p,ba n w]=(b9 true):=by
 have g:Ag [iD p,ba n w]=(b9 true):=by unfold Ag Ol;exact dh ((aR (ac:=[i9 p,some (ba n w,9)]) ((iu (Au (i:=1) (c:=.int 3) rfl ((jE 3 3).trans rfl))).trans rfl)).trans (fg ((As (bp (ds:=[iD w.1,iD p]) rfl rfl (CL h.1))).trans (bp (ds:=[iD w.2.1,iD p]) rfl rfl (CL h.2.1)))))
 have r:=OY (f:=f) hn (aU n w.2.2);rw[OW h.2.2.1,CK.mpr λy x hy hx e=>h.2.2.2 x y hx hy e]at r;unfold xp Om;exact dh (fg ((As (ρ:=[t9 n f,i9 p,some (ba n w,9)]) (bp (ds:=[iD p,ba n w]) rfl rfl g)).trans (bp (ds:=[aT n f,aU n w.2.2]) rfl rfl r)))
theorem k16{b:Nat×Nat}(h:vD n p b):xq [aT n f,iD p,cA b]=(b9 true):=by unfold xq Ot;exact dh ((aR (ac:=[t9 n f,i9 p,some (cA b,9)]) ((iu (Au (i:=2) (c:=.int 2) rfl ((jE 2 2).trans rfl))).trans rfl)).trans (fg ((As (bp (ds:=[iD b.1,iD p]) rfl rfl (CL h.1))).trans (bp (ds:=[iD b.2,iD n]) (b7 (q:=9) rfl (bS (xx rfl iN))) rfl (CL h.2)))))
theorem z4c{C:cK}(h:C.Ok n f):Aj [aT n f,cY n C]=(b9 true):=by
 have hw:=h.tW;have hb:=h.xy;have h1:=h.p1;have h8:=h.p8;have m:Af [iD C.p]=(b9 true):=by unfold Af Oj;refine dh (fg (ac:=[i9 C.p]) ((As (ρ:=[i9 C.p]) (bp (ds:=[iD C.p]) rfl rfl (pI _))).trans ?_));show(match some (D.bl (decide ((1:Int)<=Int.ofNat C.p)))with|some (.bl true)=>(match some (D.bl (decide (Int.ofNat C.p<=(8:Int))))with|some d=>some (d,9,_)|none=>none)|some (.bl false)=>some (D.bl false,9,_)|_=>none)=_;rw[Qr (by show(1:Int)<=(C.p:Int);omega),Qr (by show(C.p:Int)<=8;omega)]
 have ws:Ah [aT n f,iD C.p,.tup (C.W.map (ba n))]=(b9 true):=by
  have e:=GI (i:=3) (te:=aG xp 3 (bB (aa 0) (aa 1) (aa 3))) (it:=b8 (aa 2)) (ρ:=[t9 n f,i9 C.p,some (.tup (C.W.map (ba n)),9)]) (ds:=C.W.map (ba n)) rfl (kU (q:=9) rfl (by rw[Qb];omega)) (λ_=>true) (λ_=>9) (λd hd=>by obtain⟨w,hm,rfl⟩:=Qo.mp hd;exact bp (ds:=[aT n f,iD C.p,ba n w]) rfl rfl (k0j hn (h.ws w hm)))
  rw[ZG.mpr λ_ _=>rfl]at e;unfold Ah Oo;exact dh ((aR ((iu (Au (i:=2) (ds:=C.W.map (ba n)) (c:=.int 60) rfl (by rw[Qb];exact O0 hw))).trans rfl)).trans (fg e))
 have bs:Ai [aT n f,iD C.p,.tup (C.B.map cA)]=(b9 true):=by
  have e:=GI (i:=3) (te:=aG xq 3 (bB (aa 0) (aa 1) (aa 3))) (it:=b8 (aa 2)) (ρ:=[t9 n f,i9 C.p,some (.tup (C.B.map cA),9)]) (ds:=C.B.map cA) rfl (kU (q:=9) rfl (by rw[Qb];omega)) (λ_=>true) (λ_=>9) (λd hd=>by obtain⟨w,hm,rfl⟩:=Qo.mp hd;exact bp (ds:=[aT n f,iD C.p,cA w]) rfl rfl (k16 hn (h.bs w hm)))
  rw[ZG.mpr λ_ _=>rfl]at e;unfold Ai Ou;exact dh ((aR ((iu (Au (i:=2) (ds:=C.B.map cA) (c:=.int 60) rfl (by rw[Qb];exact O0 hb))).trans rfl)).trans (fg e))
 unfold Aj Ox;exact dh ((aR (ac:=[t9 n f,c9 n C]) ((iu (Au (i:=1) (c:=.int 3) rfl ((jE 3 3).trans rfl))).trans rfl)).trans ((aR (ac:=[t9 n f,c9 n C]) ((iu (An (b:=true) (oo (bp (ds:=[iD C.p]) rfl rfl m)))).trans rfl)).trans (fg ((As (bp (ds:=[aT n f,iD C.p,.tup (C.W.map (ba n))]) rfl rfl ws)).trans (bp (ds:=[aT n f,iD C.p,.tup (C.B.map cA)]) rfl rfl bs)))))
end
def vE (b:Nat×Nat):nA:=(b.1,λ_=>b.2)
def Av (w:Nat×Nat×(Nat->Nat)):nA:=(w.2.1,λv=>w.2.2 (gv v w.1))
def mM (C:cK):List nA:=C.B.map vE++C.W.map Av
section
variable {n:Nat}{f:Nat->Nat->Nat}(L:bq n f){C:cK}(hC:C.Ok n f)
include L hC
theorem GN:∀ s∈mM C,mG n C.p f s:=λs hs=>by
 unfold mM at hs;rcases Q9.mp hs with h|h
 .obtain⟨b,hb,rfl⟩:=Qo.mp h;have k:=hC.bs b hb;exact⟨k.1,λ_ _=>k.2,λ_ _ _ _ _=>L.idem _ k.2⟩
 .obtain⟨w,hw,rfl⟩:=Qo.mp h;have k:=hC.ws w hw;exact⟨k.2.1,λv hv=>k.2.2.1 _ (hv.gv k.1),λu v hu hv e=>k.2.2.2 _ _ (hu.gv k.1) (hv.gv k.1) (e _ k.1)⟩
end
abbrev Sn:=Bool×Nat
def bQ (s:Sn):D:=.tup [.str (if s.1 then "begin" else "way"),iD s.2]
@[simp] theorem j7z{s:Sn}:(bQ s).df=false:=rfl
def okN (C:cK)(s:Sn):Prop:=s.2<(if s.1 then C.B.length else C.W.length)
def fD (C:cK)(s:Sn):nA:=if s.1 then vE (C.B.getD s.2 (0,0))else Av (C.W.getD s.2 (0,0,id))
def qw (C:cK):List Sn:=(range C.B.length).map (λk=>(true,k))++(range C.W.length).map (λk=>(false,k))
theorem j4z(C:cK):∀ s∈qw C,okN C s:=λs hs=>by
 unfold qw at hs;rcases Q9.mp hs with h|h
 .obtain⟨k,hk,rfl⟩:=Qo.mp h;exact QA.mp hk
 .obtain⟨k,hk,rfl⟩:=Qo.mp h;exact QA.mp hk
theorem O1{α β:Type}(l:List α)(d:α)(g:α->β):(range l.length).map (λk=>g (l.getD k d))=l.map g:=by
 apply Zp;intro k;by_cases hk:k<l.length
 .simp[hk]
 .rw[Qz (by simp;omega),Qz (by simp;omega)]
theorem z85(C:cK):(qw C).map (fD C)=mM C:=by unfold qw mM;rw[Q4,QO,QO,<- O1 C.B (0,0) vE,<- O1 C.W (0,0,id) Av];rfl
theorem GO{C:cK}{s:Sn}(h:okN C s):fD C s∈mM C:=by
 unfold okN at h;unfold fD mM;cases hb:s.1 with
 | true=>
  rw[hb]at h;have h':s.2<C.B.length:=h;refine Q2 _ (Qo.mpr ⟨C.B.getD s.2 (0,0),?_,rfl⟩);rw[Qi,Qc h'];exact Q7 h'
 | false=>
  rw[hb]at h;have h':s.2<C.W.length:=h;refine Qt _ (Qo.mpr ⟨C.W.getD s.2 (0,0,id),?_,rfl⟩);rw[Qi,Qc h'];exact Q7 h'
theorem j0o:dG (.str "begin") (.str "begin")=some (.bl true):=by
 have h:eS (.str "begin")=true:=by decide +kernel
 unfold dG;rw[Qh ⟨h,h⟩];rfl
theorem j9s:dG (.str "way") (.str "begin")=some (.bl false):=by
 have h:eS (.str "begin")=true:=by decide +kernel
 have h':eS (.str "way")=true:=by decide +kernel
 have e:pZ (.str "way") (.str "begin")=false:=by decide +kernel
 unfold dG;rw[Qh ⟨h',h⟩,e]
theorem j6s(hp:p<v.length):L3.rB (aq v) none (some (Int.ofNat p))=aq (v.take p):=by
 unfold L3.rB;have e1:HT.bR (aq v).length 0 none=0:=rfl;have e2:HT.bR (aq v).length (aq v).length (some (Int.ofNat p))=p:=by
  rw[fP];have:¬ ((p:Int)<0):=by omega
  simp[HT.bR,this];omega
 rw[e1,e2,List.drop_zero,Nat.sub_zero];simp only[aq,List.map_take]
theorem z8v(hp:p<v.length):L3.rB (aq v) (some (Int.ofNat p+1)) none=aq (v.drop (p+1)):=by
 unfold L3.rB;have e1:HT.bR (aq v).length 0 (some (Int.ofNat p+1))=p+1:=by
  rw[fP];have:¬ ((p:Int)+1<0):=by omega
  simp[HT.bR,this];omega
 have e2:HT.bR (aq v).length (aq v).length none=(aq v).length:=rfl;rw[e1,e2,Yq (by rw[ZZ];exact Qj _)];simp only[aq,List.map_drop]
theorem j63(hp:p<v.length):aq (v.take p)++[iD x]++aq (v.drop (p+1))=aq (v.set p x):=by rw[List.set_eq_take_append_cons_drop,Qh hp];simp[aq]
section
variable {n:Nat}{f:Nat->Nat->Nat}(L:bq n f){C:cK}(hC:C.Ok n f)
include L hC
theorem zr(hv:Vn n C.p v){s:Sn}(hs:okN C s):zZ [cY n C,.tup (aq v),bQ s]=some (.tup [.int (Int.ofNat (fD C s).1),iD ((fD C s).2 v)],9):=by
 obtain⟨b,k⟩:=s;unfold okN at hs;unfold zZ N8;have c1:dJ (cY n C) 1=some (.tup (C.W.map (ba n))):=rfl;have c2:dJ (cY n C) 2=some (.tup (C.B.map cA)):=rfl;cases b with
 | true=>
  have hk:k<C.B.length:=hs;have s0:dJ (bQ (true,k)) 0=some (.str "begin"):=rfl;have s1:dJ (bQ (true,k)) 1=some (iD k):=rfl;have e:dJ (.tup (C.B.map cA)) (Int.ofNat k)=some (cA (C.B.getD k (0,0))):=zx (by rw[Qp,Qc hk];simp[hk]);have gu:fD C (true,k)=vE (C.B.getD k (0,0)):=rfl;rw[gu];generalize C.B.getD k (0,0)=b at *
  generalize bQ (true,k)=sd at *
  have hb:cA b=.tup [.int (Int.ofNat (vE b).1),iD ((vE b).2 v)]:=rfl;rw[<- hb];simp[-ofNat_eq_natCast,s0,s1,c2,e,j0o]
 | false=>
  have hk:k<C.W.length:=hs;have s0:dJ (bQ (false,k)) 0=some (.str "way"):=rfl;have s1:dJ (bQ (false,k)) 1=some (iD k):=rfl;have e:dJ (.tup (C.W.map (ba n))) (Int.ofNat k)=some (ba n (C.W.getD k (0,0,id))):=zx (by rw[Qp,Qc hk];simp[hk]);have gu:fD C (false,k)=Av (C.W.getD k (0,0,id)):=rfl;have hw:C.W.getD k (0,0,id)∈C.W:=by rw[Qi,Qc hk];exact Q7 hk
  have ok:=hC.ws _ hw;rw[gu];generalize C.W.getD k (0,0,id)=w at *
  have w0:dJ (ba n w) 0=some (iD w.1):=rfl;have w1:dJ (ba n w) 1=some (iD w.2.1):=rfl;have w2:dJ (ba n w) 2=some (aU n w.2.2):=rfl;have a0:=Cv (v:=v) (i:=w.1) (by rw[hv.len];exact ok.1);have a1:=kS (r:=w.2.2) (hv.gv ok.1);have u0:bQ (false,k)=bQ (false,k):=rfl;generalize hsd:bQ (false,k)=sd at *
  have hL:sd.df=false:=by rw[<- hsd];rfl
  show _=some (D.tup [iD w.2.1,iD (w.2.2 (gv v w.1))],9);generalize hwt:ba n w=wt at *
  have hL2:wt.df=false:=by rw[<- hwt];rfl
  simp[-ofNat_eq_natCast,s0,s1,c1,e,j9s,w0,w1,w2,a0,a1,hL,hL2]
theorem z62(hv:Vn n C.p v){s:Sn}(hs:okN C s):z_ [aT n f,cY n C,.tup (aq v),bQ s]=(v9 (fj f v (fD C s))):=by
 have ok:=GN L hC _ (GO hs);have hp:=zr L hC hv hs;have hx:=ok.lt v hv;have hg:=hv.gv ok.pl;have cE:(fD C s).1<v.length:=by rw[hv.len];exact ok.pl
 have tY:=hC.p8;have hl:=hv.len;unfold fj;generalize (fD C s).1=g at *
 generalize (fD C s).2 v=x at *
 have a0:=Cv cE;have a1:=lK (f:=f) hg;have a2:=mB (f:=f) (i:=gv v g) hx;have s1:=j6s cE;have s2:=z8v cE;have s3:=j63 (x:=f (gv v g) x) cE;have l1:(aq (v.take g)).length=g:=by rw[fP,Zg];omega
 have l2:(aq (v.drop (g+1))).length=v.length-(g+1):=by rw[fP,ZZ]
 unfold z_ N_;refine dh ?_;show aF _ _ [t9 n f,c9 n C,v9 v,some (bQ s,9),none,none,none]=_;refine(aR (ac:=[t9 n f,c9 n C,v9 v,some (bQ s,9),some (.tup [iD g,iD x],9),none,none]) (by simp[-ofNat_eq_natCast,hp])).trans ?_;have t0:dJ (.tup [iD g,iD x]) 0=some (iD g):=rfl;have t1:dJ (.tup [iD g,iD x]) 1=some (iD x):=rfl;refine(aR (ac:=[t9 n f,c9 n C,v9 v,some (bQ s,9),some (.tup [iD g,iD x],9),i9 g,none]) (by simp[-ofNat_eq_natCast,t0])).trans ?_;refine(aR (ac:=[t9 n f,c9 n C,v9 v,some (bQ s,9),some (.tup [iD g,iD x],9),i9 g,i9 (f (gv v g) x)]) (by simp[-ofNat_eq_natCast,a0,a1,a2,t1])).trans ?_;rw[<- s3];have m1:(aq (v.take g)).length+1<=1000:=by omega
 have m2:(aq (v.take g)).length+1+(aq (v.drop (g+1))).length<=1000:=by omega
 generalize aq (v.take g)=u1 at *
 generalize aq (v.drop (g+1))=u2 at *
 have m1':u1.length<=999:=by omega
 simp[-ofNat_eq_natCast,s1,s2,m1,m1',m2]
structure nH (n:Nat) (f:Nat->Nat->Nat) (p:Nat) (l:List nA) (v u:List Nat):Prop where
 V:Vn n p u
 cl:qh f l u
 up:iP f p v u
 le:∀ a,Vn n p a->qh f l a->iP f p v a->iP f p u a
abbrev R8 (n:Nat)(f:Nat->Nat->Nat)(C:cK)(l:List Sn)(v:List Nat)(R:List D)(a x y:OD:=none):a_:=[t9 n f,c9 n C,some (.lst (l.map bQ),0),v9 v,some (.lst R,1),a,x,y]
theorem j0z(hv:Vn n C.p v){l:List Sn}(hl:∀ s∈l,okN C s)(hlen:l.length<=1000) :
  ∃ (u:List Nat) (R:List D),nH n f C.p (l.map (fD C)) v u/\Aa [aT n f,cY n C,.lst (l.map bQ),.tup (aq v)]=some (.tup [.tup (aq u),.lst R],9):=by
 have tY:=hC.p8;have hn8:=L.hi;have hmu:=bq.zE (f:=f) hv;have hmu':C.p*n<=8*16:=Uc tY hn8;have hS:∀ t∈l.map (fD C),mG n C.p f t:=λt ht=>by obtain⟨s,hs,rfl⟩:=Qo.mp ht;exact GN L hC _ (GO (hl s hs))
 have round:∀ (m:List Sn),(∀ s∈m,s∈l)->∀ (w:List Nat) (R:List D) (a x y:OD),Vn n C.p w->bq.mu n f w+R.length<=bq.mu n f v->
   ∃ R' x' y',bq.mu n f ((m.map (fD C)).foldl (fj f) w)+R'.length<=bq.mu n f v/\fY (av 6) Gq (m.map bQ) (R8 n f C l w R a x y)=some (.nx (R8 n f C l ((m.map (fD C)).foldl (fj f) w) R' a x' y')):=by
  intro m;induction m with
  | nil=>intro _ w R a x y _ h;exact⟨R,x,y,h,rfl⟩
  | cons s m ih=>
   intro hm w R a x y hw h;have hs:=hl s (hm s Qg);have ok:=GN L hC _ (GO hs);have fT:=L.kn ok hw;have hb:=z62 L hC hw hs;have hd:=MG (fj f w (fD C s)) w;have one:∃ R',bq.mu n f (fj f w (fD C s))+R'.length<=bq.mu n f v/\Gq (R8 n f C l w R a (some (bQ s,9)) y)=some (.nx (R8 n f C l (fj f w (fD C s)) R' a (some (bQ s,9)) ((v9 (fj f w (fD C s)))))):=by
    by_cases he:fj f w (fD C s)=w
    .rw[Qr he]at hd;refine⟨R,by rw[he];exact h,(aR (dw (bp (ds:=[aT n f,cY n C,.tup (aq w),bQ s]) rfl rfl hb) rfl)).trans ((aR ((iu (eH (cI (q:=9) (q':=9) rfl rfl hd))).trans rfl)).trans rfl)⟩
    .rw[QF he]at hd;have dz:=L.tK hw fT (L.lM ok hw) (λz=>he z.symm);refine⟨R++[bQ s],by rw[Qk];show _+(R.length+1)<=_;omega,(aR (dw (bp (ds:=[aT n f,cY n C,.tup (aq w),bQ s]) rfl rfl hb) rfl)).trans ((aR ((nu (eH (cI (q:=9) (q':=9) rfl rfl hd))).trans (tJ (d:=bQ s) rfl (bS (q:=9) rfl) rfl (by omega) rfl))).trans rfl)⟩
   obtain⟨R1,h1,e1⟩:=one;obtain⟨R2,x2,y2,h2,e2⟩:=ih (λt ht=>hm t (Qf _ ht)) _ R1 a _ _ fT h1;refine⟨R2,x2,y2,h2,?_⟩;rw[QM];unfold fY;rw[show av 6 (bQ s) (R8 n f C l w R a x y)=some (R8 n f C l w R a (some (bQ s,9)) y)from rfl];simp only[e1];exact e2
 obtain⟨am,e,u,R,x,y,hu,rfl⟩:=FY (c:=bg (e2 cH (aa 3) (aa 5))) (b:=Gr)
  (Q:=λρ=>∃ u R x y,nH n f C.p (l.map (fD C)) v u/\ρ=R8 n f C l u R ((v9 u)) x y)
  (λk ρ=>∃ w R x y a,Vn n C.p w/\iP f C.p v w/\(∀ x,Vn n C.p x->qh f (l.map (fD C)) x->iP f C.p v x->iP f C.p w x)/\bq.mu n f w+R.length<=bq.mu n f v /\
    ((a=.bc/\k=bq.mu n f w+1)\/∃ y,a=.tup (aq y)/\Vn n C.p y/\w=(l.map (fD C)).foldl (fj f) y/\k=bq.mu n f w+(if y=w then 0 else 1))/\ρ=R8 n f C l w R (some (a,9)) x y)
  (k:=bq.mu n f v+1) (ρ:=R8 n f C l v [] (some (.bc,9)) none none) (by omega) ⟨v,[],none,none,.bc,hv,L.km hv,λx _ _ h=>h,Qj _,.inl ⟨rfl,rfl⟩,rfl⟩ (λk ρ aj=>by
   obtain⟨w,R,x,y,a,hw,h1,h2,h5,h6,rfl⟩:=aj;have vF:=L.jI hS hw;have up:=L.iR hS hw;obtain⟨R',x',y',r3,r4⟩:=round l (λ_ h=>h) w R ((v9 w)) x y hw h5;have nx:Gr (R8 n f C l w R (some (a,9)) x y)=some (.nx (R8 n f C l ((l.map (fD C)).foldl (fj f) w) R' ((v9 w)) x' y')):=
    (aR (ac:=R8 n f C l w R ((v9 w)) x y) rfl).trans ((iF (ds:=l.map bQ) (ac:=R8 n f C l w R ((v9 w)) x y) (Qh (by rw[Qb];exact hlen))).trans r4)
   have hk:(if w=(l.map (fD C)).foldl (fj f) w then 0 else 1)+bq.mu n f ((l.map (fD C)).foldl (fj f) w)<bq.mu n f w+1:=by
    by_cases he:w=(l.map (fD C)).foldl (fj f) w
    .rw[Qh he,<- he];omega
    .rw[Ql he];have:=L.tK hw vF up he;omega
   have key:(bg (e2 cH (aa 3) (aa 5)) (R8 n f C l w R (some (a,9)) x y)=some (true,R8 n f C l w R (some (a,9)) x y)/\bq.mu n f w+1<=k)\/(bg (e2 cH (aa 3) (aa 5)) (R8 n f C l w R (some (a,9)) x y)=some (false,R8 n f C l w R (some (a,9)) x y)/\a=.tup (aq w)/\w=(l.map (fD C)).foldl (fj f) w):=by
    rcases h6 with⟨rfl,O2⟩|⟨y0,rfl,hy,GP,O2⟩
    .have eJ:cH (.tup (aq w)) .bc=some (.bl true):=by unfold cH;rw[Qh ⟨(wY w).ok,(Sh.bc (k:=0)).ok⟩];rfl
     exact .inl ⟨eH (cI (q:=9) (q':=9) rfl rfl eJ),by omega⟩
    .have hd:=MG w y0;by_cases GQ:w=y0
     .subst GQ;rw[Qr rfl]at hd;exact .inr ⟨eH (cI (q:=9) (q':=9) rfl rfl hd),rfl,GP⟩
     .rw[QF GQ]at hd;rw[Ql λz=>GQ z.symm]at O2;exact .inl ⟨eH (cI (q:=9) (q':=9) rfl rfl hd),by omega⟩
   rcases key with⟨ht,sW⟩|⟨ht,rfl,GP⟩
   .exact .inr ⟨_,_,bq.mu n f ((l.map (fD C)).foldl (fj f) w)+(if w=(l.map (fD C)).foldl (fj f) w then 0 else 1),ht,nx,by omega,_,R',x',y',.tup (aq w),vF,L.jo hv hw vF h1 up,λx hx cx hvx=>L.gY hx hS hw cx (h2 x hx cx hvx),r3,.inr ⟨w,rfl,hw,rfl,rfl⟩,rfl⟩
   .exact .inl ⟨_,ht,w,R,x,y,⟨hw,(L.gL hS hw).mp GP.symm,h1,h2⟩,rfl⟩)
 refine⟨u,R,hu,?_⟩;unfold Aa Oa;refine dh ?_;show aF _ _ [t9 n f,c9 n C,some (.lst (l.map bQ),0),v9 v,none,none,none,none]=_;exact(aR (ac:=[t9 n f,c9 n C,some (.lst (l.map bQ),0),v9 v,some (.lst [],1),none,none,none]) rfl).trans ((aR (ac:=R8 n f C l v [] (some (.bc,9)) none none) rfl).trans ((aR e).trans rfl))
end
theorem dg1(a b:D):kP [AT,"way"] [a,b] "begin" = some a:=by unfold kP;rw[Qh rfl]
theorem dg2(a b:D):kP [AT,"way"] [a,b] "way" = some b:=by unfold kP;rw[Ql (by decide)];unfold kP;rw[Qh rfl]
section
variable {n:Nat}{f:Nat->Nat->Nat}{C:cK}
def GR (C:cK)(s:Sn):Bool:=decide (s.2<(if s.1 then C.B.length else C.W.length))
theorem z9w{s:Sn}:GR C s=true ↔ okN C s:=decide_eq_true_iff
theorem O3(m k:Nat):gZ m (iD k)=decide (k<m):=by show(decide ((0:Int)<=(k:Int))&&decide ((k:Int)<(m:Int)))=_;simp
theorem z6h(s:Sn):zY [bQ s,.iH [AT,"way"] [iD C.B.length,iD C.W.length]]=(b9 (GR C s)):=by
 obtain⟨b,k⟩:=s;have l2:cH (.int 2) (.int 2)=some (.bl false):=(j5f _ _).trans (by simp);have n1:=λm=>Aq m (iD k);have g1:=dg1 (iD C.B.length) (iD C.W.length);have g2:=dg2 (iD C.B.length) (iD C.W.length);have s0:∀ x:Str,dJ (.tup [.str x,iD k]) 0=some (.str x):=λ_=>rfl;have s1:∀ x:Str,dJ (.tup [.str x,iD k]) 1=some (iD k):=λ_=>rfl;have ll:∀ x:Str,ip (.tup [.str x,iD k])=some 2:=λ_=>rfl;unfold zY N4;cases b with
 | true=>
  show bX _ _ [.tup [.str "begin",iD k],_]=(b9 (decide (k<C.B.length)));simp[-ofNat_eq_natCast,ja,ll,l2,s0,s1,g1,n1,O3]
 | false=>
  show bX _ _ [.tup [.str "way",iD k],_]=(b9 (decide (k<C.W.length)));simp[-ofNat_eq_natCast,ja,ll,l2,s0,s1,g2,n1,O3]
theorem z0p(s:Sn):tS [cY n C,bQ s]=(b9 (GR C s)):=by
 have h:=z6h (C:=C) s;unfold tS N5;have e1:sZ 0 2 [c9 n C,some (bQ s,9)]=some (Int.ofNat C.B.length):=by show some (Int.ofNat (C.B.map cA).length)=_;rw[Qb]
 have oX:sZ 0 1 [c9 n C,some (bQ s,9)]=some (Int.ofNat C.W.length):=by show some (Int.ofNat (C.W.map (ba n)).length)=_;rw[Qb]
 have ed:yL "begin" "way" (sZ 0 2) (sZ 0 1) [c9 n C,some (bQ s,9)]=some (.iH [AT,"way"] [iD C.B.length,iD C.W.length],9,[c9 n C,some (bQ s,9)]):=by unfold yL;rw[e1,oX]
 exact dh (fg (bp (b7 (f:=aa 1) (d:=bQ s) (q:=9) (ρ:=[c9 n C,some (bQ s,9)]) (ac:=[c9 n C,some (bQ s,9)]) rfl (bS ed)) rfl h))
theorem z3g{s:Sn}(hs:okN C s):tS [cY n C,bQ s]=(b9 true):=by rw[z0p,z9w.mpr hs]
theorem y1l{l:List Sn}(hl:∀ s∈l,okN C s)(hlen:l.length<=1000):xm [cY n C,.lst (l.map bQ)]=some (.bc,9):=by
 have hit:b8 (aa 1) [c9 n C,some (.lst (l.map bQ),0)]=some (l.map bQ,[c9 n C,some (.lst (l.map bQ),0)]):=by simp[hlen]
 have e:=GI (i:=2) (te:=aG tS 2 (bF (aa 0) (aa 2))) (ρ:=[c9 n C,some (.lst (l.map bQ),0)]) rfl hit (λ_=>true) (λ_=>9) (λd hd=>by obtain⟨s,hs,rfl⟩:=Qo.mp hd;simp[z3g (n:=n) (hl s hs)])
 have ea:(l.map bQ).all (λ_=>true)=true:=by simp
 rw[ea]at e;unfold xm N6;show(match cL _ _ _ [c9 n C,some (.lst (l.map bQ),0)]with|some (.rt d q)=>some (d,q)|some (.nx _)=>some (D.bc,9)|_=>none)=_;have ei:cL (fL (eL (eB p7 (aE (cQ 1 (b8 (aa 1)) (av 2) cN (aG tS 2 (bF (aa 0) (aa 2))) false))))) yJ cU [c9 n C,some (.lst (l.map bQ),0)]=some (.nx [c9 n C,some (.lst (l.map bQ),0)]):=by refine(iu ?_).trans rfl;unfold fL eL;rw[e];rfl
 rw[ei]
theorem z9t:(qw C).length=C.B.length+C.W.length:=by simp[qw]
theorem y8n(hB:C.B.length<=60)(hW:C.W.length<=60):Ad [cY n C]=some (.lst ((qw C).map bQ),1):=by
 unfold Ad Oe;refine dh ?_;show aF _ _ [c9 n C,none]=_;have c1:dJ (cY n C) 1=some (.tup (C.W.map (ba n))):=rfl;have c2:dJ (cY n C) 2=some (.tup (C.B.map cA)):=rfl;have lB:ip (.tup (C.B.map cA))=some C.B.length:=by simp[ip]
 have lW:ip (.tup (C.W.map (ba n)))=some C.W.length:=by simp[ip]
 have h1:=e_ (k:=1) (tt:=cN) (te:=dF (bF (eC (.str "begin")) (aa 2))) (deep:=false) (xA (m:=C.B.length) (by omega) (fe:=eB sP (aE (aw 0 (ai 2)))) (ρ:=[c9 n C,none]) (am:=[c9 n C,none]) (q:=9) (by simp[-ofNat_eq_natCast,c2,lB])) (vm (i:=2) rfl (λ_=>true) (λk=>bQ (true,k)) (λ_=>9) (λk hk=>rfl) (λk hk _=>by simp[-ofNat_eq_natCast,bQ]));rw[show(range C.B.length).filter (λ_=>true)=range C.B.length by simp]at h1;refine(aR (ac:=[c9 n C,some (.lst ((range C.B.length).map λk=>bQ (true,k)),1)]) (dw h1 rfl)).trans ?_;have h2:=e_ (k:=1) (tt:=cN) (te:=dF (bF (eC (.str "way")) (aa 2))) (deep:=false) (xA (m:=C.W.length) (by omega) (fe:=eB sP (aE (aw 0 (ai 1)))) (ρ:=[c9 n C,some (.lst ((range C.B.length).map λk=>bQ (true,k)),0)]) (am:=[c9 n C,some (.lst ((range C.B.length).map λk=>bQ (true,k)),0)]) (q:=9) (by simp[-ofNat_eq_natCast,c1,lW])) (vm (i:=2) rfl (λ_=>true) (λk=>bQ (false,k)) (λ_=>9) (λk hk=>rfl) (λk hk _=>by simp[-ofNat_eq_natCast,bQ]));rw[show(range C.W.length).filter (λ_=>true)=range C.W.length by simp]at h2;have ea:(qw C).map bQ=((range C.B.length).map λk=>bQ (true,k))++((range C.W.length).map λk=>bQ (false,k)):=by unfold qw;rw[Q4,QO,QO];rfl
 rw[ea];refine fg (ac:=[c9 n C,some (.lst ((range C.B.length).map λk=>bQ (true,k)),0)]) ?_;have v1:aa 1 [c9 n C,some (.lst ((range C.B.length).map λk=>bQ (true,k)),1)]=some (.lst ((range C.B.length).map λk=>bQ (true,k)),0,[c9 n C,some (.lst ((range C.B.length).map λk=>bQ (true,k)),0)]):=rfl;unfold sY;rw[v1];have hl:((range C.B.length).map λk=>bQ (true,k)).length+((range C.W.length).map λk=>bQ (false,k)).length<=1000:=by rw[Qb,Qb,QK,QK];omega
 generalize ((range C.B.length).map λk=>bQ (true,k))=x at *
 generalize ((range C.W.length).map λk=>bQ (false,k))=y at *
 rw[Ql (by decide)]at h2;simp only[h2,Qh hl]
end
section
variable {n:Nat}{f:Nat->Nat->Nat}(L:bq n f){z:Nat}(hz:z<n)(bz:∀ j,j<n->f z j=j){C:cK}(hC:C.Ok n f)
def mO (p z:Nat):List Nat:=replicate p z
theorem j44{v:Nat}(ha:fa ρ=some (.lst [iD v],1,ac))(hb:fb ac=some ((iD m),q,ap))(hm:m<=1000):nX fa fb ρ=some (.lst (aq (mO m v)),1,ap):=by
 have e:(replicate m [iD v]).flatten=aq (mO m v):=by simp[aq,mO,ZD]
 unfold nX;rw[ha];simp only[hb];rw[Qh ⟨by show(-1000:Int)<=(m:Int);omega,by show(m:Int)<=1000;omega,by show 1*m<=1000;omega⟩,<- e];rfl
theorem j9b(hz:z<n):Vn n p (mO p z):=⟨by simp[mO],λx hx=>by rw[(List.mem_replicate.mp hx).2];exact hz⟩
theorem j55(hi:i<p):gv (mO p z) i=z:=by unfold gv mO;simp[hi]
theorem j2l(bz:∀ j,j<n->f z j=j)(hv:Vn n p v):iP f p (mO p z) v:=λi hi=>by rw[j55 hi];exact bz _ (hv.gv hi)
include L hz bz hC
theorem z6c:Ab [aT n f,cY n C]=(v9 (mO C.p z)):=by have hn:n<=1000:=Qw L.hi (by decide);have tY:=hC.p8;unfold Ab Ob;exact dh (fg (nv (bS (j44 (q:=9) (ρ:=[t9 n f,c9 n C]) (tU (bS (bp (ds:=[aT n f]) rfl rfl (GD L hz bz hn))) (by show 1<=1000;decide)) rfl (by omega)))))
theorem z0a{l:List Sn}(hl:∀ s∈l,okN C s)(hlen:l.length<=1000) :
  ∃ (u:List Nat) (k:D),nH n f C.p (l.map (fD C)) (mO C.p z) u/\Ac [aT n f,cY n C,.lst (l.map bQ)]=some (.tup [.tup (aq u),k],9):=by
 obtain⟨u,R,h1,e⟩:=j0z L hC (j9b (p:=C.p) hz) hl hlen;refine⟨u,iD R.length,h1,?_⟩;have r0:=y1l (n:=n) hl hlen;have r1:=z6c L hz bz hC;unfold Ac Oc;have e0:fX (aG xm 2 (bF (aa 1) (aa 2))) [t9 n f,c9 n C,some (.lst (l.map bQ),0),none]=some (.nx [t9 n f,c9 n C,some (.lst (l.map bQ),0),none]):=by unfold fX;rw[bp (n:=2) (ds:=[cY n C,.lst (l.map bQ)]) (b7 (q:=9) rfl (bS (mK rfl))) rfl r0];rfl
 exact dh ((aR e0).trans ((aR (dw (bp (ds:=[aT n f,cY n C,.lst (l.map bQ),.tup (aq (mO C.p z))]) (b7 (q:=9) rfl (b7 (q:=9) rfl (b7 (mK rfl) (bS (bp (ds:=[aT n f,cY n C]) rfl rfl r1))))) rfl e) rfl)).trans rfl))
theorem O4:∃ u,nH n f C.p (mM C) (mO C.p z) u/\xn [aT n f,cY n C]=(v9 u):=by have hB:=hC.xy;have hW:=hC.tW;obtain⟨u,k,h1,e⟩:=z0a L hz bz hC (j4z C) (by rw[z9t];omega);rw[z85]at h1;refine⟨u,h1,?_⟩;unfold xn Oh;exact dh (fg (CH (bp (ds:=[aT n f,cY n C,.lst ((qw C).map bQ)]) (b7 (q:=9) rfl (b7 (q:=9) rfl (bS (bp (ds:=[cY n C]) rfl rfl (y8n (n:=n) hB hW))))) rfl e) rfl rfl rfl rfl))
end
theorem ku{α:Type}{k:Nat}{pt:iB}{tt:cS}(enc:α->D)(ext:α->a_)(b:α->Bool)(v:α->D)(q:α->Nat):∀ l:List α,
  (∀ x∈l,pt (enc x) (ρ++replicate k none)=some (ρ++ext x)/\tt (ρ++ext x)=some (b x,ρ++ext x)/\(b x=true->te (ρ++ext x)=some (v x,q x,ρ++ext x)))->j9 k pt tt te false (l.map enc) ρ=some ((l.filter b).map v,ρ)
 | [],_=>rfl
 | x::l,h=>by
  obtain⟨h1,h2,h3⟩:=h x Qg;have ih:=ku enc ext b v q l (λy m=>h y (Qf _ m));have ht:(ρ++ext x).take ρ.length=ρ:=by simp
  rw[QM];unfold j9;rw[h1];simp only[h2];cases hb:b x with
  | true=>
   simp only[ZE,h3 hb,ht,ih];rw[QV hb];simp
  | false=>
   simp only[ht,ih];rw[QZ (by rw[hb];simp)];simp
theorem O5(i:Int):PyData.eqv (b6 (.int i)) (b6 (.int i))=true:=by show(i==i)=true;simp
theorem GS(h:∀ d∈ds,PyData.eqv (b6 d) (b6 d)=true):PyData.eqv (b6 (.tup ds)) (b6 (.tup ds))=true:=by
 have go:∀ ds:List D,(∀ d∈ds,PyData.eqv (b6 d) (b6 d)=true)->PyData.eqvAll (eG ds) (eG ds)=true:=by
  intro ds;induction ds with
  | nil=>intro _;rfl
  | cons d ds ih=>
   intro h;show(PyData.eqv (b6 d) (b6 d)&&PyData.eqvAll (eG ds) (eG ds))=true;rw[h d Qg,ih λx m=>h x (Qf _ m)];rfl
 exact go ds h
theorem k2s{P:D->Prop}{a b c:D}(h1:P a)(h2:P b)(h3:P c):∀ d ∈ [a,b,c],P d:=λd hd=>by
 rcases Qm.mp hd with rfl|hd
 .exact h1
 .rcases Qm.mp hd with rfl|hd
  .exact h2
  .rcases Qm.mp hd with rfl|hd
   .exact h3
   .cases hd
theorem CM{P:D->Prop}{a b:D}(h1:P a)(h2:P b):∀ d ∈ [a,b],P d:=λd hd=>by
 rcases Qm.mp hd with rfl|hd
 .exact h1
 .rcases Qm.mp hd with rfl|hd
  .exact h2
  .cases hd
theorem GU{α:Type}[Inhabited α]{P:Nat->α->Prop}(h:∀ y,y<n->∃ c,P y c):∃ c:Nat->α,∀ y,y<n->P y (c y):=
 ⟨λy=>if hy:y<n then Classical.choose (h y hy)else default,λy hy=>by dsimp only;rw[VI hy];exact Classical.choose_spec (h y hy)⟩
section
variable {n:Nat}{f:Nat->Nat->Nat}(L:bq n f){z:Nat}(hz:z<n)(bz:∀ j,j<n->f z j=j){r:Nat->Nat}(hr:∀ i,i<n->r i<n)(hm:∀ x y,x<n->y<n->f x y=y->f (r x) (r y)=r y)
include L hr hm
theorem y0p:zQ [aT n f,aU n r]=some (.bc,9):=by have hn:n<=1000:=Qw L.hi (by decide);have h:=OY (f:=f) hn (aU n r);rw[OW hr,CK.mpr λy x hy hx e=>hm x y hx hy e]at h;unfold zQ Nv;simp[h]
theorem y77(hy:y<n):∃ c,c<n/\f y c=c/\f (r c) c=c/\(∀ x,x<n->f y x=x->f (r x) x=x->f c x=x)/\xi [aT n f,aU n r,iD y]=(i9 c):=by
 have hn:n<=1000:=Qw L.hi (by decide);have h8:=L.hi;have hcy:=bq.lN (n:=n) (f:=f) y;obtain⟨am,e,c,hc,h1,h2,h3,rfl⟩:=FY (c:=fL (eL (aG oh 3 (bB (aa 0) (aw 1 (aa 3)) (aa 3))))) (b:=Nw)
  (Q:=λρ=>∃ c,c<n/\f y c=c/\f (r c) c=c/\(∀ x,x<n->f y x=x->f (r x) x=x->f c x=x)/\ρ=[t9 n f,r9 n r,i9 y,i9 c])
  (λk ρ=>∃ c,c<n/\k=bq.cnt n f c/\f y c=c/\(∀ x,x<n->f y x=x->f (r x) x=x->f c x=x)/\ρ=[t9 n f,r9 n r,i9 y,i9 c]) (k:=bq.cnt n f y) (ρ:=[t9 n f,r9 n r,i9 y,i9 y]) (by omega) ⟨y,hy,rfl,L.idem y hy,λx hx h _=>h,rfl⟩ (λk ρ aj=>by
   obtain⟨c,hc,hk,h1,h2,GV⟩:=aj;subst GV hk;have hb:=CI (f:=f) (hr c hc) hc;have a1:=kS (r:=r) hc;by_cases h:f (r c) c=c
   .refine .inl ⟨[t9 n f,r9 n r,i9 y,i9 c],?_,c,hc,h1,h,h2,rfl⟩;simp[-ofNat_eq_natCast,a1,hb,h]
   .have vG:=hr c hc;have vX:=L.cl c (r c) hc vG;refine .inr ⟨[t9 n f,r9 n r,i9 y,i9 c],[t9 n f,r9 n r,i9 y,i9 (f c (r c))],bq.cnt n f (f c (r c)),?_,?_,?_,f c (r c),vX,rfl,?_,λx hx GX Aw=>?_,rfl⟩
    .simp[-ofNat_eq_natCast,a1,hb,h]
    .have a2:=lK (f:=f) hc;have a3:=mB (f:=f) (i:=c) vG;simp[-ofNat_eq_natCast,a1,a2,a3]
    .exact L.lO hc vX (L.lL hc vG) λq=>h (by rw[L.comm (r c) c vG hc];exact q.symm)
    .exact L.le_trans hy hc vX h1 (L.lL hc vG)
    .have Ax:=h2 x hx GX Aw;exact L.lub hc vG hx Ax (L.le_trans vG (hr x hx) hx (hm c x hc hx Ax) Aw))
 refine⟨c,hc,h1,h2,h3,?_⟩;unfold xi Nx;exact dh ((aR (ac:=[t9 n f,r9 n r,i9 y,i9 y]) (dw (d:=(iD y)) (q:=9) rfl rfl)).trans ((aR e).trans rfl))
theorem z9b:∃ c:Nat->Nat,(∀ y,y<n->c y<n/\f y (c y)=c y/\f (r (c y)) (c y)=c y/\∀ x,x<n->f y x=x->f (r x) x=x->f (c y) x=x)/\zR [aT n f,aU n r]=(r9 n c):=by have hn:n<=1000:=Qw L.hi (by decide);obtain⟨c,hc⟩:=GU (n:=n) λy hy=>y77 L hr hm (y:=y) hy;refine⟨c,λy hy=>⟨(hc y hy).1,(hc y hy).2.1,(hc y hy).2.2.1,(hc y hy).2.2.2.1⟩,?_⟩;unfold zR Ny;have O6:=e_ (k:=1) (tt:=cN) (te:=aG xi 3 (bB (aa 0) (aa 1) (aa 2))) (deep:=false) (kr hn (i:=0) (ρ:=[t9 n f,r9 n r]) rfl iN) (vm (i:=2) rfl (λ_=>true) (λw=>(iD (c w))) (λ_=>9) (λj hj=>rfl) (λj hj _=>bp (ds:=[aT n f,aU n r,iD j]) rfl rfl (hc j hj).2.2.2.2));rw[show(range n).filter (λ_=>true)=range n by simp,<- rN]at O6;exact dh ((aR (ac:=[t9 n f,r9 n r]) (by simp[y0p L hr hm])).trans (fg (nv (bS O6))))
include hz bz
end
section
variable {n:Nat}{f:Nat->Nat->Nat}
theorem z6w(hn:n<=1000)(v:Nat):zM [aT n f,.int (Int.ofNat v)]=some (aU n λ_=>v,9):=by
 unfold zM Nk;have b1:(-1000:Int)<=n:=by omega
 have b2:(n:Int)<=1000:=by omega
 have e:(replicate n [D.int (Int.ofNat v)]).flatten=aq ((range n).map λ_=>v):=by simp[aq,ZD,YU]
 have e':(replicate n [D.int (v:Int)]).flatten=aq ((range n).map λ_=>v):=e;simp[iN,b1,b2,hn,aU,e']
theorem O7(hn:n<=1000)(hr:∀ i,i<n->r i<n):tP [aU n r,aU n s]=some (aU n λi=>s (r i),9):=by
 unfold tP NJ;refine dh (fg (ac:=[r9 n r,r9 n s]) ?_);have hi:b8 (aa 0) [r9 n r,r9 n s]=some (aq ((range n).map r),[r9 n r,r9 n s]):=by simp[aU,fP,hn]
 have hc:=e_ (k:=1) (te:=aw 1 (aa 2)) (deep:=false) hi (MF (i:=2) ((range n).map r) rfl (λy=>(iD (s y))) (λ_=>9) (λy hy=>by obtain⟨i,hi,rfl⟩:=Qo.mp hy;have:=hr i (QA.mp hi);simp[-ofNat_eq_natCast,kS this]))
 rw[QO]at hc;exact(nv (bS hc)).trans (Zy (λd=>some (d,9,_)) (MH (λi=>s (r i))))
end
theorem z9p{pt:iB}(h1:pt d ρ=some ac)(h2:body ac=some (.bk ap)):fY pt body (d::ds) ρ=some (.nx ap):=by unfold fY;rw[h1];simp only[h2]
theorem j0e(O8:ns.length<=63)(hm:m+1<=1000)(once:∀ ns':List Int,vB [bY ns']=(b9 true)):∃ x,eP (cP (aE (eC (iD (m+1))))) (av 1) Ak [n0 ns,none]=some (.nx [n0 ns,x]):=by
 have hl:(ns.map D.int).length<=1000:=by rw[Qb];omega
 have hc:∀ (t:Nat),cQ 1 (b8 (aa 0)) (av 2) cN (e2 cC (aa 2) (e2 iX (ai 7919) (aa 1))) false [n0 ns,i9 t]=some (bY (ns.map λx=>x+7919*Int.ofNat t),1,[n0 ns,i9 t]):=λt=>by
  have h:=OU (i:=2) (te:=e2 cC (aa 2) (e2 iX (ai 7919) (aa 1))) (ρ:=[n0 ns,i9 t]) (ns.map D.int) rfl (λd=>match d with|.int x=>.int (x+7919*Int.ofNat t)|d=>d) (λ_=>9) (λd hd=>by obtain⟨x,_,rfl⟩:=Qo.mp hd;simp[-ofNat_eq_natCast])
  have oz:ns.length<=1000:=by omega
  refine(e_ (deep:=false) (by simp[oz]) h).trans ?_;simp[-ofNat_eq_natCast,JM]
 have step:∀ (t:Nat),Ak [n0 ns,i9 t]=some (if ns=[]then .bk [n0 ns,i9 t]else .nx [n0 ns,i9 t]):=λt=>by
  have h1:=once (ns.map λx=>x+7919*Int.ofNat t);unfold Ak;refine(aR (ac:=[n0 ns,i9 t]) ?_).trans ?_
  .have e:=bp (F:=vB) (n:=1) (bS (hc t)) rfl h1;simp only[cL,fL,eL,e];rfl
  .have e:=Gy ns;by_cases jS:ns=[]
   .rw[Qh jS];rw[Qr jS]at e;simp[-ofNat_eq_natCast,e]
   .rw[Ql jS];rw[QF jS]at e;simp[-ofNat_eq_natCast,e]
 have hr:cP (aE (eC (iD (m+1)))) [n0 ns,none]=some (cM (m+1),[n0 ns,none]):=by simp only[cP,bS (f:=eC (iD (m+1))) (q:=9) (ρ:=[n0 ns,none]) rfl];rw[Qh ⟨by show(-1000:Int)<=((m+1:Nat):Int);omega,by show((m+1:Nat):Int)<=1000;omega⟩];rfl
 rw[iF hr];by_cases jS:ns=[]
 .refine⟨i9 0,?_⟩;have h:=step 0;rw[Qh jS]at h;have e:cM (m+1)=(iD 0)::(cM (m+1)).tail:=by unfold cM;rw[JE];rfl
  rw[e];exact z9p (ac:=[n0 ns,i9 0]) (by simp) h
 .obtain⟨am,e,x,rfl⟩:=kh (pt:=av 1) (body:=Ak) (cM (m+1)) (λ_ ρ=>∃ x,ρ=[n0 ns,x]) [n0 ns,none] (λi hi ρ ⟨x,hx⟩=>by subst hx;have h:=step i;rw[Ql jS]at h;refine⟨[n0 ns,i9 i],_,by rw[rS];simp,.inl h,_,rfl⟩) ⟨none,rfl⟩
  exact⟨x,e⟩
theorem GY{α:Type}[DecidableEq α]:∀ {l m:List α},l.Nodup->(∀ x∈l,x∈m)->l.length<=m.length
 | [],m,_,_=>Q1 _
 | a::l,m,nd,h=>by have ha:=h a Qg;obtain⟨n1,n2⟩:=Q3.mp nd;have ih:=GY (l:=l) (m:=m.erase a) n2 λx hx=>(YJ (λz=>n1 (by rw[<- z];exact hx))).mpr (h x (Qf _ hx));have:=JZ ha;have:=Yp ha;rw[QB];omega
theorem vH{g:cf}(h:g ρ=some (ds,ac))(hl:ds.length<=1000):dF g ρ=some (.tup ds,9,ac):=by unfold dF;rw[h];exact Qh hl
def gR (W:List (Nat×Nat×(Nat->Nat)))(k:Nat×Nat)(i:Nat):List Nat:=(W.filter λw=>decide ((w.1,w.2.1)=k)).map λw=>w.2.2 i
def jr (f:Nat->Nat->Nat)(z:Nat)(W:List (Nat×Nat×(Nat->Nat)))(k:Nat×Nat)(i:Nat):Nat:=(gR W k i).foldl f z
def gB (B:List (Nat×Nat))(p:Nat):List Nat:=(B.filter λb=>decide (b.1=p)).map (·.2)
theorem CN{w:Nat×Nat×(Nat->Nat)}{k:Nat×Nat}:jr f z (W++[w]) k i=if(w.1,w.2.1)=k then f (jr f z W k i) (w.2.2 i)else jr f z W k i:=by
 unfold jr gR;rw[Vb,Q4,List.foldl_append];by_cases h:(w.1,w.2.1)=k
 .rw[Qh h,QV (p:=λw:Nat×Nat×(Nat->Nat)=>decide ((w.1,w.2.1)=k)) (Qr h)];rfl
 .rw[Ql h,QZ (p:=λw:Nat×Nat×(Nat->Nat)=>decide ((w.1,w.2.1)=k)) (by rw[QF h];decide)];rfl
section
variable {n:Nat}{f:Nat->Nat->Nat}(L:bq n f){z:Nat}(hz:z<n)(bz:∀ j,j<n->f z j=j)
include L hz bz
theorem qx(hW:∀ w∈W,∀ i,i<n->w.2.2 i<n)(k:Nat×Nat)(hi:i<n):jr f z W k i<n:=L.fold_lt hz λx hx=>by obtain⟨w,hw,rfl⟩:=Qo.mp hx;exact hW w (Zi.mp hw).1 i hi
end
theorem Ay{C:cK}:qh f (mM C) v ↔ (∀ b∈C.B,f b.2 (gv v b.1)=gv v b.1)/\∀ w∈C.W,f (w.2.2 (gv v w.1)) (gv v w.2.1)=gv v w.2.1:=by
 constructor
 .intro h;exact⟨λb hb=>h (vE b) (Q2 _ (Ju hb)),λw hw=>h (Av w) (Qt _ (Ju hw))⟩
 .rintro ⟨h1,h2⟩ s hs;rcases Q9.mp hs with h|h
  .obtain⟨b,hb,rfl⟩:=Qo.mp h;exact h1 b hb
  .obtain⟨w,hw,rfl⟩:=Qo.mp h;exact h2 w hw
theorem kX{k:Nat×Nat}:x∈gR W k i ↔ ∃ w∈W,(w.1,w.2.1)=k/\w.2.2 i=x:=by unfold gR;rw[Qo];exact⟨λ⟨w,hw,e⟩=>⟨w,(Zi.mp hw).1,Q5 (Zi.mp hw).2,e⟩,λ⟨w,hw,e1,e2⟩=>⟨w,Zi.mpr ⟨hw,Qr e1⟩,e2⟩⟩
theorem CO{B:List (Nat×Nat)}:x∈gB B p ↔ (p,x)∈B:=by
 unfold gB;rw[Qo];exact⟨λ⟨w,hw,e⟩=>by obtain⟨h1,h2⟩:=Zi.mp hw;have:w=(p,x):=Prod.ext (Q5 h2) e;rw[<- this];exact h1,λh=>⟨(p,x),Zi.mpr ⟨h,Qr rfl⟩,rfl⟩⟩
abbrev Wy:=Nat×Nat×(Nat->Nat)
def eN (C:cK)(q:Nat):List (Nat×(Nat->Nat)):=(C.W.filter λw=>decide (w.2.1=q) && !decide (w.1=q)).map λw=>(w.1,w.2.2)
def dk (C:cK)(q:Nat)(c:Nat->Nat):List (Nat×(Nat->Nat)):=(C.W.filter λw=>decide (w.1=q) && !decide (w.2.1=q)).map λw=>(w.2.1,λi=>w.2.2 (c i))
def fR (z:Nat)(C:cK)(q:Nat):List Nat:=z::gB C.B q
def oW (C:cK)(q:Nat)(c:Nat->Nat):List Wy:=(C.W.filter λw=>!decide (q ∈ [w.1,w.2.1]))++(dk C q c).flatMap λg=>(eN C q).map λa=>(a.1,g.1,λi=>g.2 (a.2 i))
def oB (z:Nat)(C:cK)(q:Nat)(c:Nat->Nat):List (Nat×Nat):=(C.B.filter λb=>!decide (b.1=q))++(dk C q c).flatMap λg=>(fR z C q).map λv=>(g.1,g.2 v)
theorem vI{C:cK}{a:Nat×(Nat->Nat)}:a∈eN C q ↔ (a.1,q,a.2)∈C.W/\a.1≠q:=by
 unfold eN;constructor
 .intro h;obtain⟨w,hw,rfl⟩:=Qo.mp h;obtain⟨h1,h2⟩:=Zi.mp hw;rw[Zo,JL]at h2;have e:w.2.1=q:=Q5 h2.1;exact⟨by rw[<- e];exact h1,JD h2.2⟩
 .rintro ⟨h1,h2⟩;exact Qo.mpr ⟨_,Zi.mpr ⟨h1,by rw[Qr rfl,QF h2];rfl⟩,rfl⟩
theorem Az{C:cK}{g:Nat×(Nat->Nat)}:g∈dk C q c ↔ ∃ r,(q,g.1,r)∈C.W/\g.1≠q/\g.2=λi=>r (c i):=by
 unfold dk;constructor
 .intro h;obtain⟨w,hw,rfl⟩:=Qo.mp h;obtain⟨h1,h2⟩:=Zi.mp hw;rw[Zo,JL]at h2;have e:w.1=q:=Q5 h2.1;exact⟨w.2.2,by rw[<- e];exact h1,JD h2.2,rfl⟩
 .rintro ⟨r,h1,h2,h3⟩;exact Qo.mpr ⟨_,Zi.mpr ⟨h1,by rw[Qr rfl,QF h2];rfl⟩,by rw[<- h3]⟩
theorem vJ{C:cK}{w:Wy}:w∈oW C q c ↔ (w∈C.W/\w.1≠q/\w.2.1≠q)\/∃ (a:Nat×(Nat->Nat)) (r:Nat->Nat),(a.1,q,a.2)∈C.W/\a.1≠q/\(q,w.2.1,r)∈C.W/\w.2.1≠q/\w.1=a.1/\w.2.2=λi=>r (c (a.2 i)):=by
 unfold oW;rw[Q9,Zi,List.mem_flatMap];refine or_congr (and_congr_right λ_=>?_) ⟨?_,?_⟩
 .rw[JL,ZS];exact⟨λh=>⟨λe=>h (by rw[e];exact Qg),λe=>h (by rw[e];exact Qf _ Qg)⟩,λ⟨h1,h2⟩ h=>by
   rcases Qm.mp h with e|e
   .exact h1 e.symm
   .exact h2 (Q6.mp e).symm⟩
 .rintro ⟨g,hg,hw⟩;obtain⟨a,ha,rfl⟩:=Qo.mp hw;obtain⟨r,h1,h2,h3⟩:=Az.mp hg;obtain⟨h4,h5⟩:=vI.mp ha;exact⟨a,r,h4,h5,h1,h2,rfl,by rw[h3]⟩
 .rintro ⟨a,r,h1,h2,h3,h4,h5,h6⟩;refine⟨(w.2.1,λi=>r (c i)),Az.mpr ⟨r,h3,h4,rfl⟩,Qo.mpr ⟨a,vI.mpr ⟨h1,h2⟩,?_⟩⟩;rw[<- h5,<- h6]
theorem AA{C:cK}{v:Nat}:v∈fR z C q ↔ v=z\/(q,v)∈C.B:=by unfold fR;rw[Qm,CO]
theorem vK{C:cK}{b:Nat×Nat}:b∈oB z C q c ↔ (b∈C.B/\b.1≠q)\/∃ r v,(q,b.1,r)∈C.W/\b.1≠q/\(v=z\/(q,v)∈C.B)/\b.2=r (c v):=by
 unfold oB;rw[Q9,Zi,List.mem_flatMap];refine or_congr (and_congr_right λ_=>?_) ⟨?_,?_⟩
 .rw[JL,ZS]
 .rintro ⟨g,hg,hw⟩;obtain⟨v,hv,rfl⟩:=Qo.mp hw;obtain⟨r,h1,h2,h3⟩:=Az.mp hg;exact⟨r,v,h1,h2,AA.mp hv,by rw[h3]⟩
 .rintro ⟨r,v,h1,h2,h3,h4⟩;exact⟨(b.1,λi=>r (c i)),Az.mpr ⟨r,h1,h2,rfl⟩,Qo.mpr ⟨v,AA.mpr h3,by show(b.1,r (c v))=b;rw[<- h4]⟩⟩
structure vL (n z:Nat) (C:cK) (q:Nat) (c:Nat->Nat) (E:cK):Prop where
 p:E.p=C.p
 w:∀ e∈E.W,e∈oW C q c
 w':∀ w∈oW C q c,∃ e∈E.W,e.1=w.1/\e.2.1=w.2.1/\∀ i,i<n->e.2.2 i=w.2.2 i
 b:∀ b,b∈E.B ↔ b∈oB z C q c
def Lp (n:Nat)(f:Nat->Nat->Nat)(J c:Nat->Nat):Prop:=∀ y,y<n->c y<n/\f y (c y)=c y/\f (J (c y)) (c y)=c y/\∀ x,x<n->f y x=x->f (J x) x=x->f (c y) x=x
section
variable {n:Nat}{f:Nat->Nat->Nat}(L:bq n f){z:Nat}(hz:z<n)(bz:∀ j,j<n->f z j=j)
include L hz bz
theorem GZ(h:Lp n f J c)(hx:x<n)(hy:y<n)(e:f x y=y):f (c x) (c y)=c y:=by obtain⟨a1,a2,a3,a4⟩:=h x hx;obtain⟨b1,b2,b3,b4⟩:=h y hy;exact a4 _ b1 (L.le_trans hx hy b1 e b2) b3
theorem xB(ha:a<n)(hb:b<n)(hx:x<n)(h1:f a x=x)(h2:f b x=x):f (f a b) x=x:=by rw[L.assoc a b x ha hb hx,h2,h1]
theorem xC(ha:a<n)(hb:b<n):f a (f a b)=f a b:=by rw[<- L.assoc a a b ha ha hb,L.idem a ha]
theorem AB(ha:a<n)(hb:b<n):f b (f a b)=f a b:=by rw[L.comm a b ha hb];exact xC L hz bz hb ha
theorem O9(h:gC n f r=true)(hx:x<n)(hy:y<n)(e:f x y=y):f (r x) (r y)=r y:=by rw[<- mL.mp h x y hx hy,e]
theorem j77(hJ:∀ i,i<n->J i<n)(h:Lp n f J c)(s:gC n f J=true):gC n f c=true:=mL.mpr λx y hx hy=>by
 have mx:=L.cl x y hx hy;obtain⟨a1,a2,a3,a4⟩:=h x hx;obtain⟨b1,b2,b3,b4⟩:=h y hy;obtain⟨c1,c2,c3,c4⟩:=h _ mx;have ab:=L.cl _ _ a1 b1;have p1:f (c (f x y)) (f (c x) (c y))=f (c x) (c y):=by refine c4 _ ab (xB L hz bz hx hy ab (L.le_trans hx a1 ab a2 (xC L hz bz a1 b1)) (L.le_trans hy b1 ab b2 (AB L hz bz a1 b1))) ?_;rw[mL.mp s _ _ a1 b1];exact xB L hz bz (hJ _ a1) (hJ _ b1) ab (L.le_trans (hJ _ a1) a1 ab a3 (xC L hz bz a1 b1)) (L.le_trans (hJ _ b1) b1 ab b3 (AB L hz bz a1 b1))
 have p2:f (f (c x) (c y)) (c (f x y))=c (f x y):=xB L hz bz a1 b1 c1 (GZ L hz bz h hx mx (xC L hz bz hx hy)) (GZ L hz bz h hy mx (AB L hz bz hx hy));rw[<- p1,L.comm _ _ c1 ab,p2]
theorem O_(hr:∀ i,i<n->r i<n)(s:gC n f r=true)(hx:x<n):∀ {l:List Nat} {a:Nat},a<n->(∀ y∈l,y<n)->f (r a) x=x->(∀ y∈l,f (r y) x=x)->f (r (l.foldl f a)) x=x
 | [],a,_,_,h,_=>h
 | y::l,a,ha,hl,h,h'=>by have hy:=hl y Qg;show f (r (l.foldl f (f a y))) x=x;refine O_ hr s hx (L.cl a y ha hy) (λy' m=>hl y' (Qf _ m)) ?_ λy' m=>h' y' (Qf _ m);rw[mL.mp s a y ha hy];exact xB L hz bz (hr a ha) (hr y hy) hx h (h' y Qg)
theorem j98{W:List Wy}(hW:∀ w∈W,(∀ i,i<n->w.2.2 i<n)/\gC n f w.2.2=true)(k:Nat×Nat):gC n f (jr f z W k)=true:=mL.mpr λx y hx hy=>by
 have hl:∀ w∈W,∀ i,i<n->w.2.2 i<n:=λw hw=>(hW w hw).1;have mx:=L.cl x y hx hy;have j1:=qx L hz bz hl k hx;have j2:=qx L hz bz hl k hy;have j3:=qx L hz bz hl k mx;have AD:=L.cl _ _ j1 j2;have lt:∀ {i},i<n->∀ v∈gR W k i,v<n:=λhi v hv=>by obtain⟨w,hw,_,rfl⟩:=kX.mp hv;exact hl w hw _ hi
 have ub:∀ {i},i<n->∀ w∈W,(w.1,w.2.1)=k->f (w.2.2 i) (jr f z W k i)=jr f z W k i:=λhi w hw e=>L.di hz (lt hi) (kX.mpr ⟨w,hw,e,rfl⟩);have p1:f (jr f z W k (f x y)) (f (jr f z W k x) (jr f z W k y))=f (jr f z W k x) (jr f z W k y):=L.cJ hz bz AD (lt mx) λv hv=>by obtain⟨w,hw,e,rfl⟩:=kX.mp hv;rw[mL.mp (hW w hw).2 x y hx hy];exact xB L hz bz (hl w hw x hx) (hl w hw y hy) AD (L.le_trans (hl w hw x hx) j1 AD (ub hx w hw e) (xC L hz bz j1 j2)) (L.le_trans (hl w hw y hy) j2 AD (ub hy w hw e) (AB L hz bz j1 j2))
 have mono:∀ {i},i<n->f i (f x y)=f x y->f (jr f z W k i) (jr f z W k (f x y))=jr f z W k (f x y):=λhi e=>L.cJ hz bz j3 (lt hi) λv hv=>by obtain⟨w,hw,e',rfl⟩:=kX.mp hv;exact L.le_trans (hl w hw _ hi) (hl w hw _ mx) j3 (O9 L hz bz (hW w hw).2 hi mx e) (ub mx w hw e')
 have p2:=xB L hz bz j1 j2 j3 (mono hx (xC L hz bz hx hy)) (mono hy (AB L hz bz hx hy));rw[<- p1,L.comm _ _ j3 AD,p2]
variable {C:cK}(hC:C.Ok n f){q:Nat}(hq:q<C.p){c:Nat->Nat}(hc:Lp n f (jr f z C.W (q,q)) c){E:cK}(O:vL n z C q c E)
include hC hq hc O
theorem j9c(h1:E.W.length<=60)(h2:E.B.length<=60):E.Ok n f:=by
 refine⟨by rw[O.p];exact hC.p1,by rw[O.p];exact hC.p8,h1,h2,λw hw=>?_,λb hb=>?_⟩
 .rw[O.p];rcases vJ.mp (O.w w hw)with⟨h,_,_⟩|⟨a,r,k1,_,k2,_,e1,e2⟩
  .exact hC.ws w h
  .obtain⟨a1,a2,a3,a4⟩:=hC.ws _ k1;obtain⟨b1,b2,b3,b4⟩:=hC.ws _ k2;have cl:∀ i,i<n->c (a.2 i)<n:=λi hi=>(hc _ (a3 i hi)).1;refine⟨by rw[e1];exact a1,b2,λi hi=>by rw[e2];exact b3 _ (cl i hi),λx y hx hy e=>?_⟩;rw[e2];exact b4 _ _ (cl x hx) (cl y hy) (GZ L hz bz hc (a3 x hx) (a3 y hy) (a4 x y hx hy e))
 .rw[O.p];rcases vK.mp ((O.b b).mp hb)with⟨h,_⟩|⟨r,v,k1,_,k2,e⟩
  .exact hC.bs b h
  .obtain⟨b1,b2,b3,b4⟩:=hC.ws _ k1;have hv:v<n:=by
    rcases k2 with rfl|k2
    .exact hz
    .exact(hC.bs _ k2).2
   exact⟨b2,by rw[e];exact b3 _ (hc v hv).1⟩
theorem k1b(hu:Vn n C.p u)(cl:qh f (mM C) u){v:Nat}(hv:v<n)(h:f v (gv u q)=gv u q):f (c v) (gv u q)=gv u q:=by
 have hl:∀ w∈C.W,∀ i,i<n->w.2.2 i<n:=λw hw=>(hC.ws w hw).2.2.1;refine(hc v hv).2.2.2 _ (hu.gv hq) h (L.cJ hz bz (hu.gv hq) (λx hx=>?_) λx hx=>?_)
 .obtain⟨w,hw,_,rfl⟩:=kX.mp hx;exact hl w hw _ (hu.gv hq)
 .obtain⟨w,hw,e,rfl⟩:=kX.mp hx;have:=(Ay.mp cl).2 w hw;have e1:w.1=q:=(YL e).1;have e2:w.2.1=q:=(YL e).2;rw[e1,e2]at this;exact this
theorem j99(hu:Vn n C.p u)(cl:qh f (mM C) u):qh f (mM E) u:=by
 obtain⟨c1,c2⟩:=Ay.mp cl;have step:∀ {v r g},v<n->f v (gv u q)=gv u q->(q,g,r)∈C.W->f (r (c v)) (gv u g)=gv u g:=λ{v r g} hv h hw=>by obtain⟨b1,b2,b3,b4⟩:=hC.ws _ hw;have:=hc v hv;have k:=k1b L hz bz hC hq hc O hu cl hv h;exact L.le_trans (b3 _ this.1) (b3 _ (hu.gv hq)) (hu.gv b2) (b4 _ _ this.1 (hu.gv hq) k) (c2 _ hw)
 refine Ay.mpr ⟨λb hb=>?_,λw hw=>?_⟩
 .rcases vK.mp ((O.b b).mp hb)with⟨h,_⟩|⟨r,v,k1,_,k2,e⟩
  .exact c1 b h
  .rw[e];rcases k2 with rfl|k2
   .exact step hz (bz _ (hu.gv hq)) k1
   .exact step (hC.bs _ k2).2 (c1 _ k2) k1
 .rcases vJ.mp (O.w w hw)with⟨h,_,_⟩|⟨a,r,k1,_,k2,_,e1,e2⟩
  .exact c2 w h
  .obtain⟨a1,a2,a3,a4⟩:=hC.ws _ k1;rw[e1,e2];exact step (a3 _ (hu.gv a1)) (c2 _ k1) k2
theorem j2x{u':List Nat}(h:nH n f C.p (mM C) (mO C.p z) u)(h':nH n f C.p (mM E) (mO C.p z) u'):iP f C.p u' u/\((∀ w∈C.W,gC n f w.2.2=true)->∀ s,s<C.p->s≠q->gv u' s=gv u s):=by
 have Pa:iP f C.p u' u:=h'.le u h.V (j99 L hz bz hC hq hc O h.V h.cl) h.up;refine⟨Pa,λhs s CP rh=>?_⟩;obtain⟨d1,d2⟩:=Ay.mp h'.cl;have hl:∀ w∈C.W,∀ i,i<n->w.2.2 i<n:=λw hw=>(hC.ws w hw).2.2.1;have cs:=j77 L hz bz (λi hi=>qx L hz bz hl _ hi) hc (j98 L hz bz (λw hw=>⟨(hC.ws w hw).2.2.1,hs w hw⟩) (q,q));obtain⟨S,hS⟩:∃ S:List Nat,S=gB C.B q++(eN C q).map λa=>a.2 (gv u' a.1):=⟨_,rfl⟩;have CQ:∀ x∈S,x<n:=λx hx=>by
  rw[hS]at hx;rcases Q9.mp hx with hx|hx
  .exact(hC.bs _ (CO.mp hx)).2
  .obtain⟨a,ha,rfl⟩:=Qo.mp hx;have:=hC.ws _ (vI.mp ha).1;exact this.2.2.1 _ (h'.V.gv this.1)
 have hX:S.foldl f z<n:=L.fold_lt hz CQ;generalize hx:S.foldl f z=X at hX;obtain⟨x1,x2,x3,x4⟩:=hc X hX;have ul:q<u'.length:=by rw[h'.V.len];exact hq
 have V1:Vn n C.p (u'.set q (c X)):=h'.V.set x1;have Pb:∀ x∈S,f x (c X)=c X:=λx m=>L.le_trans (CQ x m) hX x1 (by rw[<- hx];exact L.di hz CQ m) x2;have on:∀ {g r},(q,g,r)∈C.W->g≠q->f (r (c X)) (gv u' g)=gv u' g:=λ{g r} hw hg=>by
  obtain⟨b1,b2,b3,b4⟩:=hC.ws _ hw;have sp:gC n f (λi=>r (c i))=true:=mL.mpr λx y hx hy=>by rw[mL.mp cs x y hx hy,mL.mp (show gC n f r=true from hs _ hw) _ _ (hc x hx).1 (hc y hy).1]
  have hb:∀ v,(v=z\/(q,v)∈C.B)->f (r (c v)) (gv u' g)=gv u' g:=λv hv=>d1 (g,r (c v)) ((O.b _).mpr (vK.mpr (.inr ⟨r,v,hw,hg,hv,rfl⟩)));rw[<- hx];refine O_ L hz bz (r:=λi=>r (c i)) (λi hi=>b3 _ (hc i hi).1) sp (h'.V.gv b2) hz CQ (hb z (.inl rfl)) λy hy=>?_;rw[hS]at hy;rcases Q9.mp hy with hy|hy
  .exact hb y (.inr (CO.mp hy))
  .obtain⟨a,ha,rfl⟩:=Qo.mp hy;obtain⟨k1,k2⟩:=vI.mp ha;have:=hC.ws _ k1;obtain⟨e,he,e1,e2,e3⟩:=O.w' (a.1,g,λi=>r (c (a.2 i))) (vJ.mpr (.inr ⟨a,r,k1,k2,hw,hg,rfl,rfl⟩));have q2:=d2 e he;rw[e1,e2,e3 _ (h'.V.gv this.1)]at q2;exact q2
 have cl:qh f (mM C) (u'.set q (c X)):=by
  refine Ay.mpr ⟨λb hb=>?_,λw hw=>?_⟩
  .rw[zD ul];by_cases e:b.1=q
   .rw[Qh e];exact Pb _ (by rw[hS];exact Q2 _ (CO.mpr (by rw[<- e];exact hb)))
   .rw[Ql e];exact d1 b ((O.b b).mpr (vK.mpr (.inl ⟨hb,e⟩)))
  .obtain⟨a1,a2,a3,a4⟩:=hC.ws w hw;rw[zD ul,zD ul];by_cases e1:w.1=q
   .rw[Qh e1];by_cases e2:w.2.1=q
    .rw[Qh e2];refine L.le_trans (a3 _ x1) (qx L hz bz hl (q,q) x1) x1 (L.di hz (λv hv=>?_) (kX.mpr ⟨w,hw,by rw[e1,e2],rfl⟩)) x3;obtain⟨w2,AE,_,rfl⟩:=kX.mp hv;exact hl w2 AE _ x1
    .rw[Ql e2];exact on (by rw[<- e1];exact hw) e2
   .rw[Ql e1];by_cases e2:w.2.1=q
    .rw[Qh e2];exact Pb _ (by rw[hS];exact Qt _ (Qo.mpr ⟨(w.1,w.2.2),vI.mpr ⟨by rw[<- e2];exact hw,e1⟩,rfl⟩))
    .rw[Ql e2];obtain⟨e,he,k1,k2,k3⟩:=O.w' w (vJ.mpr (.inl ⟨hw,e1,e2⟩));have q2:=d2 e he;rw[k1,k2,k3 _ (h'.V.gv a1)]at q2;exact q2
 have Pc:=h.le _ V1 cl (j2l bz V1) s CP;rw[zD ul,Ql rh]at Pc;have l1:=Pa s CP;rw[<- Pc,L.comm _ _ (h.V.gv CP) (h'.V.gv CP),l1]
end
theorem tZ{g h:cS}{a b:Bool}(e:g ρ=some (a,ρ))(e':h ρ=some (b,ρ)):lh g h ρ=some (a&&b,ρ):=by unfold lh;rw[e];cases a<;>first|rfl|exact e'
theorem j2v(h:g ρ=some (d,q,ac)):fX g ρ=some (.nx ac):=by unfold fX;rw[h]
theorem G0{es:List D}(hl:uR ρ[i]? = true)(hg:g ρ=some (.lst es,1,ac))(h1:ac[i]? = some (some (.lst ds,1)))(hn:ds.length+es.length<=1000)(e:ac.set i (some (.lst (ds++es),1))=ap):fX (sX i g) ρ=some (.nx ap):=by unfold fX sX;rw[Qh hl,hg];simp only[h1];rw[Qh hn,e]
theorem Pd{a b:List D}(ha:fa ρ=some (.lst a,q,ac))(hb:fb ac=some (.lst b,q',ap))(h:a.length+b.length<=1000):sY fa fb ρ=some (.lst (a++b),1,ap):=by unfold sY;rw[ha];simp only[hb];exact Qh h
theorem Pe(v a b:Nat):qZ (iD v) (.tup (aq [a,b]))=some (.bl (!decide (v ∈ [a,b]))):=by unfold qZ;rw[Qh ⟨(Sh.int (k:=0) _).ok,(Sh.tup (k:=0) (CM (.int _) (.int _))).ok⟩,show inD (iD v) (.tup (aq [a,b]))=inD (iD v) (.lst (aq [a,b]))from rfl,OM];rfl
theorem Pf{k:Nat}(hk:k<h):gZ h (iD k)=true:=by show(decide ((0:Int)<=(k:Int))&&decide ((k:Int)<(h:Int)))=true;rw[Qr (by omega),Qr (by omega)];rfl
theorem k0z(h:body (nU n ds)=some (.nx ρ)):bX n body ds=some (.bc,9):=by unfold bX;rw[h]
theorem y4u{k:Nat}(hk:k<h):zL [iD h,iD k]=some (.bc,9):=by have e:=Aq h (iD k);rw[Pf hk]at e;unfold zL Nh;exact k0z ((iu (An (oo (bp (ds:=[iD k,iD h]) rfl rfl e)))).trans rfl)
def kW (n:Nat)(w:Wy):Ky:=[.inl w.1,.inl w.2.1,.inr ((range n).map w.2.2)]
theorem Pg(n:Nat)(w:Wy):cW (kW n w)=ba n w:=by show D.tup [iD w.1,iD w.2.1,.tup ((((range n).map w.2.2).map Int.ofNat).map D.int)]=.tup [iD w.1,iD w.2.1,.tup (aq ((range n).map w.2.2))];rw[QO (g:=D.int) (f:=Int.ofNat)];rfl
theorem Ph{α:Type}{enc:α->Ky}{l:List α}:∀ (m:List Ky),(∀ k∈m,k∈l.map enc)->∃ l':List α,l'.map enc=m/\∀ x∈l',x∈l
 | [],_=>⟨[],rfl,λ_ h=>nomatch h⟩
 | k::m,h=>by
  obtain⟨l',e,h'⟩:=Ph m λx hx=>h x (Qf _ hx);obtain⟨x,hx,rfl⟩:=Qo.mp (h k Qg);refine⟨x::l',by rw[QM,e],λy hy=>?_⟩;rcases Qm.mp hy with rfl|hy
  .exact hx
  .exact h' y hy
theorem Pj{α:Type}{enc:α->Ky}{ed:α->D}(hed:∀ x,cW (enc x)=ed x){l:List α}(h0:σ.head? = some 0)(FH:l.length<=60)(hs:∀ x∈l,(enc x).map sh=σ/\∀ d∈gA (enc x),d<1000)(hg:g ρ=some (.lst (l.map ed),q,ac))(hq:q<=1) :
  ∃ l':List α,l'.map enc=dZ (l.map enc)/\(∀ x∈l',x∈l)/\l'.length<=l.length/\lJ g ρ=some (.lst (l'.map ed),1,ac):=by
 obtain⟨l',e,h'⟩:=Ph (enc:=enc) (l:=l) (dZ (l.map enc)) λk hk=>tI.mp hk;have hm:∀ l:List α,l.map ed=(l.map enc).map cW:=λl=>by rw[QO];exact Zb λx _=>(hed x).symm
 refine⟨l',e,h',?_,?_⟩
 .have:=GY (Cn (l.map enc)) λx hx=>tI.mp hx;rw[<- e,Qb,Qb]at this;exact this
 have ok:jd (l.map enc):=by
  cases l with
  | nil=>exact⟨by show 0<64;decide,rfl,λk hk=>nomatch hk⟩
  | cons x l=>
   have sx:=(hs x Qg).1;refine⟨by rw[Qb];omega,by show((enc x).map sh).head? = _;rw[sx];exact h0,λk hk=>?_⟩;obtain⟨y,hy,rfl⟩:=Qo.mp hk;obtain⟨s1,s2⟩:=hs y hy;exact⟨by show(enc y).map sh=(enc x).map sh;rw[s1,sx],s2⟩
 unfold lJ;rw[hg];show(if q<=1 then(match og vi (l.map ed)with|some ks=>if jd ks then some (D.lst ((dZ ks).map cW),1,ac)else none|none=>none)else none)=_;rw[Qh hq,hm l,wW FI];show(if jd (l.map enc)then some (D.lst ((dZ (l.map enc)).map cW),1,ac)else none)=_;rw[Qh ok,<- e,hm l']
def fO (n:Nat)(a:Nat×(Nat->Nat)):D:=.tup [iD a.1,aU n a.2]
abbrev vM (n:Nat)(f:Nat->Nat->Nat)(C:cK)(q:Nat)(l c g b w m x y:OD:=none):a_:=[t9 n f,c9 n C,i9 q,l,c,g,b,w,m,x,y]
abbrev qy (n:Nat)(f:Nat->Nat->Nat)(z:Nat)(C:cK)(q:Nat)(c:Nat->Nat)(k4 k6:Nat)(W:List Wy)(j:Nat)(B:List (Nat×Nat))(x y:OD:=none):a_:=vM n f C q ((r9 n c)) (some (.lst ((eN C q).map (fO n)),k4)) (some (.lst ((dk C q c).map (fO n)),0)) (some (.lst (aq (fR z C q)),k6)) (some (.lst (W.map (ba n)),j)) (some (.lst (B.map cA),1)) x y
abbrev t6 (n:Nat)(f:Nat->Nat->Nat)(C:cK)(q:Nat)(j:Nat->Nat)(a b c:OD:=none):a_:=[t9 n f,c9 n C,i9 q,r9 n j,a,b,c]
section
variable {n:Nat}{f:Nat->Nat->Nat}(L:bq n f){z:Nat}(hz:z<n)(bz:∀ j,j<n->f z j=j){C:cK}(hC:C.Ok n f){q:Nat}(hq:q<C.p)
include L hz bz hC
theorem z43(q:Nat):∃ c,Lp n f (jr f z C.W (q,q)) c/\zU [aT n f,cY n C,.int (Int.ofNat q)]=some (aU n c,9):=by
 have hn:n<=1000:=Qw L.hi (by decide);have hw:=hC.tW;have hl:∀ w∈C.W,∀ i,i<n->w.2.2 i<n:=λw hw=>(hC.ws w hw).2.2.1;obtain⟨am,e,a,b,c,rfl⟩:=kh (pt:=f9 (bH (av 4) (bH (av 5) (bH (av 6) fC)))) (body:=NH) (C.W.map (ba n)) (λi ρ=>∃ a b c,ρ=(t6 n f C q (jr f z (C.W.take i) (q,q)) a b c)) (t6 n f C q (λ_=>z)) (λi hi ρ aj=>by
  obtain⟨a,b,c,rfl⟩:=aj;have bW:i<C.W.length:=by rw[Qb]at hi;exact hi
  have vN:=Q7 bW;have ed:(C.W.map (ba n))[i]=ba n C.W[i]:=by simp
  have et:C.W.take (i+1)=C.W.take i++[C.W[i]]:=by rw[JN];simp[bW]
  rw[ed,et];have G1:∀ w∈C.W.take i,∀ i,i<n->w.2.2 i<n:=λw m=>hl w (YK m);generalize C.W.take i=W1 at *
  generalize C.W[i]=w at *
  obtain⟨s,g,r⟩:=w;have hr:∀ i,i<n->r i<n:=hl _ vN;have t1:lh (bg (e2 dG (aa 4) (aa 2))) (bg (e2 dG (aa 5) (aa 2))) (t6 n f C q (jr f z W1 (q,q)) (some (.int (Int.ofNat s),9)) (some (.int (Int.ofNat g),9)) (some (aU n r,9)))=some (decide (s=q)&&decide (g=q),(t6 n f C q (jr f z W1 (q,q)) (some (.int (Int.ofNat s),9)) (some (.int (Int.ofNat g),9)) (some (aU n r,9)))):=
   tZ (eH (cI rfl rfl (pq s q))) (eH (cI rfl rfl (pq g q)))
  refine⟨t6 n f C q (jr f z W1 (q,q)) (some (.int (Int.ofNat s),9)) (some (.int (Int.ofNat g),9)) (some (aU n r,9)),t6 n f C q (jr f z (W1++[(s,g,r)]) (q,q)) (some (.int (Int.ofNat s),9)) (some (.int (Int.ofNat g),9)) (some (aU n r,9)),by rfl,.inl ?_,_,_,_,rfl⟩;by_cases hm:(s,g)=(q,q)
  .have h1:s=q:=(YL hm).1;have h2:g=q:=(YL hm).2;rw[Qr h1,Qr h2]at t1;refine(nu t1).trans (dw (bp (ds:=[aT n f,aU n (jr f z W1 (q,q)),aU n r]) rfl rfl (y4c hn (λi hi=>qx L hz bz G1 (q,q) hi) hr)) ?_);rw[j3x (r:=λi=>f (jr f z W1 (q,q) i) (r i)) (s:=jr f z (W1++[(s,g,r)]) (q,q)) λi _=>by rw[CN,Qh hm]];rfl
  .have hf:(decide (s=q)&&decide (g=q))=false:=by
    rw[V0,ZS,ZS];by_cases h1:s=q
    .exact .inr λh2=>hm (by rw[h1,h2])
    .exact .inl h1
   rw[hf]at t1;refine(iu t1).trans ?_;rw[show jr f z (W1++[(s,g,r)]) (q,q)=jr f z W1 (q,q)from funext λi=>by rw[CN,Ql hm]];rfl)
  ⟨none,none,none,rfl⟩
 rw[Qb,Jc]at e;have hJ:∀ i,i<n->jr f z C.W (q,q) i<n:=λi hi=>qx L hz bz hl (q,q) hi;have hm:∀ x y,x<n->y<n->f x y=y->f (jr f z C.W (q,q) x) (jr f z C.W (q,q) y)=jr f z C.W (q,q) y:=λx y hx hy G2=>by
  refine L.cJ hz bz (hJ y hy) (λv hv=>?_) λv hv=>?_
  .obtain⟨w,hw,_,rfl⟩:=kX.mp hv;exact hl w hw x hx
  .obtain⟨w,hw,ew,rfl⟩:=kX.mp hv;obtain⟨_,_,b3,b4⟩:=hC.ws w hw;refine L.le_trans (b3 x hx) (b3 y hy) (hJ y hy) (b4 x y hx hy G2) (L.di hz (λu hu=>?_) (kX.mpr ⟨w,hw,ew,rfl⟩));obtain⟨w2,AE,_,rfl⟩:=kX.mp hu;exact hl w2 AE y hy
 obtain⟨k,hk,ek⟩:=z9b L hJ hm;refine⟨k,hk,?_⟩;unfold zU NI;refine dh ?_;show aF _ _ [some (aT n f,9),some (cY n C,9),some (.int (Int.ofNat q),9),none,none,none,none]=_;refine(aR (ac:=(t6 n f C q (λ_=>z))) (dw (bp (ds:=[aT n f,.int (Int.ofNat z)]) (b7 rfl (bS (bp (ds:=[aT n f]) rfl rfl (GD L hz bz hn)))) rfl (z6w hn z)) rfl)).trans ?_;refine(aR ((iF (ac:=(t6 n f C q (λ_=>z))) (kU (q:=9) rfl (by rw[Qb];omega))).trans e)).trans ?_;exact fg (bp (ds:=[aT n f,aU n (jr f z C.W (q,q))]) rfl rfl ek)
include hq
theorem y2z(qz:∀ c,(oW C q c).length<=60)(qA:∀ c,(oB z C q c).length<=60):∃ c E,Lp n f (jr f z C.W (q,q)) c/\E.p=C.p/\(∀ w∈E.W,w∈oW C q c)/\E.W.map (kW n)=dZ ((oW C q c).map (kW n))/\(∀ b∈E.B,b∈oB z C q c)/\E.B.map kg=dZ ((oB z C q c).map kg)/\E.W.length<=60/\E.B.length<=60/\xk [aT n f,cY n C,iD q]=(c9 n E):=by
 have hn:n<=1000:=Qw L.hi (by decide);have pJ:=hC.tW;have pK:=hC.xy;have hl:∀ w∈C.W,∀ i,i<n->w.2.2 i<n:=λw hw=>(hC.ws w hw).2.2.1;obtain⟨c,hc,e3⟩:=z43 L hz bz hC q;have kN:∀ i,i<n->c i<n:=λi hi=>(hc i hi).1;have qz:=qz c;have qA:=qA c;have G3:∀ (x3 x4 x5 x6 x7 x8 x9 fE:OD),b8 (aw 1 (ai 1)) (vM n f C q x3 x4 x5 x6 x7 x8 x9 fE)=some (C.W.map (ba n),(vM n f C q x3 x4 x5 x6 x7 x8 x9 fE)):=λx3 x4 x5 x6 x7 x8 x9 fE=>kU (q:=9) rfl (by rw[Qb];omega);have Pk:∀ (x3 x4 x5 x6 x7 x8 x9 fE:OD),b8 (aw 1 (ai 2)) (vM n f C q x3 x4 x5 x6 x7 x8 x9 fE)=some (C.B.map cA,(vM n f C q x3 x4 x5 x6 x7 x8 x9 fE)):=λx3 x4 x5 x6 x7 x8 x9 fE=>kU (q:=9) rfl (by rw[Qb];omega);have c4:=e_ (k:=3) (pt:=f9 (bH (av 11) (bH (av 12) (bH (av 13) fC)))) (tt:=lh (bg (e2 dG (aa 12) (aa 2))) (bg (e2 cH (aa 11) (aa 2)))) (te:=dF (bF (aa 11) (aa 13))) (deep:=false) (G3 ((r9 n c)) none none none none none none none)
  (ku (k:=3) (ba n) (λw=>[i9 w.1,i9 w.2.1,r9 n w.2.2]) (λw=>decide (w.2.1=q) && !decide (w.1=q)) (λw=>fO n (w.1,w.2.2)) (λ_=>9) C.W (λw hw=>⟨rfl,tZ (eH (cI rfl rfl (pq _ _))) (eH (cI rfl rfl (jE _ _))),λ_=>rfl⟩))
 rw[show((C.W.filter λw=>decide (w.2.1=q) && !decide (w.1=q)).map λw=>fO n (w.1,w.2.2))=(eN C q).map (fO n)by unfold eN;rw[QO];rfl]at c4;obtain⟨dc,hdc⟩:∃ dc,dc=(eN C q).map (fO n):=⟨_,rfl⟩;have c5:=e_ (k:=3) (pt:=f9 (bH (av 11) (bH (av 12) (bH (av 13) fC)))) (tt:=lh (bg (e2 dG (aa 11) (aa 2))) (bg (e2 cH (aa 12) (aa 2)))) (te:=dF (bF (aa 12) (aG tP 2 (bF (aa 3) (aa 13))))) (deep:=false) (G3 ((r9 n c)) (some (.lst ((eN C q).map (fO n)),1)) none none none none none none)
  (ku (k:=3) (ba n) (λw=>[i9 w.1,i9 w.2.1,r9 n w.2.2]) (λw=>decide (w.1=q) && !decide (w.2.1=q)) (λw=>fO n (w.2.1,λi=>w.2.2 (c i))) (λ_=>9) C.W (λw hw=>⟨rfl,tZ (eH (cI rfl rfl (pq _ _))) (eH (cI rfl rfl (jE _ _))),λ_=>vH (b7 rfl (bS (bp (ds:=[aU n c,aU n w.2.2]) rfl rfl (O7 hn kN)))) (by show 2<=1000;decide)⟩))
 rw[show((C.W.filter λw=>decide (w.1=q) && !decide (w.2.1=q)).map λw=>fO n (w.2.1,λi=>w.2.2 (c i)))=(dk C q c).map (fO n)by unfold dk;rw[QO];rfl]at c5;have Pl:=e_ (k:=2) (pt:=f9 (bH (av 11) (bH (av 12) fC))) (tt:=bg (e2 dG (aa 11) (aa 2))) (te:=aa 12) (deep:=false) (Pk ((r9 n c)) (some (.lst ((eN C q).map (fO n)),1)) (some (.lst ((dk C q c).map (fO n)),1)) none none none none none)
  (ku (k:=2) cA (λb=>[i9 b.1,i9 b.2]) (λb=>decide (b.1=q)) (λb=>(iD b.2)) (λ_=>9) C.B (λb hb=>⟨rfl,eH (cI rfl rfl (pq _ _)),λ_=>rfl⟩))
 rw[show((C.B.filter λb=>decide (b.1=q)).map λb=>(iD b.2))=aq (gB C.B q)by unfold gB aq;rw[QO];rfl]at Pl;have Pm:(gB C.B q).length<=60:=by unfold gB;rw[Qb];exact Qw (Q0 _ _) pK
 have c6:=Pd (ρ:=(vM n f C q ((r9 n c)) (some (.lst ((eN C q).map (fO n)),1)) (some (.lst ((dk C q c).map (fO n)),1)))) (a:=[iD z]) (fa:=cR (aE (aG qq 1 (aE (aa 0))))) (q:=1) (tU (bS (bp (ds:=[aT n f]) rfl rfl (GD L hz bz hn))) (by show 1<=1000;decide)) Pl (by rw[fP];show 1+_<=1000;omega);have c7:=e_ (k:=1) (pt:=av 11) (tt:=bg (e2 qZ (aa 2) (qd (aa 11) rA (qc (ai 2))))) (te:=aa 11) (deep:=false) (G3 ((r9 n c)) (some (.lst ((eN C q).map (fO n)),1)) (some (.lst ((dk C q c).map (fO n)),1)) ((uL (fR z C q))) none none none none)
  (ku (k:=1) (ba n) (λw=>[some (ba n w,9)]) (λw=>!decide (q ∈ [w.1,w.2.1])) (ba n) (λ_=>9) C.W (λw hw=>⟨rfl,eH (cI rfl rfl (Pe q w.1 w.2.1)),λ_=>rfl⟩))
 have c8:=e_ (k:=1) (pt:=av 11) (tt:=bg (e2 cH (aw 11 (ai 0)) (aa 2))) (te:=aa 11) (deep:=false) (Pk ((r9 n c)) (some (.lst ((eN C q).map (fO n)),1)) (some (.lst ((dk C q c).map (fO n)),1)) ((uL (fR z C q))) (some (.lst ((C.W.filter λw=>!decide (q ∈ [w.1,w.2.1])).map (ba n)),1)) none none none)
  (ku (k:=1) cA (λb=>[some (cA b,9)]) (λb=>!decide (b.1=q)) cA (λ_=>9) C.B (λb hb=>⟨rfl,eH (cI rfl rfl (jE _ _)),λ_=>rfl⟩))
 have cl:(eN C q).length<=60:=by unfold eN;rw[Qb];exact Qw (Q0 _ _) pJ
 have gl:(dk C q c).length<=60:=by unfold dk;rw[Qb];exact Qw (Q0 _ _) pJ
 have bl:(fR z C q).length<=61:=by unfold fR;rw[QB];omega
 have tk:∀ {β:Type} (h:(Nat×(Nat->Nat))->List β) (i:Nat),(((dk C q c).take i).flatMap h).length<=((dk C q c).flatMap h).length:=λh i=>by
  conv=>rhs;rw[<- Jh i (dk C q c),ZI,Qk]
  exact Z0 _ _
 generalize hW0:(C.W.filter λw=>!decide (q ∈ [w.1,w.2.1]))=W0 at *
 generalize hB0:(C.B.filter λb=>!decide (b.1=q))=B0 at *
 obtain⟨GW,AF⟩:∃ GW:(Nat×(Nat->Nat))->List Wy,GW=λg=>(eN C q).map λa=>(a.1,g.1,λi=>g.2 (a.2 i)):=⟨_,rfl⟩;obtain⟨GB,AG⟩:∃ GB:(Nat×(Nat->Nat))->List (Nat×Nat),GB=λg=>(fR z C q).map λv=>(g.1,g.2 v):=⟨_,rfl⟩;have eW:oW C q c=W0++(dk C q c).flatMap GW:=by rw[AF,<- hW0];rfl
 have eB:oB z C q c=B0++(dk C q c).flatMap GB:=by rw[AG,<- hB0];rfl
 refine⟨c,?_⟩;rw[eW]at qz ⊢;rw[eB]at qA ⊢;rw[Qk]at qz qA;obtain⟨am,e9,k4,k6,x,y,rfl⟩:=kh (pt:=f9 (bH (av 9) (bH (av 10) fC))) (body:=NL) ((dk C q c).map (fO n))
  (λi ρ=>∃ k4 k6 x y,ρ=(qy n f z C q c k4 k6 (W0++((dk C q c).take i).flatMap GW) 1 (B0++((dk C q c).take i).flatMap GB) x y))
  (qy n f z C q c 1 1 W0 1 B0) (λi hi ρ aj=>by
  obtain⟨k4,k6,x,y,rfl⟩:=aj;have bW:i<(dk C q c).length:=by rw[Qb]at hi;exact hi
  have hgm:=Q7 bW;have ed:((dk C q c).map (fO n))[i]=fO n (dk C q c)[i]:=by simp
  have et:(dk C q c).take (i+1)=(dk C q c).take i++[(dk C q c)[i]]:=by rw[JN];simp[bW]
  have t1:=tk GW i;have t2:=tk GB i;have t3:=tk GW (i+1);have t4:=tk GB (i+1);rw[et,ZI,Qk]at t3 t4;rw[ed,et,ZI,ZI,<- ZB,<- ZB];generalize ((dk C q c).take i).flatMap GW=PW at *
  generalize ((dk C q c).take i).flatMap GB=PB at *
  generalize (dk C q c)[i]=g at *
  obtain⟨rg,g1,g2,g3⟩:=Az.mp hgm;have hg:∀ i,i<n->g.2 i<n:=λi hi=>by rw[g3];exact(hC.ws _ g1).2.2.1 _ (kN i hi)
  have G4:[g].flatMap GW=GW g:=by simp
  have G5:[g].flatMap GB=GB g:=by simp
  rw[G4]at t3 ⊢;rw[G5]at t4 ⊢;have d1:=e_ (k:=2) (pt:=f9 (bH (av 11) (bH (av 12) fC))) (tt:=cN) (te:=dF (bB (aa 11) (aa 9) (aG tP 2 (bF (aa 12) (aa 10))))) (deep:=false) (it:=b8 (aa 4))
   (ρ:=(qy n f z C q c k4 k6 (W0++PW) 1 (B0++PB) ((i9 g.1)) ((r9 n g.2))))
   (ac:=(qy n f z C q c 0 k6 (W0++PW) 1 (B0++PB) ((i9 g.1)) ((r9 n g.2))))
   (Ao (mK rfl) (by rw[Qb];omega))
   (ku (k:=2) (fO n) (λa=>[i9 a.1,r9 n a.2]) (λ_=>true) (λa=>ba n (a.1,g.1,λi=>g.2 (a.2 i))) (λ_=>9) (eN C q) (λa ha=>⟨rfl,rfl,λ_=>vH (b7 rfl (b7 rfl (bS (bp (ds:=[aU n a.2,aU n g.2]) rfl rfl (O7 hn (hl _ (vI.mp ha).1)))))) (by show 3<=1000;decide)⟩))
  rw[JW.mpr (λ_ _=>rfl),show((eN C q).map λa=>ba n (a.1,g.1,λi=>g.2 (a.2 i)))=(GW g).map (ba n)by rw[AF,QO];rfl]at d1;have d2:=e_ (k:=1) (pt:=av 11) (tt:=cN) (te:=dF (bF (aa 9) (aw 10 (aa 11)))) (deep:=false) (it:=b8 (aa 6))
   (ρ:=(qy n f z C q c 0 k6 (W0++PW++GW g) 1 (B0++PB) ((i9 g.1)) ((r9 n g.2))))
   (ac:=(qy n f z C q c 0 0 (W0++PW++GW g) 1 (B0++PB) ((i9 g.1)) ((r9 n g.2))))
   (Ao (mK rfl) (by rw[fP];omega))
   (ku (k:=1) (λv:Nat=>(iD v)) (λv=>[i9 v]) (λ_=>true) (λv=>cA (g.1,g.2 v)) (λ_=>9) (fR z C q) (λv hv=>⟨rfl,rfl,λ_=>vH (b7 rfl (bS (oq (q:=9) rfl rfl (kS (by
     rcases AA.mp hv with rfl|h
     .exact hz
     .exact(hC.bs _ h).2)) rfl))) (by show 2<=1000;decide)⟩))
  rw[JW.mpr (λ_ _=>rfl),show((fR z C q).map λv=>cA (g.1,g.2 v))=(GB g).map cA by rw[AG,QO];rfl]at d2;refine⟨(qy n f z C q c k4 k6 (W0++PW) 1 (B0++PB) ((i9 g.1)) ((r9 n g.2))),(qy n f z C q c 0 0 (W0++PW++GW g) 1 (B0++PB++GB g) ((i9 g.1)) ((r9 n g.2))),rfl,.inl ((aR (G0 rfl d1 rfl (by rw[Qb,Qb,Qk];omega) (by rw[<- Q4];rfl))).trans (G0 rfl d2 rfl (by rw[Qb,Qb,Qk];omega) (by rw[<- Q4];rfl))),0,0,_,_,rfl⟩)
  ⟨1,1,none,none,by show _=_;rw[Yn,YD,YD,QX,QX]⟩
 rw[Qb,Jc]at e9;have cE:∀ w∈W0++(dk C q c).flatMap GW,w.1<8/\w.2.1<8/\∀ i,i<n->w.2.2 i<n:=λw hw=>by
  have tY:=hC.p8;rw[<- eW]at hw;rcases vJ.mp hw with⟨h,_,_⟩|⟨a,r,k1,_,k2,_,e1,e2⟩
  .obtain⟨a1,a2,a3,_⟩:=hC.ws w h;exact⟨by omega,by omega,a3⟩
  .obtain⟨a1,a2,a3,_⟩:=hC.ws _ k1;obtain⟨b1,b2,b3,_⟩:=hC.ws _ k2;have a1:a.1<C.p:=a1;have b2:w.2.1<C.p:=b2;exact⟨by omega,by omega,λi hi=>by rw[e2];exact b3 _ (kN _ (a3 i hi))⟩
 have yy:∀ b∈B0++(dk C q c).flatMap GB,b.1<8/\b.2<n:=λb hb=>by
  have tY:=hC.p8;rw[<- eB]at hb;rcases vK.mp hb with⟨h,_⟩|⟨r,v,k1,_,k2,e⟩
  .obtain⟨a1,a2⟩:=hC.bs b h;exact⟨by omega,a2⟩
  .obtain⟨b1,b2,b3,_⟩:=hC.ws _ k1;have b2:b.1<C.p:=b2;have hv:v<n:=by
    rcases k2 with rfl|k2
    .exact hz
    .exact(hC.bs _ k2).2
   exact⟨by omega,by rw[e];exact b3 _ (kN v hv)⟩
 have AH:=L.hi;obtain⟨W',w1,w2,w3,w4⟩:=Pj (Pg n) (l:=W0++(dk C q c).flatMap GW) (σ:=[0,0,n+1]) rfl (by rw[Qk];omega) (λw hw=>by
  obtain⟨a1,a2,a3⟩:=cE w hw;refine⟨by show [0,0,((range n).map w.2.2).length+1]=_;rw[Qb,QK],λd hd=>?_⟩;rcases Qm.mp hd with rfl|hd
  .omega
  .rcases Qm.mp hd with rfl|hd
   .omega
   .have hd:d∈(range n).map w.2.2++[]:=hd;rw[QX]at hd;obtain⟨i,hi,rfl⟩:=Qo.mp hd;have:=a3 i (QA.mp hi);omega) (g:=aa 7) (ρ:=(qy n f z C q c k4 k6 (W0++(dk C q c).flatMap GW) 1 (B0++(dk C q c).flatMap GB) x y)) (mK rfl) (Q1 1)
 obtain⟨B',b1,b2,b3,b4⟩:=Pj (enc:=kg) (ed:=cA) (λ_=>rfl) (l:=B0++(dk C q c).flatMap GB) (σ:=[0,0]) rfl (by rw[Qk];omega) (λb hb=>by
  obtain⟨a1,a2⟩:=yy b hb;refine⟨rfl,λd hd=>?_⟩;rcases Qm.mp hd with rfl|hd
  .omega
  .have:=Q6.mp hd;omega) (g:=aa 8) (ρ:=(qy n f z C q c k4 k6 (W0++(dk C q c).flatMap GW) 0 (B0++(dk C q c).flatMap GB) x y)) (mK rfl) (Q1 1)
 rw[Qk]at w3 b3;refine⟨⟨C.p,W',B'⟩,hc,rfl,w2,w1,b2,b1,by show W'.length<=60;omega,by show B'.length<=60;omega,?_⟩;unfold xk NM;refine dh ?_;show aF _ _ (vM n f C q)=_;refine(aR (j2v (bp (ds:=[iD C.p,iD q]) rfl rfl (y4u hq)))).trans ?_;refine(aR (dw (bp (ds:=[aT n f,cY n C,iD q]) rfl rfl e3) rfl)).trans ?_;refine(aR (dw c4 rfl)).trans ?_;refine(aR (dw c5 rfl)).trans ?_;refine(aR (dw c6 rfl)).trans ?_;refine(aR (dw c7 rfl)).trans ?_;refine(aR (dw c8 rfl)).trans ?_;refine(aR ((iF (Ao (mK rfl) (by rw[Qb];omega))).trans e9)).trans ?_;exact fg (vH (b7 rfl (b7 (nv (bS w4)) (bS (nv (bS b4))))) (by show 3<=1000;decide))
end
theorem G6{α β:Type}{g:α->List β}{c:Nat}:∀ {l:List α},(∀ x∈l,(g x).length<=c)->(l.flatMap g).length<=c*l.length
 | [],_=>Q1 _
 | a::l,h=>by have i:=G6 (g:=g) (c:=c) (l:=l) λx hx=>h x (Qf _ hx);have:=h a Qg;rw[Yu,Qk,QB,Nat.mul_succ];omega
theorem j3e{C:cK}{E:cK}(hp:E.p=C.p)(h1:∀ w∈E.W,w∈oW C q c)(h2:E.W.map (kW n)=dZ ((oW C q c).map (kW n)))(h3:∀ b∈E.B,b∈oB z C q c)(h4:E.B.map kg=dZ ((oB z C q c).map kg)):vL n z C q c E:=by
 refine⟨hp,h1,λw hw=>?_,λb=>⟨h3 b,λhb=>?_⟩⟩
 .have:kW n w∈E.W.map (kW n):=by rw[h2];exact tI.mpr (Ju hw)
  obtain⟨e,he,q⟩:=Qo.mp this;unfold kW at q;injection q with q1 q2;injection q2 with q2 q3;injection q3 with q3 _;refine⟨e,he,YF q1,YF q2,λi hi=>?_⟩;have:=Zy (λl=>l[i]?) (Vh q3);simp only[Qp,Za hi,ZY]at this;exact QI this
 .have:kg b∈E.B.map kg:=by rw[h4];exact tI.mpr (Ju hb)
  obtain⟨e,he,q⟩:=Qo.mp this;rw[<- j4g q];exact he
theorem j35{Y:List Ky}(h:jd X)(hs:∀ k∈Y,k∈X)(hl:Y.length<=X.length):jd Y:=by
 cases Y with
 | nil=>exact⟨by show 0<64;decide,rfl,λk hk=>nomatch hk⟩
 | cons y Y=>
  have hy:=(h.2.2 y (hs y Qg)).1;refine⟨Yc hl h.1,by show(y.map sh).head? = _;rw[hy];exact h.2.1,λk hk=>?_⟩;obtain⟨a,b⟩:=h.2.2 k (hs k hk);exact⟨by show k.map sh=y.map sh;rw[a,hy],b⟩
theorem Pn{α:Type}{enc:α->Ky}{l:List α}(h0:σ.head? = some 0)(FH:l.length<=60)(hs:∀ x∈l,(enc x).map sh=σ/\∀ d∈gA (enc x),d<1000):jd (l.map enc):=by
 cases l with
 | nil=>exact⟨by show 0<64;decide,rfl,λk hk=>nomatch hk⟩
 | cons x l=>
  have sx:=(hs x Qg).1;refine⟨by rw[Qb];omega,by show((enc x).map sh).head? = _;rw[sx];exact h0,λk hk=>?_⟩;obtain⟨y,hy,rfl⟩:=Qo.mp hk;obtain⟨s1,s2⟩:=hs y hy;exact⟨by show(enc y).map sh=(enc x).map sh;rw[s1,sx],s2⟩
theorem z92(X:List Ky):(dZ X).length<=X.length:=GY (Cn X) λx hx=>tI.mp hx
theorem G7(h:jd X):jd (dZ X):=j35 h (λk hk=>tI.mp hk) (z92 X)
theorem Po(h:jd X):dZ (dZ X)=dZ X:=by
 refine(L_ (G7 h) (Cn X) (λ_=>Iff.rfl) (Ub _) λi j uf hj=>?_).symm;have hi:i<(dZ X).length:=by omega
 rw[Qi,Qi,Qc hi,Qc hj];show dA (dZ X)[i]<=dA (dZ X)[j];by_cases e:i=j
 .subst e;exact Vl _
 .exact JU.mp (L7 X) i j hi hj (by omega)
theorem Pp(ok:jd ks)(hg:g ρ=some (.tup (ks.map cW),q,ac)):lJ g ρ=some (.lst ((dZ ks).map cW),1,ac):=by unfold lJ;rw[hg];show(match og vi (ks.map cW)with|some ks=>if jd ks then some (D.lst ((dZ ks).map cW),1,ac)else none|none=>none)=_;rw[wW FI];exact Qh ok
theorem Pq(ok:jd ks)(hg:g ρ=some (.lst (ks.map cW),q,ac))(hq:q<=1):lJ g ρ=some (.lst ((dZ ks).map cW),1,ac):=by unfold lJ;rw[hg];show(if q<=1 then(match og vi (ks.map cW)with|some ks=>if jd ks then some (D.lst ((dZ ks).map cW),1,ac)else none|none=>none)else none)=_;rw[Qh hq,wW FI];exact Qh ok
theorem Pr(n:Nat)(W:List Wy):W.map (ba n)=(W.map (kW n)).map cW:=by rw[QO];exact Zb λw _=>(Pg n w).symm
theorem Pt(B:List (Nat×Nat)):B.map cA=(B.map kg).map cW:=by rw[QO];rfl
theorem G8(h:∀ d∈ds,PyData.eqv (b6 d) (b6 d)=true):PyData.eqv (b6 (.lst ds)) (b6 (.lst ds))=true:=GS h
theorem Pu(k:Ky):PyData.eqv (b6 (cW k)) (b6 (cW k))=true:=GS λd hd=>by
 obtain⟨x,_,rfl⟩:=Qo.mp hd;rcases x with m|l
 .exact O5 _
 .exact GS λd hd=>by obtain⟨y,_,rfl⟩:=Qo.mp hd;exact O5 _
theorem Pw(k:Ky):Sh 2 (cW k):=.tup λd hd=>by
 obtain⟨x,_,rfl⟩:=Qo.mp hd;rcases x with m|l
 .exact .int _
 .exact .tup λd hd=>by obtain⟨y,_,rfl⟩:=Qo.mp hd;exact .int _
theorem z8t(X Y:List Ky):cH (.lst [.lst (X.map cW),.lst (Y.map cW)]) (.lst [.lst (X.map cW),.lst (Y.map cW)])=some (.bl false):=by have s:Sh 4 (.lst [.lst (X.map cW),.lst (Y.map cW)]):=.lst (CM (.lst λd hd=>by obtain⟨k,_,rfl⟩:=Qo.mp hd;exact Pw k) (.lst λd hd=>by obtain⟨k,_,rfl⟩:=Qo.mp hd;exact Pw k));have e:PyData.eqv (b6 (.lst [.lst (X.map cW),.lst (Y.map cW)])) (b6 (.lst [.lst (X.map cW),.lst (Y.map cW)]))=true:=G8 (CM (G8 λd hd=>by obtain⟨k,_,rfl⟩:=Qo.mp hd;exact Pu k) (G8 λd hd=>by obtain⟨k,_,rfl⟩:=Qo.mp hd;exact Pu k));unfold cH;rw[Qh ⟨s.ok,s.ok⟩];show some (D.bl (!PyData.eqv (b6 _) (b6 _)))=_;rw[e];rfl
theorem vO{α β γ:Type}(p:α->Bool)(g:α->β)(h:β->List γ):∀ l:List α,((l.filter p).map g).flatMap h=l.flatMap λx=>if p x=true then h (g x)else []
 | []=>rfl
 | x::l=>by
  rw[Yu,<- vO p g h l];by_cases e:p x=true
  .rw[QV e,Qh e];rfl
  .rw[QZ e,Ql e];rfl
theorem j8q{k:Nat}{c:Nat}(ha:aa i ρ=some ((iD a),9,ρ))(hb:aa j ρ=some ((iD b),9,ρ))(hc:aa k ρ=some ((iD c),9,ρ)):bg (n6 vj vj (aa i) (aa j) (aa k)) ρ=some (decide (a=b)&&decide (b=c),ρ):=by
 have e:∀ x y:Nat,vj (iD x) (iD y)=some (.bl (decide (x=y))):=λx y=>by show some (D.bl (Int.ofNat x==Int.ofNat y))=_;congr 2;rw[VS];simp;exact Int.ofNat_inj
 unfold bg n6;rw[ha];simp only[hb,e];by_cases h:a=b
 .rw[Qr h];simp only[hc,e];rfl
 .rw[QF h];rfl
abbrev dI (n:Nat)(f:Nat->Nat->Nat)(C:cK)(q:Nat)(l s g r wh wo ws bs he x y u:OD:=none):a_:=[t9 n f,c9 n C,i9 q,l,s,g,r,wh,wo,ws,bs,he,x,y,u]
abbrev dS (n:Nat)(j:Nat->Nat):D:=.lst (aq ((range n).map j))
abbrev mP (n:Nat)(f:Nat->Nat->Nat)(C:cK)(q:Nat)(J:Nat->Nat)(w:Wy)(l:List Nat)(wo:OD)(W:List Wy)(bs he x y u:OD:=none):a_:=dI n f C q (some (dS n J,1)) ((i9 w.1)) ((i9 w.2.1)) ((r9 n w.2.2)) ((uL l)) wo (some (.lst (W.map (ba n)),1)) bs he x y u
section
variable {n:Nat}{f:Nat->Nat->Nat}(L:bq n f){z:Nat}(hz:z<n)(bz:∀ j,j<n->f z j=j){C:cK}(hC:C.Ok n f){q:Nat}
include L hz bz hC
theorem j2m(q:Nat):∀ x y,x<n->y<n->f x y=y->f (jr f z C.W (q,q) x) (jr f z C.W (q,q) y)=jr f z C.W (q,q) y:=λx y hx hy G2=>by
 have hl:∀ w∈C.W,∀ i,i<n->w.2.2 i<n:=λw hw=>(hC.ws w hw).2.2.1;have hJ:∀ i,i<n->jr f z C.W (q,q) i<n:=λi hi=>qx L hz bz hl (q,q) hi;refine L.cJ hz bz (hJ y hy) (λv hv=>?_) λv hv=>?_
 .obtain⟨w,hw,_,rfl⟩:=kX.mp hv;exact hl w hw x hx
 .obtain⟨w,hw,ew,rfl⟩:=kX.mp hv;obtain⟨_,_,b3,b4⟩:=hC.ws w hw;refine L.le_trans (b3 x hx) (b3 y hy) (hJ y hy) (b4 x y hx hy G2) (L.di hz (λu hu=>?_) (kX.mpr ⟨w,hw,ew,rfl⟩));obtain⟨w2,AE,_,rfl⟩:=kX.mp hu;exact hl w2 AE y hy
theorem j0p:∃ a b c,fY (f9 (bH (av 4) (bH (av 5) (bH (av 6) fC)))) Gn (C.W.map (ba n)) (dI n f C q (some (dS n (λ_=>z),1)))=some (.nx (dI n f C q (some (dS n (jr f z C.W (q,q)),1)) a b c)):=by
 have hn:n<=1000:=Qw L.hi (by decide);have hl:∀ w∈C.W,∀ i,i<n->w.2.2 i<n:=λw hw=>(hC.ws w hw).2.2.1;have t7:∀ {r s:Nat->Nat},(∀ i,i<n->r i=s i)->dS n r=dS n s:=λh=>Zy (λl=>D.lst (aq l)) (Zb λi hi=>h i (QA.mp hi));obtain⟨am,e,a,b,c,rfl⟩:=kh (pt:=f9 (bH (av 4) (bH (av 5) (bH (av 6) fC)))) (body:=Gn) (C.W.map (ba n)) (λi ρ=>∃ a b c,ρ=(dI n f C q (some (dS n (jr f z (C.W.take i) (q,q)),1)) a b c)) (dI n f C q (some (dS n (λ_=>z),1))) (λi hi ρ aj=>by
  obtain⟨a,b,c,rfl⟩:=aj;have bW:i<C.W.length:=by rw[Qb]at hi;exact hi
  have vN:=Q7 bW;have ed:(C.W.map (ba n))[i]=ba n C.W[i]:=by simp
  have et:C.W.take (i+1)=C.W.take i++[C.W[i]]:=by rw[JN];simp[bW]
  rw[ed,et];have G1:∀ w∈C.W.take i,∀ i,i<n->w.2.2 i<n:=λw m=>hl w (YK m);generalize C.W.take i=W1 at *
  generalize C.W[i]=w at *
  obtain⟨s,g,r⟩:=w;have hr:∀ i,i<n->r i<n:=hl _ vN;have hj:∀ i,i<n->jr f z W1 (q,q) i<n:=λi hi=>qx L hz bz G1 (q,q) hi;generalize hJ:jr f z W1 (q,q)=J at *
  have t1:=j8q (i:=4) (j:=5) (k:=2) (ρ:=(dI n f C q (some (dS n J,1)) ((i9 s)) ((i9 g)) ((r9 n r)))) (a:=s) (b:=g) (c:=q) rfl rfl rfl;refine⟨dI n f C q (some (dS n J,1)) ((i9 s)) ((i9 g)) ((r9 n r)),dI n f C q (some (dS n (jr f z (W1++[(s,g,r)]) (q,q)),1)) ((i9 s)) ((i9 g)) ((r9 n r)),rfl,.inl ?_,_,_,_,rfl⟩;by_cases hm:(s,g)=(q,q)
  .have h1:s=q:=(YL hm).1;have h2:g=q:=(YL hm).2;rw[Qr (h1.trans h2.symm),Qr h2]at t1;have rf:uU (bF (aa 3) (aa 6)) (dI n f C q (some (dS n J,1)) ((i9 s)) ((i9 g)) ((r9 n r)))=some ((range n).map λj=>.tup [iD (J j),iD (r j)],(dI n f C q (some (dS n J,0)) ((i9 s)) ((i9 g)) ((r9 n r)))):=by have h3:bF (aa 3) (aa 6) (dI n f C q (some (dS n J,1)) ((i9 s)) ((i9 g)) ((r9 n r)))=some ([dS n J,aU n r],(dI n f C q (some (dS n J,0)) ((i9 s)) ((i9 g)) ((r9 n r)))):=b7 (mK rfl) (bS (q:=9) rfl);unfold uU;rw[h3];refine(Qh (by rw[fP,Qb,QK];exact hn)).trans ?_;rw[MJ n J r]
   have hc:=e_ (k:=2) (tt:=cN) (te:=cZ (aw 0 (aa 15)) (aa 16)) (deep:=false) rf (ML (i:=15) rfl J r (λ_=>true) (λj=>(iD (f (J j) (r j)))) (λ_=>9) (λj hj=>rfl) (λj Px _=>CH (oq (q:=9) rfl rfl (lK (f:=f) (hj j Px)) rfl) rfl (mB (f:=f) (i:=J j) (hr j Px)) rfl rfl));rw[show(range n).filter (λ_=>true)=range n by simp,<- rN]at hc;rw[show(D.lst (aq ((range n).map λj=>f (J j) (r j))))=dS n (jr f z (W1++[(s,g,r)]) (q,q))from t7 λi _=>by rw[CN,Qh hm,hJ]]at hc;exact(nu t1).trans (dw hc rfl)
  .have hf:(decide (s=g)&&decide (g=q))=false:=by
    rw[V0,ZS,ZS];by_cases h1:g=q
    .exact .inl λh2=>hm (by rw[h2,h1])
    .exact .inr h1
   rw[hf]at t1;refine(iu t1).trans ?_;rw[t7 (r:=jr f z (W1++[(s,g,r)]) (q,q)) (s:=J) λi _=>by rw[CN,Ql hm,hJ]];rfl)
  ⟨none,none,none,rfl⟩
 rw[Qb,Jc]at e;exact⟨a,b,c,e⟩
theorem z5n(hJ:∀ i,i<n->J i<n)(hm:∀ x y,x<n->y<n->f x y=y->f (J x) (J y)=J y)(a b c:OD):∃ (l:List Nat) (x:OD),l.length=n/\Lp n f J (gv l)/\fY (av 8) Gm (cM n) (dI n f C q (some (dS n J,1)) a b c (some (.lst [],1)))=some (.nx (dI n f C q (some (dS n J,1)) a b c (some (.lst (aq l),1)) x)):=by
 have h8:=L.hi;obtain⟨am,e,l,x,hl,hL,rfl⟩:=kh (pt:=av 8) (body:=Gm) (cM n) (λi ρ=>∃ (l:List Nat) (x:OD),l.length=i/\(∀ y,y<i->gv l y<n/\f y (gv l y)=gv l y/\f (J (gv l y)) (gv l y)=gv l y/\∀ x,x<n->f y x=x->f (J x) x=x->f (gv l y) x=x)/\ρ=(dI n f C q (some (dS n J,1)) a b c (some (.lst (aq l),1)) x)) (dI n f C q (some (dS n J,1)) a b c (some (.lst [],1))) (λi hi ρ aj=>by
  obtain⟨l,x,hl,hL,rfl⟩:=aj;have bW:i<n:=by rw[fM]at hi;exact hi
  have hcy:=bq.lN (n:=n) (f:=f) i;obtain⟨am,e,c',hc,h1,h2,h3,rfl⟩:=FY (c:=bg (e2 cH (cZ (aw 0 (aa 8)) (aw 3 (aa 8))) (aa 8))) (b:=NV)
   (Q:=λρ=>∃ k,k<n/\f i k=k/\f (J k) k=k/\(∀ x,x<n->f i x=x->f (J x) x=x->f k x=x)/\ρ=(dI n f C q (some (dS n J,1)) a b c (some (.lst (aq l),1)) (some (.int (Int.ofNat k),9))))
   (λm ρ=>∃ k,k<n/\m=bq.cnt n f k/\f i k=k/\(∀ x,x<n->f i x=x->f (J x) x=x->f k x=x)/\ρ=(dI n f C q (some (dS n J,1)) a b c (some (.lst (aq l),1)) (some (.int (Int.ofNat k),9)))) (k:=bq.cnt n f i) (ρ:=(dI n f C q (some (dS n J,1)) a b c (some (.lst (aq l),1)) (some (.int (Int.ofNat i),9)))) (by omega) ⟨i,bW,rfl,L.idem i bW,λx hx h _=>h,rfl⟩ (λm ρ aj=>by
    obtain⟨k,hk,fZ,h1,h2,GV⟩:=aj;subst GV fZ;have vP:=hJ k hk;have zj:=L.cl k (J k) hk vP;have ix:cZ (aw 0 (aa 8)) (aw 3 (aa 8)) (dI n f C q (some (dS n J,1)) a b c (some (.lst (aq l),1)) (some (.int (Int.ofNat k),9)))=some (.int (Int.ofNat (f k (J k))),9,(dI n f C q (some (dS n J,1)) a b c (some (.lst (aq l),1)) (some (.int (Int.ofNat k),9)))):=
     CH (oq (q:=9) rfl rfl (lK (f:=f) hk) rfl) (oq (q:=1) rfl rfl (vk hk) rfl) (mB (f:=f) (i:=k) vP) rfl rfl
    have t:=eH (cI (g:=cH) (fb:=aa 8) (q':=9) ix rfl (jE (f k (J k)) k));by_cases h:f k (J k)=k
    .rw[Qr h]at t;exact .inl ⟨_,t,k,hk,h1,by rw[L.comm (J k) k vP hk];exact h,h2,rfl⟩
    .rw[QF h]at t;refine .inr ⟨_,(dI n f C q (some (dS n J,1)) a b c (some (.lst (aq l),1)) (some (.int (Int.ofNat (f k (J k))),9))),bq.cnt n f (f k (J k)),t,dw ix rfl,L.lO hk zj (L.lL hk vP) λq=>h q.symm,f k (J k),zj,rfl,L.le_trans bW hk zj h1 (L.lL hk vP),λx hx GX Aw=>?_,rfl⟩;have Ax:=h2 x hx GX Aw;exact L.lub hk vP hx Ax (L.le_trans vP (hJ x hx) hx (hm k x hk hx Ax) Aw))
  have gl:∀ y,gv (l++[c']) y=if y=i then c' else gv l y:=λy=>by
   unfold gv;rw[Qi,Qi];by_cases ey:y=i
   .rw[Qh ey,ey,<- hl,Zk (Qj _),VJ];rfl
   .rw[Ql ey];by_cases hy:y<l.length
    .rw[QU hy]
    .rw[Qz (by rw[Qk,Yv];omega),Qz (by omega)]
  refine⟨dI n f C q (some (dS n J,1)) a b c (some (.lst (aq l),1)) (some (.int (Int.ofNat i),9)),dI n f C q (some (dS n J,1)) a b c (some (.lst (aq (l++[c'])),1)) (some (.int (Int.ofNat c'),9)),by rw[rS];rfl,.inl ((aR e).trans (tJ (d:=.int (Int.ofNat c')) rfl (bS (q:=9) rfl) rfl (by rw[fP];omega) ?_)),l++[c'],_,by rw[Qk,Yv,hl],λy hy=>?_,rfl⟩
  .have:aq l++[.int (Int.ofNat c')]=aq (l++[c']):=by unfold aq;rw[Q4];rfl
   rw[this];rfl
  .rw[gl];by_cases ey:y=i
   .rw[Qh ey,ey];exact⟨hc,h1,h2,h3⟩
   .rw[Ql ey];exact hL y (by omega))
  ⟨[],none,rfl,λy hy=>absurd hy (Ze _),rfl⟩
 rw[fM]at hl hL;exact⟨l,x,hl,hL,e⟩
include L hz bz hC
theorem j90(hl:l.length=n)(dz:∀ i,i<n->gv l i<n){s g:Nat}(hr:∀ i,i<n->r i<n)(wo bs he:OD)(W0:List Wy)(h60:W0.length+(eN C q).length<=60)(x y u:OD) :
  ∃ x' y' u',fY (f9 (bH (av 12) (bH (av 13) (bH (av 14) fC)))) Gj (C.W.map (ba n)) (mP n f C q J (s,g,r) l wo W0 bs he x y u)
   = some (.nx (dI n f C q (some (dS n J,1)) ((i9 s)) ((i9 g)) ((r9 n r)) ((uL l)) wo (some (.lst ((W0++(eN C q).map λa=>(a.1,g,λi=>r (gv l (a.2 i)))).map (ba n)),1)) bs he x' y' u')):=by
 have hn:n<=1000:=Qw L.hi (by decide);have hw:∀ w∈C.W,∀ i,i<n->w.2.2 i<n:=λw hw=>(hC.ws w hw).2.2.1;obtain⟨P,hP⟩:∃ P:Wy->Bool,P=λw=>decide (w.2.1=q) && !decide (w.1=q):=⟨_,rfl⟩;obtain⟨V,hV⟩:∃ V:Wy->Wy,V=λw=>(w.1,g,λi=>r (gv l (w.2.2 i))):=⟨_,rfl⟩;have eC:((eN C q).map λa=>((a.1,g,λi=>r (gv l (a.2 i))):Wy))=(C.W.filter P).map V:=by unfold eN;rw[QO,hP,hV];rfl
 have pW:∀ i,((C.W.take i).filter P).length<=(eN C q).length:=λi=>by have:((C.W.take i).filter P).length<=(C.W.filter P).length:=(List.Sublist.filter P (List.take_sublist i C.W)).length_le;unfold eN;rw[Qb,<- hP];exact this
 rw[eC];obtain⟨am,e,x',y',u',rfl⟩:=kh (pt:=f9 (bH (av 12) (bH (av 13) (bH (av 14) fC)))) (body:=Gj) (C.W.map (ba n)) (λi ρ=>∃ x y u,ρ=(mP n f C q J (s,g,r) l wo ((W0++((C.W.take i).filter P).map V)) bs he x y u))
  (mP n f C q J (s,g,r) l wo W0 bs he x y u) (λi hi ρ aj=>by
  obtain⟨x,y,u,rfl⟩:=aj;have bW:i<C.W.length:=by rw[Qb]at hi;exact hi
  have vN:=Q7 bW;have fi:=pW i;have ed:(C.W.map (ba n))[i]=ba n C.W[i]:=by simp
  have et:C.W.take (i+1)=C.W.take i++[C.W[i]]:=by rw[JN];simp[bW]
  rw[ed,et,Vb,Q4 (f:=V)];have hPl:(((C.W.take i).filter P).map V).length<=(eN C q).length:=by rw[Qb];exact fi
  generalize ((C.W.take i).filter P).map V=PW at *
  generalize C.W[i]=w at *
  have vF:=hw w vN;have t1:=tZ (ρ:=(mP n f C q J (s,g,r) l wo ((W0++PW)) bs he ((i9 w.1)) ((i9 w.2.1)) ((r9 n w.2.2)))) (eH (cI (fa:=aa 13) (fb:=aa 2) (q:=9) (q':=9) rfl rfl (pq w.2.1 q))) (eH (cI (fa:=aa 12) (fb:=aa 2) (q:=9) (q':=9) rfl rfl (jE w.1 q)));have pw:(decide (w.2.1=q) && !decide (w.1=q))=P w:=by rw[hP]
  rw[pw]at t1;refine⟨mP n f C q J (s,g,r) l wo ((W0++PW)) bs he ((i9 w.1)) ((i9 w.2.1)) ((r9 n w.2.2)),mP n f C q J (s,g,r) l wo ((W0++(PW++([w].filter P).map V))) bs he ((i9 w.1)) ((i9 w.2.1)) ((r9 n w.2.2)),rfl,.inl ?_,_,_,_,rfl⟩;cases hb:P w with
  | false=>
   rw[hb]at t1;rw[QZ (by rw[hb];exact Zd),VT,Yk,QX];exact(iu t1).trans rfl
  | true=>
   rw[hb]at t1;rw[QV hb,VT,QM,Yk,<- ZB];have hc:=e_ (k:=1) (pt:=av 15) (tt:=cN) (te:=aw 6 (aw 7 (aa 15))) (deep:=false) (it:=b8 (aa 14)) (ρ:=(mP n f C q J (s,g,r) l wo ((W0++PW)) bs he ((i9 w.1)) ((i9 w.2.1)) ((r9 n w.2.2))))
    (kU (q:=9) (ds:=aq ((range n).map w.2.2)) rfl (by rw[fP,Qb,QK];exact hn)) (ku (k:=1) (λv:Nat=>(iD v)) (λv=>[i9 v]) (λ_=>true) (λv=>(iD (r (gv l v)))) (λ_=>9) ((range n).map w.2.2) (λv hv=>by obtain⟨i,hi,rfl⟩:=Qo.mp hv;have oV:=vF i (QA.mp hi);refine⟨rfl,rfl,λ_=>?_⟩;exact oq (oq (q:=1) rfl rfl (FZ (by rw[hl];exact oV)) rfl) rfl (kS (dz _ oV)) rfl))
   rw[JW.mpr (λ_ _=>rfl),QO]at hc;have ew:D.tup [iD w.1,iD g,.tup ((range n).map ((λv=>(iD (r (gv l v)))) ∘ w.2.2))]=ba n (V w):=by rw[hV];show _=D.tup [iD w.1,iD g,.tup (aq ((range n).map λi=>r (gv l (w.2.2 i))))];rw[rN];rfl
   have hd:aE (dF (bB (aa 12) (aa 5) (iE (aE (cQ 1 (b8 (aa 14)) (av 15) cN (aw 6 (aw 7 (aa 15))) false))))) (mP n f C q J (s,g,r) l wo ((W0++PW)) bs he ((i9 w.1)) ((i9 w.2.1)) ((r9 n w.2.2)))=some ([D.tup [(iD w.1),(iD g),.tup ((range n).map ((λv=>(iD (r (gv l v)))) ∘ w.2.2))]],(mP n f C q J (s,g,r) l wo ((W0++PW)) bs he ((i9 w.1)) ((i9 w.2.1)) ((r9 n w.2.2)))):=bS (vH (b7 (f:=aa 12) (q:=9) rfl (b7 (f:=aa 5) (q:=9) rfl (bS (nv (bS hc))))) (by show 3<=1000;decide));rw[ew]at hd;exact(nu t1).trans (tJ rfl hd rfl (by rw[Qb,Qk];omega) (by unfold mP;rw[Q4 (l₁:=W0++PW)];rfl)))
  ⟨x,y,u,by show _=_;rw[Yn,VT,Yk,QX]⟩
 rw[Qb,Jc]at e;exact⟨x',y',u',e⟩
include L hz bz hC
theorem j48(hl:l.length=n)(dz:∀ i,i<n->gv l i<n)(qz:(oW C q (gv l)).length<=60)(qA:(oB z C q (gv l)).length<=60)(h7:(eN C q).length<=60)(wo:OD)(a b c:OD) :
  ∃ a' b' c' k x' y' u',fY (f9 (bH (av 4) (bH (av 5) (bH (av 6) fC)))) Gk (C.W.map (ba n)) (dI n f C q (some (dS n J,1)) a b c ((uL l)) wo (some (.lst ((C.W.filter λw=>!decide (q ∈ [w.1,w.2.1])).map (ba n)),1)) (some (.lst ((C.B.filter λb=>!decide (b.1=q)).map cA),1)) ((uL (fR z C q))))
   = some (.nx (dI n f C q (some (dS n J,1)) a' b' c' ((uL l)) wo (some (.lst ((oW C q (gv l)).map (ba n)),1)) (some (.lst ((oB z C q (gv l)).map cA),1)) (some (.lst (aq (fR z C q)),k)) x' y' u')):=by
 have hn:n<=1000:=Qw L.hi (by decide);have pJ:=hC.tW;have pK:=hC.xy;have xZ:∀ w∈C.W,∀ i,i<n->w.2.2 i<n:=λw hw=>(hC.ws w hw).2.2.1;have Pm:(gB C.B q).length<=60:=by unfold gB;rw[Qb];exact Qw (Q0 _ _) pK
 have bl:(fR z C q).length<=61:=by unfold fR;rw[QB];omega
 obtain⟨P,hP⟩:∃ P:Wy->Bool,P=λw=>decide (w.1=q) && !decide (w.2.1=q):=⟨_,rfl⟩;obtain⟨GW,AF⟩:∃ GW:Wy->List Wy,GW=λw=>if P w=true then(eN C q).map λa=>(a.1,w.2.1,λi=>w.2.2 (gv l (a.2 i)))else []:=⟨_,rfl⟩
 obtain⟨GB,AG⟩:∃ GB:Wy->List (Nat×Nat),GB=λw=>if P w=true then(fR z C q).map λv=>(w.2.1,w.2.2 (gv l v))else []:=⟨_,rfl⟩
 have eW:oW C q (gv l)=(C.W.filter λw=>!decide (q ∈ [w.1,w.2.1]))++C.W.flatMap GW:=by unfold oW dk;rw[vO,AF,hP]
 have eB:oB z C q (gv l)=(C.B.filter λb=>!decide (b.1=q))++C.W.flatMap GB:=by unfold oB dk;rw[vO,AG,hP]
 rw[eW]at qz ⊢;rw[eB]at qA ⊢;rw[Qk]at qz qA;generalize (C.W.filter λw=>!decide (q ∈ [w.1,w.2.1]))=W0 at *
 generalize (C.B.filter λb=>!decide (b.1=q))=B0 at *
 have tk:∀ {β:Type} (h:Wy->List β) (i:Nat),((C.W.take i).flatMap h).length<=(C.W.flatMap h).length:=λh i=>by
  conv=>rhs;rw[<- Jh i C.W,ZI,Qk]
  exact Z0 _ _
 obtain⟨am,e,a',b',c',k,x',y',u',rfl⟩:=kh (pt:=f9 (bH (av 4) (bH (av 5) (bH (av 6) fC)))) (body:=Gk) (C.W.map (ba n)) (λi ρ=>∃ a b c k x y u,ρ=(dI n f C q (some (dS n J,1)) a b c ((uL l)) wo (some (.lst ((W0++(C.W.take i).flatMap GW).map (ba n)),1)) (some (.lst ((B0++(C.W.take i).flatMap GB).map cA),1)) (some (.lst (aq (fR z C q)),k)) x y u))
  (dI n f C q (some (dS n J,1)) a b c ((uL l)) wo (some (.lst (W0.map (ba n)),1)) (some (.lst (B0.map cA),1)) ((uL (fR z C q)))) (λi hi ρ aj=>by
  obtain⟨a,b,c,k,x,y,u,rfl⟩:=aj;have bW:i<C.W.length:=by rw[Qb]at hi;exact hi
  have vN:=Q7 bW;have ed:(C.W.map (ba n))[i]=ba n C.W[i]:=by simp
  have et:C.W.take (i+1)=C.W.take i++[C.W[i]]:=by rw[JN];simp[bW]
  have t1:=tk GW i;have t2:=tk GB i;have t3:=tk GW (i+1);have t4:=tk GB (i+1);rw[et,ZI,Qk]at t3 t4;rw[ed,et,ZI,ZI,<- ZB,<- ZB];generalize (C.W.take i).flatMap GW=PW at *
  generalize (C.W.take i).flatMap GB=PB at *
  generalize C.W[i]=w at *
  have vF:=xZ w vN;have G4:[w].flatMap GW=GW w:=by simp
  have G5:[w].flatMap GB=GB w:=by simp
  rw[G4]at t3 ⊢;rw[G5]at t4 ⊢;have tt:=tZ (ρ:=(mP n f C q J w l wo ((W0++PW)) (some (.lst ((B0++PB).map cA),1)) (some (.lst (aq (fR z C q)),k)) x y u)) (eH (cI (fa:=aa 4) (fb:=aa 2) (q:=9) (q':=9) rfl rfl (pq w.1 q))) (eH (cI (fa:=aa 5) (fb:=aa 2) (q:=9) (q':=9) rfl rfl (jE w.2.1 q)));have pw:(decide (w.1=q) && !decide (w.2.1=q))=P w:=by rw[hP]
  rw[pw]at tt;have gW:GW w=if P w=true then(eN C q).map λa=>(a.1,w.2.1,λi=>w.2.2 (gv l (a.2 i)))else []:=by rw[AF]
  have xD:GB w=if P w=true then(fR z C q).map λv=>(w.2.1,w.2.2 (gv l v))else []:=by rw[AG]
  refine⟨mP n f C q J w l wo ((W0++PW)) (some (.lst ((B0++PB).map cA),1)) (some (.lst (aq (fR z C q)),k)) x y u,?_⟩;cases hb:P w with
  | false=>
   rw[hb]at tt;rw[hb,Ql Zd]at gW xD;rw[gW,xD,QX,QX];exact⟨_,rfl,.inl ((iu tt).trans rfl),_,_,_,_,_,_,_,rfl⟩
  | true=>
   rw[hb]at tt;rw[hb,Qh rfl]at gW xD;rw[xD,Qb]at t4;rw[gW,Qb]at t3;have hc:=e_ (k:=1) (pt:=av 15) (tt:=cN) (te:=dF (bF (aa 5) (aw 6 (aw 7 (aa 15))))) (deep:=false) (it:=b8 (aa 11)) (ρ:=(mP n f C q J w l wo ((W0++PW)) (some (.lst ((B0++PB).map cA),1)) (some (.lst (aq (fR z C q)),k)) x y u))
    (ac:=(mP n f C q J w l wo ((W0++PW)) (some (.lst ((B0++PB).map cA),1)) (some (.lst (aq (fR z C q)),0)) x y u))
    (Ao (mK rfl) (by rw[fP];omega)) (ku (k:=1) (λv:Nat=>(iD v)) (λv=>[i9 v]) (λ_=>true) (λv=>cA (w.2.1,w.2.2 (gv l v))) (λ_=>9) (fR z C q) (λv hv=>by
     have oV:v<n:=by
      rcases AA.mp hv with rfl|h
      .exact hz
      .exact(hC.bs _ h).2
     exact⟨rfl,rfl,λ_=>vH (b7 (q:=9) rfl (bS (oq (q:=9) (oq (q:=1) rfl rfl (FZ (by rw[hl];exact oV)) rfl) rfl (kS (dz _ oV)) rfl))) (by show 2<=1000;decide)⟩))
   rw[JW.mpr (λ_ _=>rfl),show((fR z C q).map λv=>cA (w.2.1,w.2.2 (gv l v)))=(GB w).map cA by rw[xD,QO];rfl]at hc;obtain⟨x',y',u',s_⟩:=j90 L hz bz hC (q:=q) (J:=J) hl dz (s:=w.1) (g:=w.2.1) (r:=w.2.2) vF wo (some (.lst ((B0++PB++GB w).map cA),1)) (some (.lst (aq (fR z C q)),0)) (W0++PW) (by rw[Qk];omega) x y u;rw[<- gW]at s_;refine⟨_,rfl,.inl ((nu tt).trans ((aR (G0 rfl hc rfl (by rw[Qb,Qb,Qk,xD,Qb];omega) rfl)).trans ?_)),((i9 w.1)),((i9 w.2.1)),((r9 n w.2.2)),0,x',y',u',rfl⟩;rw[<- Q4];exact(iF (kU (q:=9) rfl (by rw[Qb];omega))).trans s_)
  ⟨a,b,c,1,none,none,none,by show _=_;rw[Yn,YD,YD,QX,QX]⟩
 rw[Qb,Jc]at e;exact⟨a',b',c',k,x',y',u',e⟩
theorem Py(hc:∀ i,i<n->c i<n)(h:(oW C q c).length<=60):jd ((oW C q c).map (kW n)):=by
 have AH:=L.hi;have tY:=hC.p8;have h1:∀ w∈oW C q c,(kW n w).map sh=[0,0,n+1]/\∀ d∈gA (kW n w),d<1000:=λw hw=>by
  have cE:w.1<8/\w.2.1<8/\∀ i,i<n->w.2.2 i<n:=by
   rcases vJ.mp hw with⟨h,_,_⟩|⟨a,r,k1,_,k2,_,e1,e2⟩
   .obtain⟨a1,a2,a3,_⟩:=hC.ws w h;exact⟨by omega,by omega,a3⟩
   .obtain⟨a1,a2,a3,_⟩:=hC.ws _ k1;obtain⟨b1,b2,b3,_⟩:=hC.ws _ k2;have a1:a.1<C.p:=a1;have b2:w.2.1<C.p:=b2;exact⟨by omega,by omega,λi hi=>by rw[e2];exact b3 _ (hc _ (a3 i hi))⟩
  obtain⟨a1,a2,a3⟩:=cE;refine⟨by show [0,0,((range n).map w.2.2).length+1]=_;rw[Qb,QK],λd hd=>?_⟩;rcases Qm.mp hd with rfl|hd
  .omega
  .rcases Qm.mp hd with rfl|hd
   .omega
   .have hd:d∈(range n).map w.2.2++[]:=hd;rw[QX]at hd;obtain⟨i,hi,rfl⟩:=Qo.mp hd;have:=a3 i (QA.mp hi);omega
 exact Pn rfl h h1
theorem Pz(hc:∀ i,i<n->c i<n)(h:(oB z C q c).length<=60):jd ((oB z C q c).map kg):=by
 have AH:=L.hi;have tY:=hC.p8;refine Pn (σ:=[0,0]) rfl h λb hb=>?_;have yy:b.1<8/\b.2<n:=by
  rcases vK.mp hb with⟨h,_⟩|⟨r,v,k1,_,k2,e⟩
  .obtain⟨a1,a2⟩:=hC.bs b h;exact⟨by omega,a2⟩
  .obtain⟨b1,b2,b3,_⟩:=hC.ws _ k1;have b2:b.1<C.p:=b2;have hv:v<n:=by
    rcases k2 with rfl|k2
    .exact hz
    .exact(hC.bs _ k2).2
   exact⟨by omega,by rw[e];exact b3 _ (hc v hv)⟩
 obtain⟨a1,a2⟩:=yy;refine⟨rfl,λd hd=>?_⟩;rcases Qm.mp hd with rfl|hd
 .omega
 .have:=Q6.mp hd;omega
theorem j7n(qz:∀ c,(oW C q c).length<=60)(qA:∀ c,(oB z C q c).length<=60):∃ c,Lp n f (jr f z C.W (q,q)) c/\zX [aT n f,cY n C,iD q]=some (.lst [.lst ((dZ ((oW C q c).map (kW n))).map cW),.lst ((dZ ((oB z C q c).map kg)).map cW)],1):=by
 have hn:n<=1000:=Qw L.hi (by decide);have pJ:=hC.tW;have pK:=hC.xy;have hl:∀ w∈C.W,∀ i,i<n->w.2.2 i<n:=λw hw=>(hC.ws w hw).2.2.1;have hJ:∀ i,i<n->jr f z C.W (q,q) i<n:=λi hi=>qx L hz bz hl (q,q) hi;obtain⟨a,b,c,h1⟩:=j0p L hz bz hC (q:=q);obtain⟨l,x,hll,PC,h2⟩:=z5n L hz bz hC (q:=q) hJ (j2m L hz bz hC q) a b c;have dz:∀ i,i<n->gv l i<n:=λi hi=>(PC i hi).1;have h7:(eN C q).length<=60:=by unfold eN;rw[Qb];exact Qw (Q0 _ _) pJ
 obtain⟨a',b',c',k,x',y',u',h3⟩:=j48 L hz bz hC (q:=q) (J:=jr f z C.W (q,q)) hll dz (qz _) (qA _) h7 x a b c;refine⟨gv l,PC,?_⟩;generalize jr f z C.W (q,q)=J at *
 have g9:=e_ (k:=1) (pt:=av 15) (tt:=bg (e2 qZ (aa 2) (qd (aa 15) rA (qc (ai 2))))) (te:=aa 15) (deep:=false) (it:=b8 (aw 1 (ai 1))) (ρ:=(dI n f C q (some (dS n J,1)) a b c ((uL l)) x)) (kU (q:=9) (ds:=C.W.map (ba n)) rfl (by rw[Qb];omega))
  (ku (k:=1) (ba n) (λw=>[some (ba n w,9)]) (λw=>!decide (q ∈ [w.1,w.2.1])) (ba n) (λ_=>9) C.W (λw hw=>⟨rfl,eH (cI (q:=9) rfl rfl (Pe q w.1 w.2.1)),λ_=>rfl⟩))
 have c10:=e_ (k:=1) (pt:=av 15) (tt:=bg (e2 cH (aw 15 (ai 0)) (aa 2))) (te:=aa 15) (deep:=false) (it:=b8 (aw 1 (ai 2))) (ρ:=(dI n f C q (some (dS n J,1)) a b c ((uL l)) x (some (.lst ((C.W.filter λw=>!decide (q ∈ [w.1,w.2.1])).map (ba n)),1)))) (kU (q:=9) (ds:=C.B.map cA) rfl (by rw[Qb];omega))
  (ku (k:=1) cA (λb=>[some (cA b,9)]) (λb=>!decide (b.1=q)) cA (λ_=>9) C.B (λb hb=>⟨rfl,eH (cI (q:=9) (q':=9) rfl rfl (jE _ _)),λ_=>rfl⟩))
 have AI:=e_ (k:=2) (pt:=f9 (bH (av 15) (bH (av 16) fC))) (tt:=bg (e2 dG (aa 15) (aa 2))) (te:=aa 16) (deep:=false) (it:=b8 (aw 1 (ai 2))) (ρ:=(dI n f C q (some (dS n J,1)) a b c ((uL l)) x (some (.lst ((C.W.filter λw=>!decide (q ∈ [w.1,w.2.1])).map (ba n)),1)) (some (.lst ((C.B.filter λb=>!decide (b.1=q)).map cA),1)))) (kU (q:=9) (ds:=C.B.map cA) rfl (by rw[Qb];omega))
  (ku (k:=2) cA (λb=>[i9 b.1,i9 b.2]) (λb=>decide (b.1=q)) (λb=>(iD b.2)) (λ_=>9) C.B (λb hb=>⟨rfl,eH (cI (q:=9) (q':=9) rfl rfl (pq _ _)),λ_=>rfl⟩))
 rw[show((C.B.filter λb=>decide (b.1=q)).map λb=>(iD b.2))=aq (gB C.B q)by unfold gB aq;rw[QO];rfl]at AI;have Pm:(gB C.B q).length<=60:=by unfold gB;rw[Qb];exact Qw (Q0 _ _) pK
 have c11:=Pd (ρ:=(dI n f C q (some (dS n J,1)) a b c ((uL l)) x (some (.lst ((C.W.filter λw=>!decide (q ∈ [w.1,w.2.1])).map (ba n)),1)) (some (.lst ((C.B.filter λb=>!decide (b.1=q)).map cA),1)))) (a:=[iD z]) (fa:=cR (aE (aG nF 1 (aE (aa 0))))) (q:=1) (tU (bS (bp (ds:=[aT n f]) rfl rfl (CJ L hz bz hn))) (by show 1<=1000;decide)) AI (by rw[fP];show 1+_<=1000;omega);have r9:=Pq (Py L hz bz hC dz (qz _)) (g:=aa 9) (ρ:=(dI n f C q (some (dS n J,1)) a' b' c' ((uL l)) x (some (.lst ((oW C q (gv l)).map (ba n)),1)) (some (.lst ((oB z C q (gv l)).map cA),1)) (some (.lst (aq (fR z C q)),k)) x' y' u')) (q:=0) (by rw[<- Pr];exact mK rfl) (Q1 _);have rp:=Pq (Pz L hz bz hC dz (qA _)) (g:=aa 10) (ρ:=(dI n f C q (some (dS n J,1)) a' b' c' ((uL l)) x (some (.lst ((oW C q (gv l)).map (ba n)),0)) (some (.lst ((oB z C q (gv l)).map cA),1)) (some (.lst (aq (fR z C q)),k)) x' y' u')) (q:=0) (by rw[<- Pt];exact mK rfl) (Q1 _);unfold zX NW;refine dh ?_;show aF _ _ (dI n f C q)=_;have c3:nX (cR (aE (aG nF 1 (aE (aa 0))))) (cj 0) (dI n f C q)=some (dS n (λ_=>z),1,(dI n f C q)):=by
  have h1:cR (aE (aG nF 1 (aE (aa 0)))) (dI n f C q)=some (.lst [iD z],1,(dI n f C q)):=tU (bS (bp (ds:=[aT n f]) rfl rfl (CJ L hz bz hn))) (by show 1<=1000;decide);have h2:cj 0 (dI n f C q)=some ((iD n),9,(dI n f C q)):=xx rfl iN;have e:(replicate n [iD z]).flatten=aq ((range n).map λ_=>z):=by simp[aq,ZD,YU]
  unfold nX;rw[h1];simp only[h2];rw[Qh ⟨by show(-1000:Int)<=(n:Int);omega,by show(n:Int)<=1000;omega,by show 1*(Int.ofNat n).toNat<=1000;rw[Nat.one_mul];exact hn⟩];show some (D.lst (replicate n [iD z]).flatten,1,_)=_;rw[e]
 refine(aR (dw c3 rfl)).trans ?_;refine(aR ((iF (kU (q:=9) rfl (by rw[Qb];omega))).trans h1)).trans ?_;refine(aR (ac:=(dI n f C q (some (dS n J,1)) a b c (some (.lst [],1)))) rfl).trans ?_;refine(aR ((iF (kr hn (i:=0) rfl iN)).trans h2)).trans ?_;refine(aR (dw g9 rfl)).trans ?_;refine(aR (dw c10 rfl)).trans ?_;refine(aR (dw c11 rfl)).trans ?_;refine(aR ((iF (kU (q:=9) rfl (by rw[Qb];omega))).trans h3)).trans ?_;exact fg (tU (b7 r9 (bS rp)) (by show 2<=1000;decide))
end
theorem G9{α β:Type}{g h:α->List β}:∀ {l:List α},(∀ x∈l,g x=h x)->l.flatMap g=l.flatMap h
 | [],_=>rfl
 | x::l,e=>by rw[Yu,Yu,e x Qg,G9 λy m=>e y (Qf _ m)]
theorem PF{α:Type}{p r:α->Bool}(h:∀ x,p x=true->r x=false):∀ l:List α,(l.filter p).length+(l.filter r).length<=l.length
 | []=>Qj _
 | x::l=>by
  have i:=PF h l;cases hp:p x with
  | true=>
   rw[QV hp,QZ (by rw[h x hp];exact Zd),QB,QB];omega
  | false=>
   rw[QZ (by rw[hp];exact Zd),QB];have:(List.filter r (x::l)).length<=(l.filter r).length+1:=by
    cases hr:r x with
    | true=>rw[QV hr];exact Qj _
    | false=>rw[QZ (by rw[hr];exact Zd)];exact JP _
   omega
theorem PH{C:cK}(h1:C.W.length<=10)(h2:C.B.length<=3)(z q:Nat)(c:Nat->Nat):(oW C q c).length<=60/\(oB z C q c).length<=60:=by
 have d:=PF (p:=λw:Wy=>decide (w.1=q) && !decide (w.2.1=q)) (r:=λw=>decide (w.2.1=q) && !decide (w.1=q)) (λw hw=>by rw[Zo]at hw;rw[hw.1];exact Jd _) C.W
 have g1:(dk C q c).length=(C.W.filter λw:Wy=>decide (w.1=q) && !decide (w.2.1=q)).length:=by unfold dk;rw[Qb]
 have m1:(eN C q).length=(C.W.filter λw:Wy=>decide (w.2.1=q) && !decide (w.1=q)).length:=by unfold eN;rw[Qb]
 rw[<- g1,<- m1]at d;have l5:(fR z C q).length<=4:=by unfold fR gB;rw[QB,Qb];have:=Q0 (λb=>decide (b.1=q)) C.B;omega
 constructor
 .have e:(eN C q).length*(dk C q c).length<=50:=by
   by_cases h:(eN C q).length<=5
   .exact Qw (Uc h (show(dk C q c).length<=10 by omega)) (by decide)
   .exact Qw (Uc (show(eN C q).length<=10 by omega) (show(dk C q c).length<=5 by omega)) (by decide)
  unfold oW;rw[Qk];exact Qw (Nat.add_le_add (Q0 _ _) (G6 (c:=(eN C q).length) λx _=>by rw[Qb];exact Qj _)) (by omega)
 .unfold oB;rw[Qk];exact Qw (Nat.add_le_add (Q0 _ _) (G6 (c:=4) λx _=>by rw[Qb];exact l5)) (by omega)
theorem PJ(p:Nat)(i:Int):vx [iD p,.int i]=if gZ p (.int i)=true then none else some ("NoPlace":Str):=by have e:=Aq p (.int i);have t:=An (oo (bp (F:=jt) (n:=2) (g:=bF (aa 1) (aa 0)) (ρ:=[i9 p,some (.int i,9)]) (ds:=[.int i,iD p]) rfl rfl e));unfold vx fnX Nj;show yS _ _ _ [i9 p,some (.int i,9)]=_;unfold yS;rw[t];cases gZ p (.int i)<;>rfl
theorem j9e:CB [.exc "NoPlace"]=some (.str "no place",9):=by rfl
theorem j7u:cH (.str "no place") (.str "no place")=some (.bl false):=by have s:Sh 0 (.str ("no place":Str)):=⟨by decide +kernel,Q1 _⟩;unfold cH;rw[Qh ⟨s.ok,s.ok⟩];simp[pZ,b6,PyData.eqv]
theorem j84{α:Type}(l:List α):l.filter (λ_=>false)=[]:=VM.mpr (λ_ _ h=>nomatch h)
theorem PK:cH (.lst []) (.lst [])=some (.bl false):=(k1k [] []).trans rfl
theorem k22(v a b:Nat):sO (iD v) (.tup (aq [a,b]))=some (.bl (decide (v ∈ [a,b]))):=by unfold sO;rw[Qh ⟨(Sh.int (k:=0) _).ok,(Sh.tup (k:=0) (CM (.int _) (.int _))).ok⟩,show inD (iD v) (.tup (aq [a,b]))=inD (iD v) (.lst (aq [a,b]))from rfl,OM];rfl
theorem j9n(v:Nat):iX (.int 50) (iD v)=some (.int (50*Int.ofNat v)):=by simp[-ofNat_eq_natCast]
section
variable {n:Nat}{f:Nat->Nat->Nat}(L:bq n f){z:Nat}(hz:z<n)(bz:∀ j,j<n->f z j=j){C:cK}(hC:C.Ok n f){q:Nat}
theorem j01{i:Int}(h:gZ C.p (.int i)=false):tR [aT n f,cY n C,.int i]=some (.str "no place",9):=by
 have x:pG [aT n f,cY n C,.int i]=some "NoPlace":=by unfold pG fnX Gh;show vx [iD C.p,.int i]=_;rw[PJ,h];rfl
 unfold tR Gi;refine dh ?_;show aF _ _ [t9 n f,c9 n C,some (.int (i),9),none,none,none]=_;refine(aR (ac:=[t9 n f,c9 n C,some (.int (i),9),some (.bc,9),none,none]) rfl).trans ?_;refine(aR (ac:=[t9 n f,c9 n C,some (.int (i),9),some (.bc,9),some (.bc,9),none]) rfl).trans ?_;have y:yU pG 3 (bB (aa 0) (aa 1) (aa 2)) [t9 n f,c9 n C,some (.int (i),9),some (.bc,9),some (.bc,9),none]=some (("NoPlace":Str),[t9 n f,c9 n C,some (.int (i),9),some (.bc,9),some (.bc,9),none]):=by show(pG [aT n f,cY n C,.int i]).map _=_;rw[x];rfl
 refine(aR (ac:=[t9 n f,c9 n C,some (.int (i),9),some (.exc "NoPlace",9),some (.bc,9),none]) (by unfold yV;rw[y];exact Qh (Q6.mpr rfl))).trans ?_
 refine(aR (ac:=[t9 n f,c9 n C,some (.int (i),9),some (.exc "NoPlace",9),some (.bc,9),none]) rfl).trans ?_;exact fg (bp (ds:=[.exc "NoPlace"]) rfl rfl j9e)
theorem z5f(hq:q<C.p){E:cK}(h:xk [aT n f,cY n C,iD q]=(c9 n E)):tR [aT n f,cY n C,iD q]=(c9 n E):=by
 have x:pG [aT n f,cY n C,iD q]=none:=by unfold pG fnX Gh;show vx [iD C.p,iD q]=_;rw[PJ,Pf hq];rfl
 unfold tR Gi;refine dh ?_;show aF _ _ [t9 n f,c9 n C,some (.int ((Int.ofNat q)),9),none,none,none]=_;refine(aR (ac:=[t9 n f,c9 n C,some (.int ((Int.ofNat q)),9),some (.bc,9),none,none]) rfl).trans ?_;refine(aR (ac:=[t9 n f,c9 n C,some (.int ((Int.ofNat q)),9),some (.bc,9),some (.bc,9),none]) rfl).trans ?_;have y:yU pG 3 (bB (aa 0) (aa 1) (aa 2)) [t9 n f,c9 n C,some (.int ((Int.ofNat q)),9),some (.bc,9),some (.bc,9),none]=none:=by show(pG [aT n f,cY n C,iD q]).map _=_;rw[x];rfl
 refine(aR (ac:=[t9 n f,c9 n C,some (.int ((Int.ofNat q)),9),some (.bc,9),((c9 n E)),none]) (by unfold yV;rw[y];exact dw (bp (ds:=[aT n f,cY n C,iD q]) rfl rfl h) rfl)).trans ?_
 exact qg (d:=cY n E) (q:=9) rfl
include L hz bz
theorem j56(h:Lp n f J c)(h':Lp n f J c')(hy:y<n):c y=c' y:=by obtain⟨a1,a2,a3,a4⟩:=h y hy;obtain⟨b1,b2,b3,b4⟩:=h' y hy;have p:=a4 _ b1 b2 b3;have r:=b4 _ a1 a2 a3;rw[L.comm _ _ b1 a1,p]at r;exact r.symm
include hC
theorem j4r(e:∀ y,y<n->c y=c' y):(oW C q c).map (kW n)=(oW C q c').map (kW n):=by
 unfold oW dk;rw[vO,vO,Q4,Q4,List.map_flatMap,List.map_flatMap];refine Zy _ (G9 λw hw=>?_);by_cases h:(decide (w.1=q) && !decide (w.2.1=q))=true
 .rw[Qh h,Qh h,QO,QO];refine Zb λa ha=>?_;obtain⟨k1,_⟩:=vI.mp ha;have a3:=(hC.ws _ k1).2.2.1;show([.inl a.1,.inl w.2.1,.inr ((range n).map λi=>w.2.2 (c (a.2 i)))]:Ky)=[.inl a.1,.inl w.2.1,.inr ((range n).map λi=>w.2.2 (c' (a.2 i)))];rw[Zb (g:=λi=>w.2.2 (c' (a.2 i))) λi hi=>by rw[e _ (a3 i (QA.mp hi))]]
 .rw[Ql h,Ql h]
theorem j3p(e:∀ y,y<n->c y=c' y):oB z C q c=oB z C q c':=by
 unfold oB dk;rw[vO,vO];refine Zy _ (G9 λw hw=>?_);by_cases h:(decide (w.1=q) && !decide (w.2.1=q))=true
 .rw[Qh h,Qh h];refine Zb λv hv=>?_;have oV:v<n:=by
   rcases AA.mp hv with rfl|h
   .exact hz
   .exact(hC.bs _ h).2
  show(w.2.1,w.2.2 (c v))=(w.2.1,w.2.2 (c' v));rw[e v oV]
 .rw[Ql h,Ql h]
theorem y6m(ns:List Int)(t:Int)(h0:0<=t)(b:Bool)(hq:q<C.p)(h7:C.W.length<=7):∃ C':cK,C'.Ok n f/\C'.p=C.p/\C'.W.length<=10/\C'.B=C.B/\xo [bY ns,.int t,aT n f,cY n C,iD q,.bl b]=(c9 n C'):=by
 have hp1:=hC.p1;have cm:∀ (F:List D->OD) (r:Nat->Nat->Nat) (x:OD),(∀ k,k<3->F [bY ns,.int (t+50*Int.ofNat k),aT n f]=(r9 n (r k)))->cQ 1 (cP (aE (ai 3))) (av 10) cN (aG F 3 (bB (aa 0) (e2 cC (aa 1) (e2 iX (ai 50) (aa 10))) (aa 2))) false [n0 ns,some (.int t,9),t9 n f,c9 n C,i9 q,b9 b,x,none,none,none]=some (.lst [aU n (r 0),aU n (r 1),aU n (r 2)],1,[n0 ns,some (.int t,9),t9 n f,c9 n C,i9 q,b9 b,x,none,none,none]):=λF r x hF=>
  e_ (ac:=[n0 ns,some (.int t,9),t9 n f,c9 n C,i9 q,b9 b,x,none,none,none]) (xA (m:=3) (by decide) (q:=9) rfl) (ku (k:=1) (λv:Nat=>(iD v)) (λv=>[i9 v]) (λ_=>true) (λv=>aU n (r v)) (λ_=>9) (range 3) (λv hv=>by have oV:=QA.mp hv;refine⟨rfl,rfl,λ_=>?_⟩;refine bp (ds:=[bY ns,.int (t+50*Int.ofNat v),aT n f]) (b7 (q:=0) rfl (b7 (cI (q:=9) rfl (cI (q:=9) (q':=9) (d:=.int (50*Int.ofNat v)) rfl rfl ?_) rfl) (bS (q:=9) rfl))) rfl (hF v oV);exact j9n v))
 have ru:∀ k,k<3->∃ r:Nat->Nat,(∀ i,i<n->r i<n)/\(∀ x y,x<n->y<n->f x y=y->f (r x) (r y)=r y)/\pF [bY ns,.int (t+50*Int.ofNat k),aT n f]=(r9 n r):=λk _=>by obtain⟨d,hd,e⟩:=GH L hz bz ns (t+50*Int.ofNat k) (by have:Int.ofNat k=(k:Int):=rfl;omega);exact⟨_,λi _=>L.mE hz bz hd i,λx y hx hy e=>L.ki hz bz hd hx hy e,e⟩
 have su:∀ k,k<3->∃ r:Nat->Nat,(∀ i,i<n->r i<n)/\(∀ x y,x<n->y<n->f x y=y->f (r x) (r y)=r y)/\qo [bY ns,.int (t+50*Int.ofNat k),aT n f]=(r9 n r):=λk _=>by obtain⟨r,hr,hs,e⟩:=OT L hz bz ns (t+50*Int.ofNat k) (by have:Int.ofNat k=(k:Int):=rfl;omega);exact⟨r,hr,λx y hx hy e=>O9 L hz bz hs hx hy e,e⟩
 obtain⟨r,hr⟩:=GU ru;obtain⟨s,hs⟩:=GU su;obtain⟨a,ha,ea⟩:=kT ns (show(0:Int)<=t+150 by omega) (show 0<C.p by omega);obtain⟨g,hg,eg⟩:=kT ns (show(0:Int)<=t+151 by omega) (show 0<C.p by omega);have fin:∀ (r:Nat->Nat->Nat) (hr:∀ k,k<3->(∀ i,i<n->r k i<n)/\(∀ x y,x<n->y<n->f x y=y->f (r k x) (r k y)=r k y)) {rest:aK},∃ C':cK,C'.Ok n f/\C'.p=C.p/\C'.W.length<=10/\C'.B=C.B/\(aF (yX 7 8 (bF (aG dB 3 (bB (aa 0) (e2 cC (aa 1) (ai 150)) (aw 3 (ai 0)))) (aG dB 3 (bB (aa 0) (e2 cC (aa 1) (ai 151)) (aw 3 (ai 0))))))
   (aF (bA 9 (dF (bB (dF (bB (aa 7) (aa 4) (aw 6 (ai 0)))) (dF (bB (aa 4) (aa 4) (aw 6 (ai 1)))) (dF (bB (aa 4) (aa 8) (aw 6 (ai 2)))))))
   (bu (dF (bB (aw 3 (ai 0)) (uW (aw 3 (ai 1)) (aa 9)) (aw 3 (ai 2))))))) [(n0 ns),some (.int t,9),(t9 n f),(c9 n C),(i9 q),(b9 b),(some (.lst [aU n (r 0),aU n (r 1),aU n (r 2)],1)),none,none,none]=some (.rt (cY n C') 9):=λr hr _=>by
  refine⟨⟨C.p,C.W++[(a,q,r 0),(q,q,r 1),(q,g,r 2)],C.B⟩,⟨hC.p1,hC.p8,by show(C.W++_).length<=60;rw[Qk];show C.W.length+3<=60;omega,hC.xy,λw hw=>?_,hC.bs⟩,rfl,by show(C.W++_).length<=10;rw[Qk];show C.W.length+3<=10;omega,rfl,?_⟩
  .rcases Q9.mp hw with h|h
   .exact hC.ws w h
   .have h0:=hr 0 (by decide);have h1:=hr 1 (by decide);have h2:=hr 2 (by decide);rcases Qm.mp h with rfl|h
    .exact⟨ha,hq,h0.1,h0.2⟩
    rcases Qm.mp h with rfl|h
    .exact⟨hq,hq,h1.1,h1.2⟩
    rcases Qm.mp h with rfl|h
    .exact⟨hq,hg,h2.1,h2.2⟩
    .cases h
  .have CG:bF (aG dB 3 (bB (aa 0) (e2 cC (aa 1) (ai 150)) (aw 3 (ai 0)))) (aG dB 3 (bB (aa 0) (e2 cC (aa 1) (ai 151)) (aw 3 (ai 0)))) [n0 ns,some (.int t,9),t9 n f,c9 n C,i9 q,b9 b,some (.lst [aU n (r 0),aU n (r 1),aU n (r 2)],1),none,none,none]=some ([iD a,iD g],[n0 ns,some (.int t,9),t9 n f,c9 n C,i9 q,b9 b,some (.lst [aU n (r 0),aU n (r 1),aU n (r 2)],1),none,none,none]):=
    b7 (bp (ds:=[bY ns,.int (t+150),iD C.p]) rfl rfl ea) (bS (bp (ds:=[bY ns,.int (t+151),iD C.p]) rfl rfl eg))
   refine(aR (ac:=[n0 ns,some (.int t,9),t9 n f,c9 n C,i9 q,b9 b,some (.lst [aU n (r 0),aU n (r 1),aU n (r 2)],1),((i9 a)),((i9 g)),none]) (by unfold yX;rw[CG];rfl)).trans ?_;refine(aR (ac:=[n0 ns,some (.int t,9),t9 n f,c9 n C,i9 q,b9 b,some (.lst [aU n (r 0),aU n (r 1),aU n (r 2)],1),((i9 a)),((i9 g)),some (.tup [ba n (a,q,r 0),ba n (q,q,r 1),ba n (q,g,r 2)],9)]) rfl).trans ?_;have G_:uW (aw 3 (ai 1)) (aa 9) [n0 ns,some (.int t,9),t9 n f,c9 n C,i9 q,b9 b,some (.lst [aU n (r 0),aU n (r 1),aU n (r 2)],1),((i9 a)),((i9 g)),some (.tup [ba n (a,q,r 0),ba n (q,q,r 1),ba n (q,g,r 2)],9)]=some (.tup ((C.W++[(a,q,r 0),(q,q,r 1),(q,g,r 2)]).map (ba n)),9,[n0 ns,some (.int t,9),t9 n f,c9 n C,i9 q,b9 b,some (.lst [aU n (r 0),aU n (r 1),aU n (r 2)],1),((i9 a)),((i9 g)),some (.tup [ba n (a,q,r 0),ba n (q,q,r 1),ba n (q,g,r 2)],9)]):=by rw[Q4];show(if(C.W.map (ba n)).length+3<=1000 then some (D.tup (C.W.map (ba n)++[ba n (a,q,r 0),ba n (q,q,r 1),ba n (q,g,r 2)]),9,_)else none)=_;exact Qh (by rw[Qb];omega)
   exact fg (vH (b7 (q:=9) rfl (b7 G_ (bS (q:=9) rfl))) (by show 3<=1000;decide))
 have hR:=cm pF r none λk hk=>(hr k hk).2.2;have hS:=cm qo s (some (.lst [aU n (r 0),aU n (r 1),aU n (r 2)],1)) λk hk=>(hs k hk).2.2;have go:xo [bY ns,.int t,aT n f,cY n C,iD q,.bl b]=bX 10 CD [bY ns,.int t,aT n f,cY n C,iD q,.bl b]:=rfl;cases b with
 | false=>
  obtain⟨C',k1,k2,k3,k4,e⟩:=fin r (λk hk=>⟨(hr k hk).1,(hr k hk).2.1⟩) (rest:=cU);refine⟨C',k1,k2,k3,k4,go.trans (dh ?_)⟩;unfold CD;exact(aR (dw hR rfl)).trans ((aR ((iu (oo (f:=aa 5) (b:=false) (q:=9) rfl)).trans rfl)).trans e)
 | true=>
  obtain⟨C',k1,k2,k3,k4,e⟩:=fin s (λk hk=>⟨(hs k hk).1,(hs k hk).2.1⟩) (rest:=cU);refine⟨C',k1,k2,k3,k4,go.trans (dh ?_)⟩;unfold CD;exact(aR (dw hR rfl)).trans ((aR ((nu (oo (f:=aa 5) (b:=true) (q:=9) rfl)).trans (dw hS rfl))).trans e)
end
abbrev bI (b:Bool):Int:=if b=true then 1 else 0
theorem k0s(b:Bool):0<=bI b:=by cases b<;>decide
theorem PL(i:Int)(b:Bool):iX (.int i) (.int (bI b))=some (.int (i*bI b)):=by cases b<;>simp[bI]
theorem z8h(n:Nat)(l:List Wy):dG (.lst (l.map (ba n))) (.lst [])=some (.bl (decide (l=[]))):=by
 cases l with
 | nil=>exact(Mq [] []).trans rfl
 | cons w l=>
  have s:Sh 3 (.lst ((w::l).map (ba n))):=.lst λd hd=>by obtain⟨x,_,rfl⟩:=Qo.mp hd;exact .tup (k2s (.int _) (.int _) ⟨(MI _ _).1,(MI _ _).2⟩)
  unfold dG;rw[Qh ⟨s.ok,(Sh.lst (k:=0) (ds:=[]) λ_ h=>nomatch h).ok⟩];rfl
theorem j60{a b:aN}{k:Nat}{i:Int}(ha:a ρ=some (.lst ds,1,ρ))(hb:b ρ=some ((iD k),9,ρ))(h:dJ (.lst ds) (Int.ofNat k)=some (.int i)):cZ a b ρ=some (.int i,9,ρ):=by unfold cZ;rw[ha];simp only[hb,h];rfl
abbrev vQ (ns:List Int)(n:Nat)(f:Nat->Nat->Nat)(b:Bool)(c p l d o w a x:OD:=none):a_:=[n0 ns,t9 n f,b9 b,c,p,l,d,o,w,a,x]
abbrev qB (ns:List Int)(n:Nat)(f:Nat->Nat->Nat)(b:Bool)(C E:cK)(q:Nat)(d o w a x:OD:=none):a_:=vQ ns n f b ((c9 n C)) ((i9 q)) ((c9 n E)) d o w a x
abbrev pL (ns:List Int)(n:Nat)(f:Nat->Nat->Nat)(b:Bool)(C E:cK)(q:Nat)(d:OD)(u v:List Nat)(a x:OD:=none):a_:=qB ns n f b C E q d ((v9 u)) ((v9 v)) a x
section
variable {n:Nat}{f:Nat->Nat->Nat}(L:bq n f){z:Nat}(hz:z<n)(bz:∀ j,j<n->f z j=j)
include L hz bz
theorem j2q(ns:List Int)(b:Bool):∃ (C0 C:cK) (q v:Nat),C.Ok n f/\q<C.p/\C.W.length<=10/\C.B.length<=3/\rQ [bY ns,.int (20+180*bI b),aT n f,.bl b]=(c9 n C0)/\dB [bY ns,.int (400+bI b),iD C0.p]=(i9 q)/\dB [bY ns,.int (410+bI b),iD 4]=(i9 v)/\(0<v/\xo [bY ns,.int (500+200*bI b),aT n f,cY n C0,iD q,.bl b]=(c9 n C)\/v=0/\C=C0):=by
 have hb:=k0s b;have ch:∃ C:cK,C.Ok n f/\C.p<=5/\C.W.length<=7/\C.B.length<=3/\rQ [bY ns,.int (20+180*bI b),aT n f,.bl b]=(c9 n C):=by
  cases b with
  | false=>exact y88 L hz bz ns 20 (by decide)
  | true=>
   obtain⟨C,h1,_,h2⟩:=y6r L hz bz ns 200 (by decide);exact⟨C,h1,h2⟩
 obtain⟨C,hC,h5,h7,h3,e3⟩:=ch;have hp1:=hC.p1;obtain⟨q,hq,e4⟩:=kT ns (show(0:Int)<=400+bI b by omega) (show 0<C.p by omega);obtain⟨v,hv,e5⟩:=kT ns (show(0:Int)<=410+bI b by omega) (show 0<4 by decide);by_cases hv0:v=0
 .exact⟨C,C,q,v,hC,hq,by omega,h3,e3,e4,e5,.inr ⟨hv0,rfl⟩⟩
 .obtain⟨C',k1,k2,k3,k4,e6⟩:=y6m L hz bz hC ns (500+200*bI b) (by omega) b hq h7;exact⟨C,C',q,v,k1,by rw[k2];exact hq,k3,by rw[k4];exact h3,e3,e4,e5,.inl ⟨by omega,e6⟩⟩
theorem j6e(ns:List Int)(b:Bool)(x3 x4 x5 x6 x7 x8 x9 fE:OD):∃ y3 y4 y5 y6 y7 y8 y9 PM,Gw (vQ ns n f b x3 x4 x5 x6 x7 x8 x9 fE)=some (.nx (vQ ns n f b y3 y4 y5 y6 y7 y8 y9 PM)):=by
 have hn:n<=1000:=Qw L.hi (by decide);obtain⟨C0,C,q,v,hC,hq,PN,h3,d3,d4,d5,d6⟩:=j2q L hz bz ns b;have tW:=hC.tW;have tY:=hC.p8;have fW:∀ c,(oW C q c).length<=60:=λc=>(PH PN h3 z q c).1;have fB:∀ c,(oB z C q c).length<=60:=λc=>(PH PN h3 z q c).2;obtain⟨c,E,hc,ep,w1,w2,b1,b2,l1,l2,ew⟩:=y2z L hz bz hC hq fW fB;obtain⟨c',kH,ed⟩:=j7n L hz bz hC (q:=q) fW fB;have cc:∀ y,y<n->c' y=c y:=λy hy=>j56 L hz bz kH hc hy;rw[j4r L hz bz hC cc,j3p L hz bz hC cc]at ed;have O:vL n z C q c E:=j3e ep w1 w2 b1 b2;have hE:E.Ok n f:=j9c L hz bz hC hq hc O l1 l2;obtain⟨u,lu,eu⟩:=O4 L hz bz hC;obtain⟨u',lE,eE⟩:=O4 L hz bz hE;rw[ep]at lE;obtain⟨le,eq⟩:=j2x L hz bz hC hq hc O lu lE;have tV:=Py L hz bz hC (λi hi=>(hc i hi).1) (fW c);have vD:=Pz L hz bz hC (λi hi=>(hc i hi).1) (fB c);have r1:=Pp (ks:=E.W.map (kW n)) (by rw[w2];exact G7 tV) (g:=aw 5 (ai 1)) (ρ:=(qB ns n f b C E q (some (.lst [.lst ((dZ ((oW C q c).map (kW n))).map cW),.lst ((dZ ((oB z C q c).map kg)).map cW)],1)) x7 x8 x9 fE)) (q:=9) (by rw[<- Pr];rfl);have r2:=Pp (ks:=E.B.map kg) (by rw[b2];exact G7 vD) (g:=aw 5 (ai 2)) (ρ:=(qB ns n f b C E q (some (.lst [.lst ((dZ ((oW C q c).map (kW n))).map cW),.lst ((dZ ((oB z C q c).map kg)).map cW)],1)) x7 x8 x9 fE)) (q:=9) (by rw[<- Pt];rfl);rw[w2,Po tV]at r1;rw[b2,Po vD]at r2;have wl:=E.W.length;have c1:=e_ (k:=1) (pt:=av 11) (tt:=bg (e2 sO (aa 4) (qd (aa 11) rA (qc (ai 2))))) (te:=aa 11) (deep:=false) (it:=b8 (aw 5 (ai 1))) (ρ:=(qB ns n f b C E q x6 x7 x8 x9 fE))
  (kU (q:=9) (ds:=E.W.map (ba n)) rfl (by rw[Qb];omega)) (ku (k:=1) (ba n) (λw=>[some (ba n w,9)]) (λ_=>false) (ba n) (λ_=>9) E.W (λw hw=>by
   refine⟨rfl,?_,λh=>nomatch h⟩;have hf:=k22 q w.1 w.2.1;have eJ:w.1≠q/\w.2.1≠q:=by
    rcases vJ.mp (w1 w hw)with⟨_,a,b⟩|⟨a,r,_,k1,_,k2,e1,_⟩
    .exact⟨a,b⟩
    .exact⟨by rw[e1];exact k1,k2⟩
   rw[QF λh=>by
    rcases Qm.mp h with h|h
    .exact eJ.1 h.symm
    .exact eJ.2 (Q6.mp h).symm]at hf
   exact eH (cI (q:=9) rfl rfl hf)))
 have c2:=e_ (k:=1) (pt:=av 11) (tt:=bg (e2 dG (aw 11 (ai 0)) (aa 4))) (te:=aa 11) (deep:=false) (it:=b8 (aw 5 (ai 2))) (ρ:=(qB ns n f b C E q x6 x7 x8 x9 fE))
  (kU (q:=9) (ds:=E.B.map cA) rfl (by rw[Qb];omega)) (ku (k:=1) cA (λw=>[some (cA w,9)]) (λ_=>false) cA (λ_=>9) E.B (λw hw=>by
   refine⟨rfl,?_,λh=>nomatch h⟩;have hf:=pq w.1 q;have eJ:w.1≠q:=by
    rcases vK.mp (b1 w hw)with⟨_,a⟩|⟨_,_,_,k,_⟩
    .exact a
    .exact k
   rw[QF eJ]at hf;exact eH (cI (q:=9) (q':=9) rfl rfl hf)))
 rw[j84]at c1 c2;obtain⟨al,PR⟩:∃ al:Bool,al=decide ((C.W.filter λw=>!gC n f w.2.2)=[]):=⟨_,rfl⟩;have sp:al=true->∀ w∈C.W,gC n f w.2.2=true:=λh w hw=>by
  rw[PR]at h;have:=VM.mp (Q5 h) w hw;cases hs:gC n f w.2.2 with
  | true=>rfl
  | false=>rw[hs]at this;exact absurd rfl this
 obtain⟨nI,hx6⟩:∃ x:OD,x=some (.lst [.lst ((dZ ((oW C q c).map (kW n))).map cW),.lst ((dZ ((oB z C q c).map kg)).map cW)],0):=⟨_,rfl⟩;have g9:=e_ (k:=1) (pt:=av 11) (tt:=fL (eL (aG tN 2 (bF (aa 1) (aw 11 (ai 2)))))) (te:=aa 11) (deep:=false) (it:=b8 (aw 3 (ai 1))) (ρ:=(pL ns n f b C E q nI u u' x9 fE))
  (kU (q:=9) (ds:=C.W.map (ba n)) rfl (by rw[Qb];omega)) (ku (k:=1) (ba n) (λw=>[some (ba n w,9)]) (λw=>!gC n f w.2.2) (ba n) (λ_=>9) C.W (λw hw=>⟨rfl,An (oo (bp (ds:=[aT n f,aU n w.2.2]) rfl rfl (OR L (hC.ws w hw).2.2.1))),λ_=>rfl⟩))
 have s9:=cI (fb:=cR gJ) (q':=1) (y:=.lst []) g9 rfl (z8h n _);rw[<- PR]at s9;have lp:∃ x,fY (av 10) Gv (cM C.p) (pL ns n f b C E q nI u u' ((b9 al)) fE)=some (.nx (pL ns n f b C E q nI u u' ((b9 al)) x)):=by
  obtain⟨am,e,x,rfl⟩:=kh (pt:=av 10) (body:=Gv) (cM C.p) (λ_ ρ=>∃ x,ρ=(pL ns n f b C E q nI u u' ((b9 al)) x)) (pL ns n f b C E q nI u u' ((b9 al)) fE) (λi hi ρ aj=>by
   obtain⟨x,rfl⟩:=aj;have bW:i<C.p:=by rw[fM]at hi;exact hi
   refine⟨pL ns n f b C E q nI u u' ((b9 al)) ((i9 i)),pL ns n f b C E q nI u u' ((b9 al)) ((i9 i)),by rw[rS];rfl,.inl ?_,_,rfl⟩;have g1:aw 8 (aa 10) (pL ns n f b C E q nI u u' ((b9 al)) ((i9 i)))=some ((iD (gv u' i)),9,_):=oq (q:=9) rfl rfl (Cv (by rw[lE.V.len];exact bW)) rfl;have g2:aw 7 (aa 10) (pL ns n f b C E q nI u u' ((b9 al)) ((i9 i)))=some ((iD (gv u i)),9,_):=oq (q:=9) rfl rfl (Cv (by rw[lu.V.len];exact bW)) rfl;have t0:=eH (cI (fa:=aa 10) (fb:=aa 4) (q:=9) (q':=9) (ρ:=(pL ns n f b C E q nI u u' ((b9 al)) ((i9 i)))) rfl rfl (jE i q));have t1:=eH (cI (CH (a:=aw 1 (aw 8 (aa 10))) (oq (q:=9) g1 rfl (lK (f:=f) (lE.V.gv bW)) rfl) g2 (mB (f:=f) (i:=gv u' i) (lu.V.gv bW)) rfl rfl) g2 (jE (f (gv u' i) (gv u i)) (gv u i)));rw[Qr (le i bW)]at t1;have t2:=eH (cI g1 g2 (jE (gv u' i) (gv u i)));have t3:=oo (f:=aa 9) (b:=al) (q:=9) (ρ:=(pL ns n f b C E q nI u u' ((b9 al)) ((i9 i)))) rfl;have a1:=tZ t0 t1;have a2:=tZ t0 (tZ t3 t2);rw[show(!decide (i=q) && !true)=false from Jd _]at a1;have z2:(!decide (i=q)&&(al && !decide (gv u' i=gv u i)))=false:=by
    by_cases PU:i=q
    .rw[Qr PU];rfl
    .cases Ha:al with
     | false=>rw[Bool.false_and,Jd]
     | true=>rw[Qr (eq (sp Ha) i bW PU)];exact Jd _
   rw[z2]at a2;exact(aR ((iu a1).trans rfl)).trans ((iu a2).trans rfl)) ⟨fE,rfl⟩
  exact⟨x,e⟩
 obtain⟨x,elp⟩:=lp;obtain⟨k2,hk2,Hb⟩:=kT ns (c:=402) (by decide) (n:=2) (by decide);have ic:=z4c hn hE;have PV:=jE E.p C.p;rw[Qr ep]at PV;refine⟨((c9 n C)),((i9 q)),((c9 n E)),nI,((v9 u)),((v9 u')),((b9 al)),x,?_⟩;refine(aR (ac:=(vQ ns n f b ((c9 n C0)) x4 x5 x6 x7 x8 x9 fE)) (dw (bp (ds:=[bY ns,.int (20+180*bI b),aT n f,.bl b]) (b7 (q:=0) rfl (b7 (cI (q:=9) rfl (cI (q:=9) (q':=9) rfl (wZ (ds:=[.bl b]) rfl rfl) (PL 180 b)) rfl) (b7 (q:=9) rfl (bS (q:=9) rfl)))) rfl d3) rfl)).trans ?_;refine(aR (ac:=(vQ ns n f b ((c9 n C0)) ((i9 q)) x5 x6 x7 x8 x9 fE)) (dw (bp (ds:=[bY ns,.int (400+bI b),iD C0.p]) (b7 (q:=0) rfl (b7 (cI (q:=9) rfl (wZ (ds:=[.bl b]) (d:=.int (bI b)) rfl rfl) rfl) (bS (q:=9) rfl))) rfl d4) rfl)).trans ?_;refine(aR (ac:=(vQ ns n f b ((c9 n C)) ((i9 q)) x5 x6 x7 x8 x9 fE)) ?_).trans ?_
 .have t5:=eH (cI (q':=9) (fa:=aG dB 3 (bB (aa 0) (e2 cC (ai 410) (eB u5 (aE (aa 2)))) (ai 4))) (fb:=ai 0) (ρ:=(vQ ns n f b ((c9 n C0)) ((i9 q)) x5 x6 x7 x8 x9 fE)) (bp (ds:=[bY ns,.int (410+bI b),iD 4]) (b7 (q:=0) rfl (b7 (cI (q:=9) rfl (wZ (ds:=[.bl b]) (d:=.int (bI b)) rfl rfl) rfl) (bS (q:=9) rfl))) rfl d5) rfl (show uJ (iD v) (.int 0)=some (.bl (decide ((0:Int)<Int.ofNat v)))from rfl));rcases d6 with⟨h,e6⟩|⟨rfl,rfl⟩
  .rw[Qr (show(0:Int)<Int.ofNat v from Int.ofNat_lt.mpr h)]at t5;exact(nu t5).trans (dw (bp (ds:=[bY ns,.int (500+200*bI b),aT n f,cY n C0,iD q,.bl b]) (b7 (q:=0) rfl (b7 (cI (q:=9) rfl (cI (q:=9) (q':=9) rfl (wZ (ds:=[.bl b]) rfl rfl) (PL 200 b)) rfl) (b7 (q:=9) rfl (b7 (q:=9) rfl (b7 (q:=9) rfl (bS (q:=9) rfl)))))) rfl e6) rfl)
  .exact(iu t5).trans rfl
 refine(aR (ac:=(qB ns n f b C E q x6 x7 x8 x9 fE)) (dw (bp (ds:=[aT n f,cY n C,iD q]) rfl rfl (z5f hq ew)) rfl)).trans ?_;refine(aR (ac:=(qB ns n f b C E q x6 x7 x8 x9 fE)) ((iu ((GA (eH (cI (q':=9) (bp (ds:=[aT n f,cY n E]) rfl rfl ic) rfl rfl))).trans (eH (cI (q:=9) (q':=9) rfl rfl PV)))).trans rfl)).trans ?_;refine(aR (ac:=(qB ns n f b C E q x6 x7 x8 x9 fE)) ((iu ((GA (eH (cI c1 rfl PK))).trans (eH (cI c2 rfl PK)))).trans rfl)).trans ?_;refine(aR (ac:=(qB ns n f b C E q (some (.lst [.lst ((dZ ((oW C q c).map (kW n))).map cW),.lst ((dZ ((oB z C q c).map kg)).map cW)],1)) x7 x8 x9 fE)) (dw (bp (ds:=[aT n f,cY n C,iD q]) rfl rfl ed) rfl)).trans ?_;refine(aR (ac:=(qB ns n f b C E q nI x7 x8 x9 fE)) ((iu (eH (cI (tU (b7 r1 (bS r2)) (by show 2<=1000;decide)) (mK rfl) (z8t _ _)))).trans (by rw[hx6];rfl))).trans ?_;refine(aR (dw (bp (ds:=[aT n f,cY n C]) rfl rfl eu) rfl)).trans ?_;refine(aR (dw (bp (ds:=[aT n f,cY n E]) rfl rfl eE) rfl)).trans ?_;refine(aR (dw s9 rfl)).trans ?_;refine(aR ((iF (xA (m:=C.p) (by omega) (q:=9) rfl)).trans elp)).trans ?_;have Hc:∃ i:Int,gZ C.p (.int i)=false/\dJ (.lst [.int (-1),iD C.p]) (Int.ofNat k2)=some (.int i):=by
  have Hc:k2=0\/k2=1:=by omega
  rcases Hc with rfl|rfl
  .exact⟨-1,by simp[gZ],rfl⟩
  .exact⟨Int.ofNat C.p,by show(decide ((0:Int)<=(C.p:Int))&&decide ((C.p:Int)<(C.p:Int)))=false;simp,rfl⟩
 obtain⟨i,hi,ha⟩:=Hc;exact(iu (eH (cI (q':=9) (bp (b7 (q:=9) rfl (b7 (q:=9) rfl (bS (j60 rfl (bp (ds:=[bY ns,.int 402,iD 2]) rfl rfl Hb) ha)))) rfl (j01 hi)) rfl j7u))).trans rfl
end
theorem j6l(ns:List Int):vB [bY ns]=(b9 true):=by
 obtain⟨n,f,L,e0⟩:=j6f ns 0 (by decide);obtain⟨z,hz,bz⟩:=L.bot;obtain⟨am,e,x2,x3,x4,x5,x6,x7,x8,x9,fE,rfl⟩:=kh (pt:=av 2) (body:=Gw) [.bl false,.bl true] (λ_ ρ=>∃ x2 x3 x4 x5 x6 x7 x8 x9 fE:OD,ρ=[n0 ns,t9 n f,x2,x3,x4,x5,x6,x7,x8,x9,fE]) [n0 ns,t9 n f,none,none,none,none,none,none,none,none,none] (λi hi ρ aj=>by
  obtain⟨x2,x3,x4,x5,x6,x7,x8,x9,fE,rfl⟩:=aj;have hb:∃ b:Bool,([.bl false,.bl true]:List D)[i]=.bl b:=by
   match i,hi with
   | 0,_=>exact⟨false,rfl⟩
   | 1,_=>exact⟨true,rfl⟩
  obtain⟨b,hb⟩:=hb;rw[hb];obtain⟨y3,y4,y5,y6,y7,y8,y9,PM,h⟩:=j6e L hz bz ns b x3 x4 x5 x6 x7 x8 x9 fE;exact⟨_,_,rfl,.inl h,_,_,_,_,_,_,_,_,_,rfl⟩)
  ⟨_,_,_,_,_,_,_,_,_,rfl⟩
 unfold vB Oy;refine dh ?_;show aF _ _ [n0 ns,none,none,none,none,none,none,none,none,none,none]=_;refine(aR (dw (bp (ds:=[bY ns,.int 0]) rfl rfl e0) rfl)).trans ?_;refine(aR ((iF (kU (q:=9) (ds:=[.bl false,.bl true]) rfl (by show 2<=1000;decide))).trans e)).trans ?_;rfl
theorem pM(ns:List Int)(O8:ns.length<=63):∃ q,xt [.lst (ns.map D.int)]=some (.bl true,q):=by obtain⟨x,e⟩:=j0e O8 (m:=2) (by decide) j6l;refine⟨9,?_⟩;unfold xt OE;refine dh ?_;exact(aR e).trans rfl
def A0 (K:PySem.W.Frag)(mg:Str->Option Value)(x:Str)(st:Stmt):Prop:=∃ f fd,oM K x x st f fd/\mg x=some (.ref f)
theorem A0.mk{K:PySem.W.Frag}{h:Heap}{mg:Str->Option Value}{x:Str}{f:Addr}{od an:Option Addr}{sl:Array (Option Value)}{oc kV dc pm cd ct:Value}(X:K.In h)(G:h.Ns mainGlobals mg)(a:PySem.W.nsIn K mainGlobals x=some (some (.ref f)))(l:K.lookup f=some ⟨oc,od,.func (PySem.W.fnOf x x (sy st) (kI st) (bw st) .none kV dc pm an cd ct),sl⟩)(c:PySem.W.codeIn K cd x=true)(k:PySem.W.keepIn K (.ref f)=true):A0 K mg x st:=⟨_,_,H0 l c k,Zc X G a⟩
theorem A0.at{K:PySem.W.Frag}{mg:Str->Option Value}{x:Str}{ps:List Str}(a:A0 K mg x st)(h:∀ (kV doc pm:Value) (an:Option Addr) (cB ct:Value) (us:List Value),us.length=ps.length->bindArgs (PySem.W.fnOf x x (sy st) (kI st) (bw st) .none kV doc pm an cB ct) ⟨us,[]⟩=pure (ps.zip us):=by intro _ _ _ _ _ _ us h;first|(obtain⟨_,rfl⟩:=L3.lG h;rfl)|(obtain⟨_,_,rfl⟩:=L3.gX h;rfl)|(obtain⟨_,_,_,rfl⟩:=L3.jG h;rfl)|(obtain⟨_,_,_,_,rfl⟩:=L3.Ct h;rfl)|(obtain⟨_,_,_,_,_,_,rfl⟩:=L3.k41 h;rfl)):At K mg x st ps:=by obtain⟨f,fd,F,m⟩:=a;exact⟨f,fd,F,m,F.binds h⟩
theorem all_mk{l:PySem.W.OpenLaw}{w:World}{K:PySem.W.Frag}{h:Heap}{mg:Str->Option Value}{fa:Addr}{Hd:Addr}{He AJ:Option Addr}{Hf:Array (Option Value)}{Hg AK AL AM vR AN:Value}{xr hZ y0 y1 y2 y3 y4:Addr}(X:K.In h)(G:h.Ns mainGlobals mg)(hfa:mg "law" = some (.ref fa))
  (A1:A0 K mg "_law_cell" (top 54))
  (A2:A0 K mg "_law_pick" (top 55))
  (A3:A0 K mg "_law_chain" (top 56))
  (A4:A0 K mg "_law_couples" (top 57))
  (A5:A0 K mg "_law_side_by_side" (top 58))
  (A6:A0 K mg "_law_base" (top 59))
  (A7:A0 K mg "_law_ladder" (top 60))
  (A8:A0 K mg "_law_low" (top 61))
  (A9:A0 K mg "_law_join" (top 62))
  (A10:A0 K mg "_law_under" (top 63))
  (A11:A0 K mg "_law_rule" (top 64))
  (A12:A0 K mg "_law_spreads" (top 65))
  (A13:A0 K mg "_law_spread_rule" (top 66))
  (A14:A0 K mg "_law_chart" (top 67))
  (A15:A0 K mg "_law_word" (top 68))
  (A16:A0 K mg "is_whole" (top 9))
  (A17:A0 K mg "is_number_of" (top 10))
  (A18:A0 K mg "refuse_no_place" (top 39))
  (A19:A0 K mg "steady" (top 21))
  (A20:A0 K mg "is_row_of" (top 11))
  (A21:A0 K mg "is_rule" (top 19))
  (A22:A0 K mg "is_below" (top 16))
  (A23:A0 K mg "below" (top 17))
  (A24:A0 K mg "rises" (top 20))
  (A25:A0 K mg "is_rising_rule" (top 24))
  (A26:A0 K mg "refuse_unrising" (top 25))
  (A27:A0 K mg "least_kept" (top 27))
  (A28:A0 K mg "again_and_again" (top 26))
  (A29:A0 K mg "row_of_least" (top 14))
  (A30:A0 K mg "least_of" (top 15))
  (A31:A0 K mg "joined_rules" (top 23))
  (A32:A0 K mg "loop_at" (top 42))
  (A33:A0 K mg "after" (top 22))
  (A34:A0 K mg "without_place" (top 41))
  (A35:A0 K mg "_law_tried" (top 69))
  (A36:A0 K mg "_law_due" (top 71))
  (A37:A0 K mg "is_named_number" (top 12))
  (A38:A0 K mg "is_step" (top 47))
  (A39:A0 K mg "refuse_no_step" (top 48))
  (A40:A0 K mg "place_and_worth" (top 49))
  (A41:A0 K mg "worths_behind" (top 50))
  (A42:A0 K mg "risen" (top 51))
  (A43:A0 K mg "lowest" (top 44))
  (A44:A0 K mg "least_by" (top 52))
  (A45:A0 K mg "all_steps" (top 46))
  (A46:A0 K mg "least" (top 45))
  (A47:A0 K mg "_law_with_round" (top 70))
  (A48:A0 K mg "is_many_places" (top 33))
  (A49:A0 K mg "goes_between" (top 36))
  (A50:A0 K mg "is_way" (top 35))
  (A51:A0 K mg "are_ways" (top 34))
  (A52:A0 K mg "is_begin" (top 38))
  (A53:A0 K mg "are_begins" (top 37))
  (A54:A0 K mg "is_chart" (top 32))
  (A55:A0 K mg "_law_once" (top 72))
  (a56:PySem.W.nsIn K mainGlobals "law" = some (some (.ref Hd))) (l56:K.lookup Hd=some ⟨Hg,He,.func (PySem.W.fnOf "law" "law" (sy (top 73)) (kI (top 73)) (bw (top 73)) .none AK AL AM AJ vR AN),Hf⟩) (c56:PySem.W.codeIn K vR "law" = true) (k56:PySem.W.keepIn K (.ref Hd)=true)
  (z1:PySem.W.nsIn K mainGlobals "ValueError" = some none) (z2:PySem.W.nsIn K mainGlobals "all" = some none) (z3:PySem.W.nsIn K mainGlobals "bool" = some none) (z4:PySem.W.nsIn K mainGlobals "int" = some none) (z5:PySem.W.nsIn K mainGlobals "isinstance" = some none) (z6:PySem.W.nsIn K mainGlobals "len" = some none) (z7:PySem.W.nsIn K mainGlobals "list" = some none) (z8:PySem.W.nsIn K mainGlobals "max" = some none) (z9:PySem.W.nsIn K mainGlobals "range" = some none) (z10:PySem.W.nsIn K mainGlobals "set" = some none) (z11:PySem.W.nsIn K mainGlobals "sorted" = some none) (z12:PySem.W.nsIn K mainGlobals "str" = some none) (z13:PySem.W.nsIn K mainGlobals "tuple" = some none) (z14:PySem.W.nsIn K mainGlobals "zip" = some none) {tk1:Tok} (v1:PySem.W.nsIn K mainGlobals "MOST_BEGINS" = some (some (.int 60 tk1))) {tk2:Tok} (v2:PySem.W.nsIn K mainGlobals "MOST_PLACES" = some (some (.int 8 tk2))) {tk3:Tok} (v3:PySem.W.nsIn K mainGlobals "MOST_WAYS" = some (some (.int 60 tk3))) (xrN:PySem.W.nsIn K mainGlobals "RiseError" = some (some (.ref xr))) (xcg:PySem.W.specialIn K (.builtin "object.__class__") "__get__" = some (some (.builtin "getset_descriptor.__get__"))) (xct:PySem.W.takesIn K (.builtin "object.__class__")=some true) (xrg:PySem.W.findIn K (.ref xr) "__getattribute__" = some (some (.builtin "BaseException.__getattribute__"))) (xrt:PySem.W.findIn K (.ref xr) "__getattr__" = some none) (xrc:PySem.W.findIn K (.ref xr) "__class__" = some (some (.builtin "object.__class__"))) (xro:PySem.W.mroIn K xr (.type "object")=some true) (xrb:PySem.W.mroIn K xr (.type "BaseException")=some true) (xrT:PySem.W.typeIn K (.ref xr)=some (.type "type")) (xe0N:PySem.W.nsIn K mainGlobals "NoPlace" = some (some (.ref hZ))) (xe0g:PySem.W.findIn K (.ref hZ) "__getattribute__" = some (some (.builtin "BaseException.__getattribute__"))) (xe0t:PySem.W.findIn K (.ref hZ) "__getattr__" = some none) (xe0c:PySem.W.findIn K (.ref hZ) "__class__" = some (some (.builtin "object.__class__"))) (xe0o:PySem.W.mroIn K hZ (.type "object")=some true) (xe0b:PySem.W.mroIn K hZ (.type "BaseException")=some true) (xe0V:PySem.W.mroIn K hZ (.type "ValueError")=some true) (xe0n0:PySem.W.mroIn K hZ (.type "int")=some false) (xe0n1:PySem.W.mroIn K hZ (.type "bool")=some false) (xe0n2:PySem.W.mroIn K hZ (.type "tuple")=some false) (xe0n3:PySem.W.mroIn K hZ (.type "list")=some false) (xe0n4:PySem.W.mroIn K hZ (.type "str")=some false) (xe0R:PySem.W.mroIn K hZ (.ref xr)=some true) (xe0X:PySem.W.excIn K hZ L3.DR "ValueError.__new__" = true) (y0N:PySem.W.nsIn K mainGlobals "NoHouse" = some (some (.ref y0))) (y0O:PySem.W.mroIn K y0 (.type "object")=some true) (y0T:PySem.W.typeIn K (.ref y0)=some (.type "type")) (y0Sxe0:PySem.W.mroIn K hZ (.ref y0)=some false) (y0Dxe0:hZ≠y0) (y1N:PySem.W.nsIn K mainGlobals "NoMap" = some (some (.ref y1))) (y1O:PySem.W.mroIn K y1 (.type "object")=some true) (y1T:PySem.W.typeIn K (.ref y1)=some (.type "type")) (y1Sxe0:PySem.W.mroIn K hZ (.ref y1)=some false) (y1Dxe0:hZ≠y1) (y2N:PySem.W.nsIn K mainGlobals "NoRule" = some (some (.ref y2))) (y2O:PySem.W.mroIn K y2 (.type "object")=some true) (y2T:PySem.W.typeIn K (.ref y2)=some (.type "type")) (y2Sxe0:PySem.W.mroIn K hZ (.ref y2)=some false) (y2Dxe0:hZ≠y2) (y3N:PySem.W.nsIn K mainGlobals "NoStep" = some (some (.ref y3))) (y3O:PySem.W.mroIn K y3 (.type "object")=some true) (y3T:PySem.W.typeIn K (.ref y3)=some (.type "type")) (y3Sxe0:PySem.W.mroIn K hZ (.ref y3)=some false) (y3Dxe0:hZ≠y3) (y4N:PySem.W.nsIn K mainGlobals "TooGreat" = some (some (.ref y4))) (y4O:PySem.W.mroIn K y4 (.type "object")=some true) (y4T:PySem.W.typeIn K (.ref y4)=some (.type "type")) (y4Sxe0:PySem.W.mroIn K hZ (.ref y4)=some false) (y4Dxe0:hZ≠y4) :
  ∃ fd:FuncData,(∀ (s:Shared) (v:Value),BindsTo s fd ⟨[v],[]⟩ [("_law_script",v)])/\∀ base:Heap,K.In base->base.Ns mainGlobals mg->fz l.prog w K mg base kJ 12 fa fd [bv] (ng K 1 xt):=by have e:=hfa.symm.trans (Zc X G a56);cases e;have B:Bt mg:=⟨Q8 X G z1,Q8 X G z2,Q8 X G z3,Q8 X G z4,Q8 X G z5,Q8 X G z6,Q8 X G z7,Q8 X G z8,Q8 X G z9,Q8 X G z10,Q8 X G z11,Q8 X G z12,Q8 X G z13,Q8 X G z14,⟨_,Zc X G v1⟩,⟨_,Zc X G v2⟩,⟨_,Zc X G v3⟩⟩;have pN:j7 K "NoPlace" hZ:=j7.of xe0N ⟨L3.FK xe0o,xe0g,xe0t,xe0c,xcg,xct,xe0o,xe0b⟩ xe0X xe0V xe0n0 xe0n1 xe0n2 xe0n3 xe0n4;have T:Xt K mg:=⟨rF.cons (rF.nil ⟨L3.FK xro,xrg,xrt,xrc,xcg,xct,xro,xrb⟩ xrT (Zc X G xrN)) (Zc X G xrN) pN xe0R,⟨hZ,⟨pN,Zc X G xe0N⟩⟩,gK.other (gK.nil (Zc X G y0N)) xe0N (Zc X G y0N) (by decide) y0Dxe0 y0T y0O y0Sxe0,gK.other (gK.nil (Zc X G y1N)) xe0N (Zc X G y1N) (by decide) y1Dxe0 y1T y1O y1Sxe0,gK.self (gK.nil (Zc X G xe0N)) xe0N (Zc X G xe0N),gK.other (gK.nil (Zc X G y2N)) xe0N (Zc X G y2N) (by decide) y2Dxe0 y2T y2O y2Sxe0,gK.other (gK.nil (Zc X G y3N)) xe0N (Zc X G y3N) (by decide) y3Dxe0 y3T y3O y3Sxe0,gK.other (gK.nil (Zc X G y4N)) xe0N (Zc X G y4N) (by decide) y4Dxe0 y4T y4O y4Sxe0⟩;refine⟨PySem.W.fnOf "law" "law" (sy (top 73)) (kI (top 73)) (bw (top 73)) .none AK AL AM AJ vR AN,λs v=>.of_eq rfl,λbase KX NG=>?_⟩;have ky:=z0d (P:=l.prog) (w:=w) (base:=base) B A1.at;have bU:=z06 B ky A2.at;have jM:=y8p (P:=l.prog) (w:=w) (base:=base) B A3.at;have iS:=y5a (P:=l.prog) (w:=w) (base:=base) B A4.at;have fk:=x9t (P:=l.prog) (w:=w) (base:=base) B A5.at;have kz:=z1h B bU jM iS fk A6.at;have jg:=y7j B kz bU A7.at;have fF:=z3x (P:=l.prog) (w:=w) (base:=base) B A8.at;have kA:=z1a B fF A9.at;have jN:=y8h (P:=l.prog) (w:=w) (base:=base) B A10.at;have eQ:=z04 B fF bU kA jN A11.at;have eR:=y4v (P:=l.prog) (w:=w) (base:=base) B A12.at;have dm:=y0f B eQ eR bU A13.at;have jO:=y8f B bU eQ dm A14.at;have kB:=z0t (P:=l.prog) (w:=w) (base:=base) B T A15.at;have iT:=z3n (P:=l.prog) (w:=w) (base:=base) B A16.at;have bD:=y4y B iT A17.at;have gf:=y20 B bD A18.at;have fG:=y0i B T bD A18.at;have pO:=z9g (P:=l.prog) (w:=w) (base:=base) B A19.at;have kC:=y9v B bD A20.at;have nJ:=z75 B kC A21.at;have fI:=z45 (P:=l.prog) (w:=w) (base:=base) B A22.at;have rV:=j5q B fI A23.at;have rW:=j32 B rV fI A24.at;have dU:=y2s B nJ rW A25.at;have gh:=y1w B dU A26.at;have jP:=y8g B fI A27.at;have gm:=y1o B gh jP A28.at;have iU:=y59 (P:=l.prog) (w:=w) (base:=base) B A29.at;have fJ:=z3j B iU A30.at;have iV:=y4x (P:=l.prog) (w:=w) (base:=base) B A31.at;have nK:=z7u B pO fJ iV gm A32.at;have rX:=j43 (P:=l.prog) (w:=w) (base:=base) B A33.at;have iw:=y3f B gf nK rX fJ A34.at;have gN:=y2w B T fG A34.at;have jQ:=y9o B T iw kB gN A35.at;have lR:=z3z B fF A36.at;have gp:=y1h B bD A37.at;have nN:=z5j B gp A38.at;have gO:=y2r B nN A39.at;have gq:=y1i (P:=l.prog) (w:=w) (base:=base) B A40.at;have iy:=y3w B gq A41.at;have rY:=j51 B iy A42.at;have pP:=z95 B fJ A43.at;have lS:=z42 B gO rY pP A44.at;have kD:=z0c (P:=l.prog) (w:=w) (base:=base) B A45.at;have rZ:=j4c B lS kD A46.at;have gr:=y1j B eQ dm bU A47.at;have gP:=y2y B iT A48.at;have iW:=y58 B bD A49.at;have pQ:=z8b B iW dU A50.at;have lT:=z3t B pQ A51.at;have lU:=z4j B bD A52.at;have jR:=y84 B lU A53.at;have lV:=z3w B gP lT jR A54.at;have kE:=y9x B jg jO bU gr jQ lV lR rZ eR A55.at;exact j3j B kE (H0 (st:=top 73) l56 c56 k56)
theorem walk{l:PySem.W.OpenLaw}{q:Program}{loose:List Str}{XP:(Str->Option Value)->Heap->Prop}{YP:World->Heap->Prop}{d:DefRec}{K:Params->PySem.W.Frag}(hn:l.most=some 63)(x_:d.params.defaults=[])
  (hY:∀ (w:World) (h:Heap),YP w h->(K w.params).In h)
  (F:∀ (w:World) (mg:Str->Option Value) (fa:Addr) (h:Heap),(K w.params).In h->h.Ns mainGlobals mg->mg d.name=some (.ref fa)->(∀ x∈wj,PySem.W.tabIn (K w.params) x=none) /\
    ∃ fd:FuncData,(∀ (s:Shared) (u:Value),BindsTo s fd ⟨[u],[]⟩ [("_law_script",u)])/\∀ base:Heap,(K w.params).In base->base.Ns mainGlobals mg->fz l.prog w (K w.params) mg base kJ 12 fa fd [bv] (ng (K w.params) 1 xt)) :
  PySem.W.WalkO q loose XP YP l.row.toRowW d [] (λf vs=>PySem.call f vs):=
 z9r (n:=63) (k:=12) (x:="_law_script") (F0:=xt) hn (by decide) x_ ⟨rfl,by decide,by decide⟩ hY F λ_ _ a ns hl tb hS=>W6 pM hl hS tb
end My
namespace PySem.W
structure Fast:Prop where(tw10097602369771064067 tw10101811514480712169 tw10209941385774068328 tw10271220192985231150 tw10301400476362159035 tw10301825640921367525 tw10482937429310060213 tw10650122738085821475 tw10697789085830740920 tw10708392136704527070 tw10756106483733381245 tw10758839795454733564 tw10758989781188268718 tw10774328421188135911 tw10798213450263509278 tw10814174849001862461 tw10864041394735389927 tw10945270848946917870 tw10952160957659091634 tw10973690413195433381 tw10992646030397525632 tw11041872689162465787 tw11176702332146840715 tw11295985096839016854 tw11297233171067366258 tw11320920428955868750 tw11413568823096788787 tw11538749117491075412 tw1157197524638848723 tw11584583655672933814 tw11612471921045665051 tw11654864992413154792 tw11663947521779105099 tw11668501390373077842 tw11694010465313758443 tw11729888637709265392 tw11742615165973506327 tw11751198788678091122 tw1175500334604647408 tw11761501094543474030 tw11772154117719885861 tw11798940898373355168 tw11845514076070751256 tw118558798131761871 tw11879049585226456573 tw11888702699527514662 tw12014792752192795906 tw12017483515147929688 tw12066414960948841564 tw1207393254082012117 tw12080051956749452541 tw12092611006011351785 tw12118462163748286363 tw12152860331442366827 tw12260050646469191811 tw12316171086915456619 tw12377912592063672902 tw12390591457018522130 tw12399245565679250690 tw12399665968470300580 tw1240888601630711485 tw1241794715566935989 tw12561976760311970697 tw12568852229067105981 tw12594441040039280445 tw12595448437364593691 tw12637528524489414493 tw12642141478985676592 tw12675545067162742424 tw12785159688315238494 tw12847288468484848384 tw12883171923161136981 tw1293120119001905119 tw12938806739544571776 tw12964895653599380663 tw13001367268223608399 tw13007051201794764787 tw13031571609737152289 tw13032562494208216488 tw13040503314865605241 tw1304936859327099623 tw13069146224309113425 tw13073817408166202518 tw13078815915062327379 tw13102521175177587630 tw13158077476915100428 tw13178217419372752368 tw13215742962196640787 tw13253648136240747712 tw13267933136777797489 tw13347577623912999350 tw13356500741954682252 tw13392127874533504731 tw13405935575144103916 tw13463958493798269851 tw13465978240158593599 tw1350687440375757938 tw13570912191541230884 tw13622650317173374369 tw13673362465105844122 tw13796984953692831876 tw13824244889007604191 tw13835686369936289325 tw13864077023503879678 tw13870664474147329469 tw13906052989488315157 tw13937092789284646199 tw13999859743865585908 tw14050002798538491467 tw14054364640150529981 tw14073939292440652205 tw14075773140014704400 tw14093858812337838257 tw14098586548322414450 tw14119624249717667248 tw14173419488570593366 tw14173922252705914529 tw14235954252885331259 tw14249547878795426474 tw14294406147987204134 tw14326617458030055810 tw14352724956255356771 tw14415197727098148739 tw14481932844138231247 tw14486889759580605062 tw14489613426222479131 tw14497524684306935279 tw14622432352851685025 tw14664265806402796211 tw14736591324035029602 tw14772934151717543987 tw14774633971688473111 tw14897852434566608811 tw14912105561172047159 tw14922295974105942600 tw1495324320900050296 tw14980897798476081364 tw1501050718347370997 tw15100120640333936542 tw15115771255029651589 tw15133809362115306533 tw15152797500783038566 tw15173263954205226174 tw15184378614580962023 tw15223782704786431929 tw15249794442530734394 tw15405950707245694439 tw15424988743548995121 tw15466237591160737974 tw1553046028902239352 tw15594942069205146553 tw15632601600153478468 tw15694737399702648542 tw1579809886787217801 tw15826213868565368459 tw15835774451779751060 tw15874592019254557127 tw15917868301217474638 tw15979556935023948335 tw16010016702400186882 tw16011288945128196070 tw16044266519196442494 tw16053195418478201176 tw1622849591951169487 tw16249674248635118838 tw16269858738470604267 tw16272851006539264853 tw16297049587339998639 tw16299658061197980819 tw16320061618054146242 tw16368179719303658186 tw16407212567357541970 tw16475061312519110086 tw16488428258961811487 tw16541147927203637663 tw16558620399547988504 tw16575549713443356846 tw16645731491955167863 tw16669122919612523414 tw16780723475652563003 tw16873840696143200778 tw17067570259526133241 tw17069359252102275809 tw17120265940266300772 tw17135130222016901792 tw17189548509403986565 tw17204271717177170061 tw17217861246705926793 tw17229145394978213063 tw17281166652403356309 tw17300588460707742083 tw17318687643484514382 tw17331489397005376097 tw17349319727778713568 tw17412915622635616939 tw1741591717973333643 tw17430262098987814693 tw17456935558005633343 tw17536912713888971214 tw17648722658451106394 tw17685532910179115160 tw17731519519741011693 tw17750093222057458271 tw17795797468815898878 tw17820676736210821709 tw17861873866123809119 tw18008841773518846173 tw18026435882817690180 tw18050478820139681694 tw18074132462027278260 tw18082582700730224455 tw18103982399036031619 tw18151278648095565616 tw18168652161324415802 tw18179346288924203150 tw18208253190401182222 tw18212653311972508411 tw18259946075615854726 tw18280057285589283681 tw18282297971764730418 tw18296495770028815337 tw18354883656223554080 tw18401317955531870226 tw18424122989046732232 tw185781271477447364 tw1930902209677879575 tw1937174737820458729 tw1984195942758223949 tw2058323909570704026 tw206325215375502082 tw2065584796085544358 tw2123734633915875214 tw2246649833666432985 tw2294283307688538723 tw2328218944022213905 tw2372030772414365531 tw2430716284609167858 tw2434626193792616520 tw2560521173759401821 tw2588472876320381834 tw259163863389015109 tw2625790904157124223 tw2658263743687403782 tw2776359513629761293 tw2781454380085978030 tw3016447906396236829 tw3050716216547278075 tw305732238744925177 tw3195234288590124007 tw3205656663985938712 tw3295331488465181592 tw3321163120850719523 tw3364878796387629066 tw3439757384799998404 tw3483882244955272456 tw3514733811159045740 tw3519302558898920956 tw3519619462916819814 tw3539413073530791871 tw3559057081995645426 tw3595792687633277414 tw3598079784616976754 tw3752744361433598966 tw3764480554652669054 tw386415323333263831 tw3875970280937836501 tw3923302448066022950 tw4093793959308048129 tw410776149077205287 tw4138610832307970895 tw414734943430199597 tw4177937722836529163 tw4261186289615231793 tw4290162806033895592 tw4438804398424118484 tw4497830849063936558 tw4502414344480106054 tw4562461699095428765 tw4761512624570421400 tw477786703575481671 tw4786449102898127291 tw4870641862014091803 tw49603936946002438 tw4987704400110414028 tw5027997866225006168 tw504615511428761961 tw5078166338434943078 tw5096977152801547740 tw5130267572075316560 tw5187716892892927865 tw5188115651314894864 tw5188418001112645071 tw5219872165019077493 tw5273769013571643142 tw5305802088864501559 tw5449696231919234514 tw5470626096423064794 tw5558205604987320860 tw5577903329161823947 tw5657226661922371892 tw5687115774694386588 tw5808610287621208144 tw5826098332871867509 tw583444363387635735 tw5890209208370832297 tw5895947499449873757 tw5898294623292449595 tw5943035783917205358 tw5946331878823708178 tw5981764430706473593 tw5985345052272763172 tw6044581196239698216 tw6054080136635185007 tw6098400829561762781 tw611658056600203227 tw6140134389961750302 tw6175424482226945650 tw6242018725371708021 tw6271772321718973215 tw6303280696885041892 tw6312239066110879648 tw6323389755544969520 tw6368091966458876263 tw6382204061439368644 tw6409047792901749640 tw6415493293070773094 tw6443658461556201248 tw646692174109798190 tw6514379190441579435 tw6540509996517386916 tw6561080870312096550 tw6581877430766025742 tw6614323148098425350 tw6614895892041419277 tw6619202371599306829 tw670623695311160399 tw6748115670919994602 tw6766611365863775965 tw6767750053855165637 tw677293057679779161 tw6780864666246289897 tw6795572572985293016 tw684689916995319462 tw6852721763979132523 tw6872047636261923236 tw6876441880190454863 tw6877293530353072820 tw6881663670797494934 tw6907733093682897851 tw6921915186068553815 tw6939411839993411275 tw6948884959513107407 tw6952620486387061147 tw6995072971341556744 tw6996784443832905103 tw7019201665357198079 tw7028217749840990367 tw7047603525283505641 tw7124891990710469271 tw7138481516748034897 tw7184235569203729309 tw7341409744745658970 tw7341839593619212934 tw7345544573799229593 tw7398147252558844954 tw7406496694367478593 tw7507687709296808278 tw755879673467500061 tw7589133840363905639 tw7615851210901200272 tw7652346934283445638 tw77496018813408173 tw7913390811905292950 tw7953286702056078814 tw803811941456348376 tw8039841741652762571 tw8070527473790185398 tw8109116839186317034 tw8145266930500848759 tw81876889137561025 tw8196344467714745202 tw8311773143543652747 tw833743768484488147 tw8364414736528582150 tw8371648856681319908 tw8399546494562810212 tw8400328726780047739 tw8424166887261685008 tw8499420704644264444 tw8572786855197391737 tw8583765695455622135 tw8646750931308122694 tw8687024145641958358 tw8763698672290673772 tw8765836587777234424 tw8777785051768541248 tw8854466615997013479 tw8881954020564297756 tw8910241931049451706 tw894167833004232387 tw8956235784524847550 tw9073035545938957636 tw9075334008243458622 tw9199239755822530296 tw926051824920338221 tw927780448709108440 tw9343302311030199662 tw9373941552619094219 tw9388426492661261249 tw9414855236400089396 tw9416466944445795111 tw9492248055788658310 tw9503211904921074988 tw9504122088505210079 tw960434669010562877 tw9638867535829839303 tw9669291157535741888 tw9687961883173155635 tw969592790748992136 tw9700110375000581047 tw972782236048774904 tw9728284996341992522 tw9775563993845954022 tw9787071732085261168 tw9809093774293580929 tw9842711523600294226 tw9921833281089289960:True)
end PySem.W
open PySem PySem.W PyProof.Rows
set_option maxRecDepth 100000 in
set_option maxHeartbeats 0 in
theorem PySem.Challenge.cw_ladderhall_k70_whole_without_holds : PySem.Challenge.rw_ladderhall_k70_whole_without.Holds := by
  w_on; o_law; k_head; (case hw => w_witness2)
  k_fill
  refine My.walk (l := PySem.Challenge.rw_ladderhall_k70_whole_without) rfl rfl (fun w h Y => PySem.W.kIn_of Y) ?F
  case F =>
    intro w mg fa h KX G hmg
    refine' ⟨L3.T0.of ?r1 ?r2 ?r3 ?r4 ?r5 ?r6, ?al⟩
    (case r1 => refine' L3.k09 ?_; k_is)
    (case r2 => refine' L3.k09 ?_; k_is)
    (case r3 => refine' L3.k09 ?_; k_is)
    (case r4 => refine' L3.k09 ?_; k_is)
    (case r5 => refine' L3.k09 ?_; k_is)
    (case r6 => refine' L3.k09 ?_; k_is)
    refine' My.all_mk KX G hmg ?A1 ?A2 ?A3 ?A4 ?A5 ?A6 ?A7 ?A8 ?A9 ?A10 ?A11 ?A12 ?A13 ?A14 ?A15 ?A16 ?A17 ?A18 ?A19 ?A20 ?A21 ?A22 ?A23 ?A24 ?A25 ?A26 ?A27 ?A28 ?A29 ?A30 ?A31 ?A32 ?A33 ?A34 ?A35 ?A36 ?A37 ?A38 ?A39 ?A40 ?A41 ?A42 ?A43 ?A44 ?A45 ?A46 ?A47 ?A48 ?A49 ?A50 ?A51 ?A52 ?A53 ?A54 ?A55 ?a56 ?l56 ?c56 ?k56 ?z1 ?z2 ?z3 ?z4 ?z5 ?z6 ?z7 ?z8 ?z9 ?z10 ?z11 ?z12 ?z13 ?z14 ?v1 ?v2 ?v3 ?xrN ?xcg ?xct ?xrg ?xrt ?xrc ?xro ?xrb ?xrT ?xe0N ?xe0g ?xe0t ?xe0c ?xe0o ?xe0b ?xe0V ?xe0n0 ?xe0n1 ?xe0n2 ?xe0n3 ?xe0n4 ?xe0R ?xe0X ?y0N ?y0O ?y0T ?y0Sxe0 ?y0Dxe0 ?y1N ?y1O ?y1T ?y1Sxe0 ?y1Dxe0 ?y2N ?y2O ?y2T ?y2Sxe0 ?y2Dxe0 ?y3N ?y3O ?y3T ?y3Sxe0 ?y3Dxe0 ?y4N ?y4O ?y4T ?y4Sxe0 ?y4Dxe0
    (case A1 | A2 | A3 | A4 | A5 | A6 | A7 | A8 | A9 | A10 | A11 | A12 | A13 | A14 | A15 | A16 | A17 | A18 | A19 | A20 | A21 | A22 | A23 | A24 | A25 | A26 | A27 | A28 | A29 | A30 | A31 | A32 | A33 | A34 | A35 | A36 | A37 | A38 | A39 | A40 | A41 | A42 | A43 | A44 | A45 | A46 | A47 | A48 | A49 | A50 | A51 | A52 | A53 | A54 | A55 => refine' My.A0.mk KX G ?a ?l ?c ?k; (case a => k_is); (case l => k_is); (case c => k_is); (case k => k_is))
    (case a56 | l56 | c56 | k56 | z1 | z2 | z3 | z4 | z5 | z6 | z7 | z8 | z9 | z10 | z11 | z12 | z13 | z14 | v1 | v2 | v3 | xrN | xcg | xct | xrg | xrt | xrc | xro | xrb | xrT | xe0N | xe0g | xe0t | xe0c | xe0o | xe0b | xe0V | xe0n0 | xe0n1 | xe0n2 | xe0n3 | xe0n4 | xe0R | y0N | y0O | y0T | y0Sxe0 | y1N | y1O | y1T | y1Sxe0 | y2N | y2O | y2T | y2Sxe0 | y3N | y3O | y3T | y3Sxe0 | y4N | y4O | y4T | y4Sxe0 => k_is)
    (case xe0X => k_exc)
    (case y0Dxe0 | y1Dxe0 | y2Dxe0 | y3Dxe0 | y4Dxe0 => decide)
