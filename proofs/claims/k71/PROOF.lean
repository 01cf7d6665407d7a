import PyProof.Rows.All
import Wide.All
import OpenK.AllK
import Wide.FinOn
import Lean
import PyProof.EqAt
import PyProof.EqKinds
import PyProof.TupleCall
import KE.KIsNot
import PyProof.ExcArgs
import OpenK.KOwn
import KE.LcSums
import PyProof.EnumMake
import PyProof.Draws
import PyProof.Rows.EnumRows
import PyProof.ExcBaseAll.ValueError
import PyProof.NsDelKeeps
import PyProof.Rows.SetFrom
import PyProof.WalksMore
import KE.KDictSum
import PyProof.Rows.MinMaxN
import PyProof.Rows.CallKwBuiltin
import KE.KMinKey
import KE.KSortKey
import PyProof.DictWalks
import PySem.SetOps
import PyProof.TupleKey
import PyProof.SetKind
import PyProof.IsRules
import PyProof.Rules
import PyProof.DictKinds
import KE.KSortAsk
import KE.KSortTup
import PyProof.PureInt
import PyProof.DictIter
import KE.KItemsList
import PyProof.DictUpdate
import PyProof.DictRoadsH
import PySem.Challenge.RW_ladderhall_k71_whole_joined_ways
set_option Elab.async false
set_option linter.all false
set_option maxRecDepth 100000
set_option maxHeartbeats 0
noncomputable section
def Qa:=@List.getElem?_eq_getElem
def Qb:=@PySem.Heap.get?_push_of_some
def Qc:=@List.length_map
def Qd:=@PySem.wpAny_pure
def Qe:=@List.mem_cons_of_mem
def Qf:=@List.mem_cons_self
def Qg:=@List.not_mem_nil
def Qh:=@List.getD_eq_getElem?_getD
def Qi:=@Nat.le_refl
def Qj:=@if_pos
def Qk:=@if_neg
def Ql:=@List.getElem?_map
def Qm:=@PySem.Heap.lt_size
def Qn:=@List.size_toArray
def Qo:=@PySem.Heap.get?_push_size
def Qp:=@List.mem_map
def Qq:=@List.mem_cons
def Qr:=@List.mem_append_right
def Qs:=@decide_eq_true
def Qt:=@Bool.false_eq_true
def Qu:=@Option.map_eq_some_iff
def Qv:=@Nat.lt_of_lt_of_le
def Qw:=@List.length_append
def Qx:=@List.map_cons
def Qy:=@List.mem_of_getElem?
def Qz:=@Array.getD_eq_getD_getElem?
def QA:=@List.mem_range
def QB:=@List.getElem?_eq_some_iff
def QC:=@Option.some.inj
def QF:=@List.getElem?_eq_none
def QG:=@PyProof.Rows.boot_tuple
def QH:=@List.length_cons
def QI:=@Array.length_toList
def QJ:=@List.length_range
def QK:=@decide_eq_false
def QL:=@Nat.lt_irrefl
def QM:=@Nat.ne_of_lt
def QN:=@PySem.PassesOwn.never
def QO:=@PySem.mem_of_lookup
def QP:=@List.map_congr_left
def QR:=@of_decide_eq_true
def QS:=@List.getElem?_append_left
def QT:=@List.filter_cons_of_pos
def QU:=@Nat.le_trans
def QV:=@List.map_map
def QW:=@List.nodup_cons
def QX:=@List.getElem?_set_self
def QY:=@List.getElem?_set_ne
def QZ:=@List.map_append
def Q0:=@PySem.wpAny_newObj_type
def Q1:=@PySem.wpAny_call_entry
def Q2:=@List.mem_append
def Q3:=@List.length_take
def Q4:=@PySem.wpAny_callSpecial?_slot
def Q5:=@List.filter_cons_of_neg
def Q6:=@List.mem_singleton
def Q7:=@PySem.W.mg_none_of
def Q8:=@List.getElem_of_mem
def Q9:=@List.mem_append_left
def Za:=@PySem.wpAny_holding
def Zb:=@Nat.zero_le
def Zc:=@List.getElem_mem
def Zd:=@List.mem_filter
def Ze:=@List.length_set
def Zf:=@Nat.not_lt_zero
def Zg:=@Array.getElem?_toList
def Zh:=@Array.getElem?_eq_getElem
def Zi:=@Ne.symm
def Zj:=@PyProof.Rows.slot_tuple_getitem
def Zk:=@List.getElem?_range
def Zl:=@PySem.W.kia_one
def Zm:=@List.getElem?_append_right
def Zn:=@if_false
def Zo:=@List.lookup_cons
def Zp:=@Bool.false_ne_true
def Zq:=@PySem.F.slot_dict_keyiterator_next
def Zr:=@Nat.lt_succ_of_lt
def Zs:=@List.getElem?_cons_succ
def Zt:=@PySem.Heap.size_push
def Zu:=@Bool.and_eq_true_iff
def Zv:=@Nat.lt_succ_self
def Zw:=@PySem.wpAny_field
def Zx:=@List.ext_getElem?
def Zy:=@List.length_replicate
def Zz:=@List.length_filter_le
def ZB:=@PySem.F.called_set
def ZC:=@List.length_eq_zero_iff
def ZD:=@if_true
def ZE:=@PySem.wpAny_mono
def ZF:=@PySem.Heap.get?_update_other
def ZG:=@PySem.SeqAt.canLay_of_shaped
def ZH:=@PySem.wpAny_seqItems
def ZI:=@List.replicate_succ
def ZJ:=@PySem.Heap.SameBut.update
def ZK:=@List.pairwise_iff_getElem
def ZL:=@congrArg
def ZM:=@PySem.Heap.get?_update_self
def ZN:=@List.length_drop
def ZO:=@Nat.lt_of_le_of_lt
def ZP:=@Nat.le_of_lt
def ZQ:=@List.getElem?_take_of_lt
def ZR:=@PySem.wpAny_typeNameOfWhole_keyiter
def ZS:=@List.getElem?_replicate
def ZU:=@decide_eq_true_eq
def ZV:=@PySem.wpAny_setState_of
def ZW:=@PySem.codeAny_builtin
def ZX:=@beq_eq_false_iff_ne
def ZY:=@PyProof.Rows.F.plain_set_update_loop
def ZZ:=@PyProof.Rows.callWith_type1
def Z0:=@beq_self_eq_true
def Z1:=@PySem.F.slot_tuple_iterator_next
def Z2:=@Array.getElem?_eq_some_iff
def Z3:=@List.getElem?_toArray
def Z4:=@PySem.wpAny_passesOwn
def Z5:=@List.append_nil
def Z6:=@List.length_nil
def Z7:=@Option.map_some
def Z8:=@List.length_zip
def Z9:=@PyProof.Rows.get?_update_seq
def Ja:=@PySem.wpAny_truthy_bool
def Jb:=@PySem.sizeLine_eq
def Jc:=@List.flatten_cons
def Jd:=@PySem.codeAny_call_builtin
def Je:=@PySem.Around.under_plainId
def Jf:=@List.pairwise_map
def Jg:=@Option.isSome_iff_exists
def Jh:=@beq_iff_eq
def Ji:=@PySem.wpAny_attempt
def Jj:=@Bool.not_true
def Jk:=@List.filterMap_cons_some
def Jl:=@List.filterMap_cons
def Jm:=@Int.toNat_of_nonneg
def Jn:=@List.mergeSort_perm
def Jo:=@List.mem_map_of_mem
def Jp:=@List.nodup_nil
def Jq:=@List.nodup_range
def Jr:=@PySem.W.cellsFrom_some
def Js:=@Nat.succ_pos
def Jt:=@List.take_of_length_le
def Ju:=@Array.getElem?_eq_none
def Jv:=@Int.natCast_nonneg
def Jw:=@PyProof.Rows.boot_list
def Jx:=@List.find?_cons
def Jy:=@PySem.builtinLookup_eq_fast
def Jz:=@List.append_assoc
def JA:=@PySem.F.typeOf_object_class
def JB:=@List.all_eq_true
def JC:=@PySem.wpAny_isInstance
def JD:=@List.take_length
def JE:=@decide_eq_decide
def JF:=@PySem.Calls.call_function_entry
def JG:=@PyProof.Rows.F.entry_set_update_loop
def JH:=@PySem.F.args_dict_keyiterator_next_1
def JI:=@PySem.F.args_tuple_add_2
def JJ:=@List.length_erase_of_mem
def JK:=@List.filterMap_cons_none
def JL:=@PySem.F.entry_dict_keyiterator_next
def JM:=@PySem.pushCells_keeps
def JN:=@List.range_succ
def JO:=@PySem.call_meets
def JP:=@PySem.Obj.data_mapFields
def JQ:=@List.zip_cons_cons
def JR:=@List.filter_append
def JS:=@PySem.F.entry_tuple_add
def JT:=@Nat.le_succ
def JU:=@Int.le_refl
def JV:=@List.pairwise_mergeSort
def JW:=@PySem.Value.isInt_shape
def JX:=@PySem.codeAny_mono
def JY:=@PySem.F.slot_tuple_add
def JZ:=@PySem.wpAny_typeOf
def J0:=@Nat.lt_trans
def J1:=@PySem.isSubtype_type
def J2:=@Int.toNat_natCast
def J4:=@or_false
def J5:=@Nat.zero_add
def J6:=@List.length_pos_of_mem
def J7:=@bne_self_eq_false
def J8:=@PySem.W.kdl_size
def J9:=@Nat.succ.inj
def Ya:=@List.flatten_replicate_singleton
def Yb:=@List.foldl_append
def Yc:=@List.filter_eq_nil_iff
def Yd:=@PySem.F.slot_dict_get
def Ye:=@List.take_append_drop
def Yf:=@List.getElem?_zipWith
def Yg:=@Bool.and_eq_true
def Yh:=@Nat.le_add_right
def Yi:=@PySem.wpAny_forIn_list
def Yj:=@PySem.F.slot_tuple_mul
def Yk:=@List.any_eq_true
def Yl:=@Array.mem_toList_iff
def Ym:=@Nat.exists_eq_succ_of_ne_zero
def Yn:=@List.mem_erase_of_ne
def Yo:=@List.mem_of_mem_take
def Yp:=@PySem.wpAny_execs_nil
def Yq:=@List.of_mem_zip
def Yr:=@PySem.F.slot_int_rmul
def Ys:=@PySem.typeLookup_type
def Yt:=@PySem.F.args_tuple_iterator_next_1
def Yu:=@PySem.F.slot_zip_next
def Yv:=@Nat.lt_succ_iff
def Yw:=@List.set_append
def Yx:=@PySem.F.slot_gs_get
def Yy:=@List.length_pos_iff
def Yz:=@List.map_eq_nil_iff
def YA:=@Nat.ne_of_gt
def YB:=@PySem.F.entry_tuple_iterator_next
def YC:=@List.idxOf_lt_length_of_mem
def YD:=@PySem.Calls.Name_function_global
def YE:=@List.mem_filterMap
def YF:=@PySem.Calls.spliced_cons
def YG:=@PySem.wpAny_Call_Name_kw
def YH:=@PySem.tupleKind_room_in1
def YI:=@PySem.Code.quiet_builtin
def YJ:=@PySem.F.excAttr_ValueError
def YK:=@PySem.wpAny_pyIter_tuple
def YL:=@List.getElem?_take_eq_none
def YM:=@PySem.wpAny_setField
def YN:=@PySem.isSubtype_stop
def YO:=@PySem.wpAny_fieldsOf
def YQ:=@Array.perm_iff_toList_perm
def YR:=@List.Perm.refl
def YS:=@Int.emod_lt_of_pos
def YT:=@PySem.wpAny_binaryOp_repeat_ref
def YU:=@List.getElem?_zip_eq_some
def YV:=@List.drop_eq_getElem_cons
def YW:=@List.ne_nil_of_length_pos
def YX:=@Classical.byContradiction
def YY:=@PySem.W.kitx_list
def YZ:=@PySem.wpAny_pyIter_list
def Y0:=@Array.getElem_mem
def Y1:=@PySem.wpAny_pyIter_slot
def Y2:=@PySem.wpAny_dictEntries
def Y3:=@Function.comp_def
def Y4:=@List.take_add_one
def Y5:=@List.filter_congr
def Y6:=@PySem.Paired.length
def Y7:=@List.any_cons
def Y8:=@PySem.F.slot_tuple_index
def Y9:=@PySem.wpAny_onRaise
def Va:=@Array.size_setIfInBounds
def Vb:=@Bool.true_and
def Vc:=@PySem.wpAny_newList
def Vd:=@Int.ofNat.inj
def Ve:=@PySem.wpAny_eqBool_int
def Vf:=@PySem.noFill_tuple_add
def Vg:=@Nat.succ_le_succ
def Vh:=@PySem.F.args_dict_get_3
def Vi:=@PySem.F.plainAttrs_dict
def Vj:=@PySem.F.plainAttrs_list
def Vk:=@PySem.wpAny_askSetting
def Vl:=@PySem.F.slot_dict_items
def Vm:=@List.getElem_zip
def Vo:=@PySem.concat_meets
def Vq:=@PySem.typeIs_int
def Vr:=@PySem.F.entry_dict_get
def Vs:=@PySem.wpAny_rule
def Vt:=@Nat.mod_lt
def Vu:=@List.pairwise_lt_range
def Vv:=@Int.le_trans
def Vw:=@PySem.F.slot_dict_iter
def Vx:=@List.foldl_cons
def Vy:=@PySem.wpAny_specialOf
def Vz:=@List.forIn_cons
def VA:=@Array.Perm.refl
def VB:=@PySem.wpAny_dictEpoch
def VC:=@List.filter_map
def VD:=@Int.emod_nonneg
def VE:=@PySem.F.plain_set_new
def VF:=@List.Perm.append_left
def VG:=@PySem.F.slot_set_iter
def VH:=@PyProof.Rows.boot_max
def VI:=@List.forIn_nil
def VJ:=@PySem.boot_len
def VL:=@List.range_eq_range'
def VM:=@PySem.wpAny_of_eq
def VN:=@List.length_eraseIdx
def VO:=@Bool.not_false
def VP:=@Array.getElem_of_mem
def VQ:=@dif_pos
def VR:=@List.filter_eq_self
def VS:=@Bool.and_true
def VT:=@Prod.ext
def VU:=@Nat.mul_comm
def VW:=@List.map_nil
def VX:=@Nat.succ_add
def VY:=@Nat.sub_self
def VZ:=@Nat.min_self
def V0:=@Int.le_total
def V1:=@Bool.or_true
def V2:=@Sum.inr.inj
def V3:=@List.map_id
namespace L2
open PySem PySem.Spec PyProof.Rows
variable {A:Around}{C a b dx it:Addr}{E:Value->Shared->Prop}{K:PySem.W.Frag}{M:Model}{N ps:List Str}{P:Program}{Q:Unit->Shared->Prop}{base h:Heap}{body:List Stmt}{c e tg:Expr}{es:List Expr}{f:Value->Value->Sem Value}{fp:List Addr}{g:Int->Int->Int}{i j n:Nat}{kindOf:Str->Option NameKind}{mA mg:Str->Option Value}{o:Obj}{op:CmpOp}{pins:List (Addr×Obj)}{qual x:Str}{s s':Shared}{sc scope:Scope}{u v:Value}{us:List Value}{w:World}
abbrev Key:=Sum Int Str
def y4r:Key->Value->Bool
 | .inl k,v=>Value.isInt k v
 | .inr x,v=>Value.isStrOf x v
def j47 (w:World):Key->Int
 | .inl k=>hashInt k
 | .inr x=>hashStr w x
theorem x1u:∀ {k:Key} {v:Value},y4r k v=true->(∃ i t,k=Sum.inl i/\v=Value.int i t)\/(∃ x t,k=Sum.inr x/\v=Value.str x t)
 | .inl i,v,h=>by
  obtain⟨t,e⟩:=JW (k:=i) (v:=v) h
  exact .inl ⟨i,t,rfl,e⟩
 | .inr x,v,h=>by
  obtain⟨t,e⟩:=Value.isStrOf_shape (x:=x) (v:=v) h
  exact .inr ⟨x,t,rfl,e⟩
theorem y9q(i:Int)(t:Tok):y4r (.inl i) (.int i t)=true:=by simp[y4r,Value.isInt]
theorem z03(x:Str)(t:Tok):y4r (.inr x) (.str x t)=true:=by simp[y4r,Value.isStrOf]
theorem j0r(a b:Int):decide ((Sum.inl a:Key)=Sum.inl b)=(a==b):=by
 by_cases e:a=b
 ·subst e;simp
 ·have h:¬ (Sum.inl a:Key)=Sum.inl b:=fun q=>e (Sum.inl.inj q)
  rw[QK h]
  exact(ZX.mpr e).symm
theorem j09(a b:Str):decide ((Sum.inr a:Key)=Sum.inr b)=decide (a=b):=by
 by_cases e:a=b
 ·subst e;simp
 ·have h:¬ (Sum.inr a:Key)=Sum.inr b:=fun q=>e (V2 q)
  rw[QK h,QK e]
theorem z8l(a:Int)(b:Str):decide ((Sum.inl a:Key)=Sum.inr b)=false:=QK (fun q=>nomatch q)
theorem z8z(a:Str)(b:Int):decide ((Sum.inr a:Key)=Sum.inl b)=false:=QK (fun q=>nomatch q)
def x1d (prog:Program)(w:World):PySem.KeyKind prog w Key where
 is:=y4r
 hash:=j47 w
 inj:=fun v a b ha hb=>by
  rcases x1u ha with⟨i,t,rfl,rfl⟩|⟨x,t,rfl,rfl⟩
  ·rcases x1u hb with⟨j,u,rfl,e⟩|⟨y,u,rfl,e⟩
   ·injection e with e1 _;rw[e1]
   ·exact nomatch e
  ·rcases x1u hb with⟨j,u,rfl,e⟩|⟨y,u,rfl,e⟩
   ·exact nomatch e
   ·injection e with e1 _;rw[e1]
 byValue:=fun k v h=>by
  rcases x1u h with⟨i,t,rfl,rfl⟩|⟨x,t,rfl,rfl⟩<;>rfl
 pyHash:=fun hv h=>by
  rcases x1u hv with⟨i,t,rfl,rfl⟩|⟨x,t,rfl,rfl⟩
  ·exact wpAny_pyHash_int h
  ·exact wpAny_pyHash_str h
 eqBool:=fun hu hv h=>by
  rcases x1u hu with⟨i,t,rfl,rfl⟩|⟨x,t,rfl,rfl⟩
  ·rcases x1u hv with⟨j,u,rfl,rfl⟩|⟨y,u,rfl,rfl⟩
   ·rw[j0r]at h;exact Ve h
   ·rw[z8l]at h;exact SeqAt.EqAt.int_str i t y u _ _ _ _ h
  ·rcases x1u hv with⟨j,u,rfl,rfl⟩|⟨y,u,rfl,rfl⟩
   ·rw[z8z]at h;exact SeqAt.EqAt.str_int x t j u _ _ _ _ h
   ·rw[j09]at h;exact wpAny_eqBool_str h
 «strs»:=fun k x t v h=>by
  rcases x1u h with⟨i,u,rfl,e⟩|⟨y,u,rfl,e⟩
  ·exact nomatch e
  ·injection e with e1 _
   subst e1
   cases v<;>rfl
theorem y7g(prog:Program)(w:World)(k:Key)(v:Value):(x1d prog w).is k v=y4r k v:=rfl
theorem y47(prog:Program)(w:World)(i:Int)(t:Tok):(x1d prog w).is (.inl i) (.int i t)=true:=y9q i t
theorem y49(prog:Program)(w:World)(x:Str)(t:Tok):(x1d prog w).is (.inr x) (.str x t)=true:=z03 x t
inductive V where
 | non|bl (b:Bool)|int (i:Int)|str (x:Str)|byt (b:Array UInt8)|flt (b:UInt64)|ref (a:Addr)|ty (n:String)
 deriving DecidableEq
def x2p:V->Value->Prop
 | .non,u=>u=Value.none
 | .bl b,u=>u=Value.bool b
 | .int i,u=>∃ t,u=Value.int i t
 | .str x,u=>∃ t,u=Value.str x t
 | .byt b,u=>∃ t,u=Value.bytes b t
 | .flt b,u=>∃ t,u=Value.float b t
 | .ref a,u=>u=Value.ref a
 | .ty n,u=>u=Value.type n
abbrev x1w:List V->List Value->Prop:=Paired x2p
theorem x1w.length{xs:List V}(r:x1w xs us):xs.length=us.length:=Y6 r
theorem x1w.get:∀ {xs:List V} {us:List Value} {i:Nat} {x:V},x1w xs us->xs[i]? = some x->∃ u,us[i]? = some u/\x2p x u
 | _,_,_,_,.nil,e=>by simp at e
 | _,_,0,_,.cons r _,e=>by simp at e;subst e;exact⟨_,rfl,r⟩
 | _,_,i+1,x,.cons _ t,e=>by
  obtain⟨u,h1,h2⟩:=x1w.get (i:=i) (x:=x) t (by simpa using e)
  exact⟨u,by simpa using h1,h2⟩
theorem x1w.set{x:V}(r:x2p x u):∀ {xs:List V} {us:List Value} (i:Nat),x1w xs us->x1w (xs.set i x) (us.set i u)
 | _,_,_,.nil=>.nil
 | _,_,0,.cons _ t=>.cons r t
 | _,_,i+1,.cons q t=>.cons q (x1w.set r i t)
theorem x1w.append:∀ {xs ys:List V} {us ws:List Value},x1w xs us->x1w ys ws->x1w (xs++ys) (us++ws)
 | _,_,_,_,.nil,s=>s
 | _,_,_,_,.cons r t,s=>.cons r (x1w.append t s)
theorem x1w.take:∀ {xs:List V} {us:List Value} (n:Nat),x1w xs us->x1w (xs.take n) (us.take n)
 | _,_,0,_=>.nil
 | _,_,_+1,.nil=>.nil
 | _,_,n+1,.cons r t=>.cons r (x1w.take n t)
theorem x1w.drop:∀ {xs:List V} {us:List Value} (n:Nat),x1w xs us->x1w (xs.drop n) (us.drop n)
 | _,_,0,r=>r
 | _,_,_+1,.nil=>.nil
 | _,_,n+1,.cons _ t=>x1w.drop n t
def y7f:Option V->Option Value->Prop
 | some v,some u=>x2p v u
 | none,none=>True
 | _,_=>False
def KV {κ:Type}:List (κ×V)->List (κ×Value)->Prop:=Paired fun(p:κ×V) (q:κ×Value)=>p.1=q.1/\x2p p.2 q.2
def kV:Key->V
 | .inl i=>.int i
 | .inr x=>.str x
inductive HO where
 /-- a list -/
 | lst (xs:List V)
 /-- a tuple (never changes) -/
 | tup (xs:List V)
 /-- a dict whose keys are ints and texts;one whose keys are tuples of ints and texts (the empty one is both) -/
 | dK (kvs:List (Key×V))|dT (kvs:List (List Key×V))
 /-- a set of ints: its members,its size -/
 | set (S:Int->Bool) (n:Nat)
 /-- an instance of the class at C,its dict at dx,its attributes -/
 | ins (C dx:Addr) (fs:List (Str×V))
 /-- the dict of the instance at x -/
 | own (x:Addr)
 /-- the dict of an exception -/
 | xd (fs:List (Str×V))
 /-- a bound method,f of x -/
 | met (f x:Addr)
 /-- a range object lo,lo+1,.. below hi -/
 | rng (lo hi:Int)
 /-- a thing that is known to the object (the script;a dict while a loop walks it): read,never written while it is so -/
 | frz (o:Obj) (u:HO)
 /-- a code object's table -/
 | tbl (ps:Array Value)
 /-- any other thing,by what is true of its one object (a def of one's own: SetO a S n:=HO.ext fun h=>..) -/
 | ext (φ:Heap->Prop)
abbrev Hp:=Addr->Option HO
def upd (H:Hp)(a:Addr)(o:HO):Hp:=fun b=>if b=a then some o else H b
theorem x0y{H:Hp}{o:HO}:upd H a o a=some o:=by unfold upd;rw[Qj rfl]
theorem x0e{H:Hp}{o:HO}(h:b≠a):upd H a o b=H b:=by unfold upd;rw[Qk h]
theorem z5d{H:Hp}{o u:HO}:upd (upd H a o) a u=upd H a u:=by
 funext b;unfold upd;split<;>rfl
theorem j2s{H:Hp}{o u:HO}(h:H a=some o)(h':H b=some u)(d:o≠u):a≠b:=by
 intro e;subst e;rw[h]at h';exact d (QC h')
theorem x0r{H:Hp}{o:HO}(h:H a=some o)(h':H b=none):a≠b:=by
 intro e;subst e;rw[h]at h';cases h'
def x4e (h:Heap)(a:Addr)(items:Array Value):Prop:=∃ o,h.get? a=some o/\o.cls=.type "tuple" /\ (∃ n,o.data=.seq items n)/\o.dict=none
theorem x4e.tup{h:Heap}{a:Addr}{items:Array Value}(x:x4e h a items):IsTup h a items:=let ⟨o,e,c,n,_⟩:=x;⟨o,e,c,n⟩
theorem x4e.new(h:Heap)(items:Array Value):x4e (h.push { cls:=.type "tuple",data:=.seq items }) h.objs.size items:=⟨_,Qo _ rfl,rfl,⟨_,rfl⟩,rfl⟩
theorem x4e.lt{items:Array Value}(x:x4e h a items):a<h.objs.size:=let ⟨_,e,_⟩:=x;Qm e
section
variable (P:Program)(w:World)
def x1q (H:Hp)(h:Heap)(a:Addr):HO->Prop
 | .lst xs=>xs.length<=sizeLine/\∃ (its:List Value) (n:Nat),x1w xs its/\h.get? a=some { cls:=.type "list",data:=.seq its.toArray n }
 | .tup xs=>xs.length<=sizeLine/\∃ its:List Value,x1w xs its/\x4e h a its.toArray
 | .dK kvs=>kvs.length<=sizeLine/\(a==sysModules)=false/\∃ vs,KV kvs vs/\h.DictOf (x1d P w) a vs
 | .dT kvs=>kvs.length<=sizeLine/\(a==sysModules)=false/\∃ xs:List (List Key×Addr×Value),
   Paired (fun(p:List Key×V) (q:List Key×Addr×Value)=>p.1=q.1/\H q.2.1=some (.tup (p.1.map kV))/\x2p p.2 q.2.2) kvs xs /\
   ∃ o es ep,h.get? a=some o/\o.ExactDict/\o.data=.dict es ep/\es.toList=xs.map (entryOfKey (tupleKind (x1d P w)))/\(xs.map (·.1)).Nodup
 | .set S n=>h.SetOf (intKind P w) a S n
 | .ins C dx fs=>H dx=some (.own a)/\fs.length<=1000/\dx≠a/\h.get? a=some (PySem.W.instObj C dx) /\
   ∃ mA,h.Ns1 dx mA/\(∀ f,y7f (fs.lookup f) (mA f))/\PySem.Within mA (fs.map (·.1))
 | .own _=>∃ o,h.get? a=some o
 | .xd fs=>∃ mA,h.Ns1 a mA/\∀ f,y7f (fs.lookup f) (mA f)
 | .rng lo hi=>∃ t u v,h.get? a=some { cls:=.type "range",data:=.fields #[.int lo t,.int hi u,.int 1 v] }
 | .frz o u=>h.get? a=some o/\x1q H h a u
 | .tbl ps=>h.get? a=some { cls:=.none,data:=.fields ps }
 | .met f x=>h.get? a=some (PySem.W.methodObj (.ref f) (.ref x))
 | .ext φ=>φ h/\(∃ o,h.get? a=some o)/\∀ h1 h2:Heap,φ h1->(∀ o,h1.get? a=some o->h2.get? a=some o)->φ h2
def HOk (H:Hp)(h:Heap):Prop:=∀ a o,H a=some o->x1q P w H h a o
end
section
variable {P:Program}{w:World}{H H':Hp}{h h':Heap}{a:Addr}{o:HO}
theorem x1q.lt(x:x1q P w H h a o):a<h.objs.size:=by
 cases o with
 | lst xs=>obtain⟨_,_,_,_,e⟩:=x;exact Qm e
 | tup xs=>obtain⟨_,_,_,p⟩:=x;exact p.lt
 | dK kvs=>obtain⟨_,_,_,_,o,_,_,e,_⟩:=x;exact Qm e
 | dT kvs=>obtain⟨_,_,_,_,o,_,_,e,_⟩:=x;exact Qm e
 | set S n=>obtain⟨o,_,_,_,e,_⟩:=x;exact Qm e
 | ins C dx fs=>obtain⟨_,_,_,e,_⟩:=x;exact Qm e
 | own y=>obtain⟨_,e⟩:=x;exact Qm e
 | xd fs=>obtain⟨_,⟨_,_,_,e,_⟩,_⟩:=x;exact Qm e
 | rng lo hi=>obtain⟨_,_,_,e⟩:=x;exact Qm e
 | frz ob u=>obtain⟨e,_⟩:=x;exact Qm e
 | tbl ps=>exact Qm (show h.get? a=some _ from x)
 | met f y=>exact Qm (show h.get? a=some _ from x)
 | ext φ=>obtain⟨_,⟨_,e⟩,_⟩:=x;exact Qm e
theorem Paired.mapP{α β:Type}{F G:α->β->Prop}:∀ {l₁:List α} {l₂:List β},Paired F l₁ l₂->(∀ a b,F a b->G a b)->Paired G l₁ l₂
 | _,_,.nil,_=>.nil
 | _,_,.cons r t,f=>.cons (f _ _ r) (Paired.mapP t f)
theorem x1q.stay(x:x1q P w H h a o)(k:∀ b u,(b=a\/H b=some (.own a))->h.get? b=some u->h'.get? b=some u)
  (ho:∀ b,H b=some (.own a)->H' b=some (.own a)) (ht:∀ b xs,H b=some (.tup xs)->H' b=some (.tup xs)):x1q P w H' h' a o:=by
 induction o with
 | lst xs=>obtain⟨z,its,n,r,e⟩:=x;exact⟨z,its,n,r,k _ _ (.inl rfl) e⟩
 | tup xs=>obtain⟨z,its,r,ob,e,c⟩:=x;exact⟨z,its,r,ob,k _ _ (.inl rfl) e,c⟩
 | dK kvs=>obtain⟨z,y,vs,r,ob,es,ep,e,c⟩:=x;exact⟨z,y,vs,r,ob,es,ep,k _ _ (.inl rfl) e,c⟩
 | dT kvs=>
  obtain⟨z,y,xs,r,ob,es,ep,e,c⟩:=x
  exact⟨z,y,xs,Paired.mapP r fun p q z=>⟨z.1,ht _ _ z.2.1,z.2.2⟩,ob,es,ep,k _ _ (.inl rfl) e,c⟩
 | set S n=>obtain⟨ob,es,ep,t,e,c⟩:=x;exact⟨ob,es,ep,t,k _ _ (.inl rfl) e,c⟩
 | ins C dx fs=>
  obtain⟨d,z,ne,e,mA,⟨od,es,ep,e2,c⟩,r⟩:=x
  exact⟨ho _ d,z,ne,k _ _ (.inl rfl) e,mA,⟨od,es,ep,k _ _ (.inr d) e2,c⟩,r⟩
 | own y=>obtain⟨ob,e⟩:=x;exact⟨ob,k _ _ (.inl rfl) e⟩
 | xd fs=>obtain⟨mA,⟨od,es,ep,e,c⟩,r⟩:=x;exact⟨mA,⟨od,es,ep,k _ _ (.inl rfl) e,c⟩,r⟩
 | rng lo hi=>obtain⟨t,u,v,e⟩:=x;exact⟨t,u,v,k _ _ (.inl rfl) e⟩
 | frz ob u ih=>obtain⟨e,q⟩:=x;exact⟨k _ _ (.inl rfl) e,ih q⟩
 | tbl ps=>
  have e:h.get? a=some { cls:=.none,data:=.fields ps }:=x
  show h'.get? a=some { cls:=.none,data:=.fields ps }
  exact k a _ (.inl rfl) e
 | met f y=>
  have e:h.get? a=some (PySem.W.methodObj (.ref f) (.ref y)):=x
  show h'.get? a=some (PySem.W.methodObj (.ref f) (.ref y))
  exact k a _ (.inl rfl) e
 | ext φ=>obtain⟨p,⟨o,e⟩,st⟩:=x;exact⟨st _ _ p fun o q=>k _ _ (.inl rfl) q,⟨o,k _ _ (.inl rfl) e⟩,st⟩
theorem HOk.lt(x:HOk P w H h)(e:H a=some o):a<h.objs.size:=(x a o e).lt
theorem HOk.fresh(x:HOk P w H h)(e:h.objs.size<=a):H a=none:=by
 cases q:H a with
 | none=>rfl
 | some u=>exact absurd (Qv (x.lt q) e) (QL _)
theorem HOk.kept(x:HOk P w H h)(k:∀ b u,h.get? b=some u->h'.get? b=some u):HOk P w H h':=fun a o e=>
 (x a o e).stay (fun b u _ q=>k b u q) (fun _ q=>q) fun _ _ q=>q
theorem HOk.laid(x:HOk P w H h)(k:∀ b u,h.get? b=some u->h'.get? b=some u)(hp:h.objs.size<=a)(new:x1q P w (upd H a o) h' a o):HOk P w (upd H a o) h':=fun b u e=>by
 have hn:=x.fresh hp
 by_cases hb:b=a
 ·subst hb;rw[x0y]at e;cases e;exact new
 ·rw[x0e hb]at e
  exact(x b u e).stay (fun c v _ q=>k c v q) (fun c q=>by rw[x0e (x0r q hn)];exact q) fun c xs q=>by rw[x0e (x0r q hn)];exact q
end
def Rd (H:Hp)(a:Addr)(u:HO):Prop:=H a=some u\/∃ o,H a=some (.frz o u)
theorem Rd.of{H:Hp}{u:HO}(h:H a=some u):Rd H a u:=.inl h
theorem Rd.ok{H:Hp}{u:HO}(r:Rd H a u)(x:HOk P w H h):x1q P w H h a u:=by
 rcases r with r|⟨o,r⟩
 ·exact x a u r
 ·obtain⟨_,q⟩:=x a _ r
  exact q
def Mut:Option HO->Prop
 | some (.lst _)=>True
 | some (.dK _)=>True
 | some (.dT _)=>True
 | some (.set _ _)=>True
 | some (.ins _ _ _)=>True
 | some (.ext _)=>True
 | _=>False
section
variable {P:Program}{w:World}{H:Hp}{h h':Heap}{x e:Addr}{o':HO}
theorem HOk.write(ok:HOk P w H h)(mu:Mut (H x))(he:e=x\/H e=some (.own x))(k:∀ b u,b≠e->h.get? b=some u->h'.get? b=some u)(heo:∃ u,h'.get? e=some u)
  (new:x1q P w (upd H x o') h' x o'):HOk P w (upd H x o') h':=fun b u q=>by
 have nown:∀ c y,H c=some (.own y)->c≠x:=fun c y r z=>by subst z;rw[r]at mu;exact mu
 have ntup:∀ c xs,H c=some (.tup xs)->c≠x:=fun c xs r z=>by subst z;rw[r]at mu;exact mu
 by_cases hb:b=x
 ·subst hb;rw[x0y]at q;cases q;exact new
 ·rw[x0e hb]at q
  by_cases hbe:b=e
  ·have q':H b=some (.own x):=by
    rcases he with z|z
    ·exact absurd (hbe.trans z) hb
    ·rw[hbe];exact z
   rw[q]at q';cases q'
   obtain⟨v,hv⟩:=heo
   exact⟨v,by rw[hbe];exact hv⟩
  ·refine(ok b u q).stay (fun c v hc r=>k c v ?_ r) (fun c r=>by rw[x0e (nown c b r)];exact r) fun c xs r=>by rw[x0e (ntup c xs r)];exact r
   rcases hc with rfl|hc
   ·exact hbe
   ·rintro rfl
    rcases he with z|z
    ·exact nown c b hc z
    ·rw[hc]at z;cases z;exact hb rfl
end
structure Un (fs ex:List Addr) (H H':Hp) (h h':Heap):Prop where
 keep:∀ b o,h.get? b=some o->H b=none->b ∉ fs->b ∉ ex->h'.get? b=some o
 slot:∀ b o,h.get? b=some o->H b=none->b∈fs->b ∉ ex->∃ sl,h'.get? b=some { o with slots:=sl }
 free:∀ b o,h.get? b=some o->H b=none->b ∉ ex->H' b=none
 there:∀ b o,h.get? b=some o->b ∉ ex->∃ o',h'.get? b=some o'
 tups:∀ b xs,H b=some (.tup xs)->H' b=some (.tup xs)
 frzs:∀ b o u,H b=some (.frz o u)->H' b=some (.frz o u)
 tbls:∀ b ps,H b=some (.tbl ps)->∃ more,H' b=some (.tbl (ps++more))
section
variable {fs fs' ex ex':List Addr}{H H1 H2:Hp}{h h1 h2 h':Heap}{a x e:Addr}{o:HO}
theorem Un.any(u:Un fs ex H H1 h h1){ob:Obj}(q:h.get? b=some ob)(n:H b=none)(hx:b ∉ ex):∃ sl,h1.get? b=some { ob with slots:=sl }:=by
 by_cases hb:b∈fs
 ·exact u.slot b ob q n hb hx
 ·exact⟨ob.slots,u.keep b ob q n hb hx⟩
theorem Un.kept(k:∀ b u,h.get? b=some u->h'.get? b=some u):Un fs ex H H h h':=
 ⟨fun b ob q _ _ _=>k b ob q,fun b ob q _ _ _=>⟨ob.slots,k b ob q⟩,fun _ _ _ n _=>n,fun b ob q _=>⟨ob,k b ob q⟩,fun _ _ q=>q,fun _ _ _ q=>q,fun _ ps q=>⟨#[],by rw[q];simp⟩⟩
theorem Un.refl:Un fs ex H H h h:=Un.kept fun _ _ q=>q
theorem Un.laid(k:∀ b u,h.get? b=some u->h'.get? b=some u)(hp:h.objs.size<=a)(hn:H a=none):Un fs ex H (upd H a o) h h' where
 keep:=fun b u q _ _ _=>k b u q
 slot:=fun b u q _ _ _=>⟨u.slots,k b u q⟩
 free:=fun b u q n _=>by rw[x0e (QM (Qv (Qm q) hp))];exact n
 there:=fun b u q _=>⟨u,k b u q⟩
 tups:=fun b xs q=>by rw[x0e (x0r q hn)];exact q
 frzs:=fun b u xs q=>by rw[x0e (x0r q hn)];exact q
 tbls:=fun b ps q=>⟨#[],by rw[x0e (x0r q hn),q];simp⟩
theorem Un.write(mu:Mut (H x))(he:e=x\/H e=some (.own x))(k:∀ b u,b≠e->h.get? b=some u->h'.get? b=some u)(heo:∃ u,h'.get? e=some u):Un fs ex H (upd H x o) h h':=by
 have hx:∀ b,H b=none->b≠x:=fun b n z=>by subst z;rw[n]at mu;exact mu
 have hb:∀ b,H b=none->b≠e:=fun b n z=>by
  subst z
  rcases he with r|r
  ·exact hx b n r
  ·rw[n]at r;cases r
 have hm:∀ b u,H b=some u->¬ Mut (some u)->b≠x:=fun b u q nm z=>by subst z;rw[q]at mu;exact nm mu
 refine⟨fun b u q n _ _=>k b u (hb b n) q,fun b u q n _ _=>⟨u.slots,k b u (hb b n) q⟩,fun b u q n _=>by rw[x0e (hx b n)];exact n,fun b u q _=>?_,
  fun b xs q=>by rw[x0e (hm b _ q fun z=>z)];exact q,fun b u xs q=>by rw[x0e (hm b _ q fun z=>z)];exact q,fun b ps q=>⟨#[],by rw[x0e (hm b _ q fun z=>z),q];simp⟩⟩
 by_cases hbe:b=e
 ·subst hbe;exact heo
 ·exact⟨u,k b u hbe q⟩
end
def trk (h:Heap)(H:Hp):List Addr:=(List.range h.objs.size).filter fun a=>(H a).isSome
def z16 (h:Heap)(H:Hp):Heap:=PySem.W.hideAll h (trk h H)
theorem y9o(h:Heap)(H:Hp):(z16 h H).objs.size=h.objs.size:=PySem.W.hideAll_size _ _
theorem z23{H:Hp}(e:h.get? b=some o)(n:H b=none):(z16 h H).get? b=some o:=
 PySem.W.hideAll_get _ e fun hm=>by
  have q:(H b).isSome=true:=(Zd.mp hm).2
  rw[n]at q;simp at q
theorem z6r{H:Hp}(e:(z16 h H).get? b=some o):h.get? b=some o/\H b=none:=by
 have e':h.get? b=some o:=PySem.W.of_hideAll (trk h H) e
 refine⟨e',?_⟩
 cases q:H b with
 | none=>rfl
 | some x=>
  have hm:b∈trk h H:=Zd.mpr ⟨QA.mpr (Qm e'),by simp[q]⟩
  have z:(z16 h H).get? b=none:=PySem.W.hideAll_none (trk h H) hm
  rw[z]at e;cases e
def z65 (g h:Heap)(L:Addr):List (Addr×Obj):=(List.range h.objs.size).filterMap fun a=>if a=L\/(g.get? a).isSome=true then none else(h.get? a).map fun o=>(a,o)
def x2o (g h:Heap)(L d:Addr):List (Addr×Obj):=(z65 g h L).filter fun p=>decide (p.1≠d)
structure Mod (K:PySem.W.Frag) (mg:Str->Option Value) (base:Heap):Prop where
 kin:K.In base
 glob:base.Ns mainGlobals mg
 blt:∃ mb,base.Ns builtinsNs mb/\∀ x:Str,x ≠ "__name__"->mb x=bootBuiltins x
 nolimit:base.NoLimit
structure Cx where
 prog:Program
 w:World
 K:PySem.W.Frag
 mg:Str->Option Value
 base:Heap
 A:Around
 N:List Str
 s₀:Shared
 H₀:Hp
 env:Env
 outer:List Env
 stack:List Env
 ex:List Addr
 fn:Str->Bool
 calm:Bool
 pn:List (Addr×Obj)
 xe:Value->Shared->Prop
def frs (l:List Env):List Addr:=l.filterMap (·.frame)
abbrev Cx.fs (X:Cx):List Addr:=frs X.outer
def Vis (sc:Scope)(x:Str):Prop:=sc.names.lookup x=some .local\/sc.names.lookup x=some .cell\/sc.names.lookup x=some .free
def Loc (sc:Scope)(x:Str):Prop:=sc.names.lookup x=some .local\/sc.names.lookup x=some .cell
def j44 (env:Env)(h:Heap)(m:Str->Option Value)(x:Str)(u:Value):Prop:=
 (env.kindOf x=some .local/\m x=some u)\/((env.kindOf x=some .cell\/env.kindOf x=some .free)/\∃ c,env.cells.lookup x=some c/\h.IsCell c (some u))
structure Cx.Ok (X:Cx):Prop where
 mod:Mod X.K X.mg X.base
 kind:X.env.scope.kind=.function
 glob:X.env.globals=mainGlobals
 blt:X.env.builtins=builtinsNs
 above:X.s₀.heap.objs.size<=X.env.locals
 inj:∀ x y c,X.env.cells.lookup x=some c->X.env.cells.lookup y=some c->x=y
 has:∀ x,(X.env.kindOf x=some .cell\/X.env.kindOf x=some .free)->∃ c,X.env.cells.lookup x=some c
 cab:∀ x c,X.fn x=true->X.env.cells.lookup x=some c->X.s₀.heap.objs.size<=c
 hd:X.calm=true->X.A.handled=none
 frames:X.A.frames=some X.stack
 stk:X.stack=X.outer\/(X.stack=X.env::X.outer/\X.env.frame=some X.env.locals)
 exf:∀ b∈X.ex,b≠X.env.locals/\∀ x c,X.env.cells.lookup x=some c->c≠b
 bs:∀ b o,X.base.get? b=some o->X.s₀.heap.get? b=some o/\X.H₀ b=none
 bsz:X.base.objs.size<=X.s₀.heap.objs.size
 noex:∀ b o,X.base.get? b=some o->b ∉ X.ex
 exfs:∀ b∈X.ex,b ∉ X.fs
 funs:X.s₀.heap.FunFrames X.base X.outer
 frf:∀ b∈X.fs,X.H₀ b=none
structure Inv (X:Cx) (pins:List (Addr×Obj)) (σ:List (Option V)) (H:Hp) (s:Shared):Prop where
 ok:X.Ok
 os:s.os=X.s₀.os
 bare:AllBare s.gens
 base:Un X.fs X.ex X.H₀ H X.s₀.heap s.heap
 loc:∃ m,s.heap.Ns X.env.locals m/\∀ (i:Nat) (x:Str) (v:V),X.N[i]? = some x->σ[i]? = some (some v)->Vis X.env.scope x->∃ u,x2p v u/\j44 X.env s.heap m x u
 cell:∀ x c,X.env.cells.lookup x=some c->∃ v,s.heap.IsCell c v
 free:H X.env.locals=none
 freeC:∀ x c,X.env.cells.lookup x=some c->H c=none
 pin:∀ p∈X.pn++pins,s.heap.get? p.1=some p.2/\H p.1=none/\p.1≠X.env.locals/\p.1 ∉ X.fs/\∀ v,p.2.data ≠ .cell v
 hok:HOk X.prog X.w H s.heap
 len:σ.length=X.N.length
section
variable {X:Cx}{pins:List (Addr×Obj)}{σ:List (Option V)}{H H':Hp}{s:Shared}{h':Heap}
theorem Cx.Ok.nofr(ok:X.Ok)(e:X.base.get? b=some o):b ∉ X.fs:=fun hb=>by
 have:=(ok.funs.mem hb).1
 rw[e]at this;cases this
theorem Inv.bs(I:Inv X pins σ H s):∀ b o,X.base.get? b=some o->s.heap.get? b=some o/\H b=none:=fun b o e=>
 ⟨I.base.keep b o (I.ok.bs b o e).1 (I.ok.bs b o e).2 (I.ok.nofr e) (I.ok.noex b o e),I.base.free b o (I.ok.bs b o e).1 (I.ok.bs b o e).2 (I.ok.noex b o e)⟩
theorem Inv.bk(I:Inv X pins σ H s):∀ b o,X.base.get? b=some o->s.heap.get? b=some o:=fun b o e=>(I.bs b o e).1
theorem Inv.mod(I:Inv X pins σ H s):Mod X.K X.mg X.base:=I.ok.mod
theorem Inv.kIn(I:Inv X pins σ H s):X.K.In s.heap:=I.ok.mod.kin.keeps I.bk
theorem Inv.fr(I:Inv X pins σ H s):∃ m,Fr X.base X.env.locals s.heap m:=
 let ⟨m,hn,_⟩:=I.loc
 ⟨m,hn,I.bk,QU I.ok.bsz I.ok.above⟩
theorem Inv.lt(I:Inv X pins σ H s):X.env.locals<s.heap.objs.size:=let ⟨_,hn,_⟩:=I.loc;hn.lt
theorem Inv.sz(I:Inv X pins σ H s):X.s₀.heap.objs.size<=s.heap.objs.size:=QU I.ok.above (ZP I.lt)
theorem Inv.nofs(I:Inv X pins σ H s)(h:s.heap.objs.size<=a):a ∉ X.fs:=fun hb=>by
 obtain⟨_,o,ho,_⟩:=I.ok.funs.mem hb
 exact absurd (Qv (Qm ho) (QU I.sz h)) (QL _)
theorem Inv.cne(I:Inv X pins σ H s):∀ x c,X.env.cells.lookup x=some c->c≠X.env.locals:=fun x c e z=>by
 obtain⟨v,o,ho,hd⟩:=I.cell x c e
 obtain⟨m,⟨o',es,ep,ho',hd',_⟩,_⟩:=I.loc
 rw[z,ho']at ho;cases ho;rw[hd']at hd;cases hd
theorem Inv.funs(I:Inv X pins σ H s):s.heap.FunFrames X.base X.outer:=by
 have all:∀ (l:List Env),(∀ b∈frs l,b∈X.fs)->X.s₀.heap.FunFrames X.base l->s.heap.FunFrames X.base l:=by
  intro l
  induction l with
  | nil=>intro _ _;trivial
  | cons env r ih=>
   intro hs hl
   obtain⟨hk,⟨L,o,hf,hn,ho,hd⟩,hr⟩:=hl
   have hL:L∈X.fs:=hs L (by unfold frs;rw[Jl,hf];exact Qf)
   obtain⟨sl,e⟩:=I.base.slot L o ho (I.ok.frf L hL) hL fun z=>I.ok.exfs L z hL
   exact⟨hk,⟨L,_,hf,hn,e,hd⟩,ih (fun b hb=>hs b (by unfold frs;rw[Jl,hf];exact Qe _ hb)) hr⟩
 exact all X.outer (fun _ hb=>hb) I.ok.funs
theorem Inv.stack(I:Inv X pins σ H s):s.heap.FunFrames X.base X.stack:=by
 rcases I.ok.stk with e|⟨e,hf⟩
 ·rw[e];exact I.funs
 ·rw[e]
  obtain⟨m,hn,_⟩:=I.loc
  refine .cons (by rw[I.ok.kind];decide) hf hn ?_ I.funs
  exact Heap.get?_none_of_le (QU I.ok.bsz I.ok.above)
theorem Inv.stkSub(I:Inv X pins σ H s):∀ b∈frs X.stack,b∈X.env.locals::X.fs:=fun b hb=>by
 rcases I.ok.stk with e|⟨e,hf⟩
 ·rw[e]at hb;exact Qe _ hb
 ·rw[e]at hb
  unfold frs at hb
  rw[Jl,hf]at hb
  exact hb
theorem Inv.stkFree(I:Inv X pins σ H s):∀ b∈frs X.stack,H b=none:=fun b hb=>by
 rcases Qq.mp (I.stkSub b hb)with e|hb
 ·rw[e];exact I.free
 ·obtain⟨_,o,ho,_⟩:=I.ok.funs.mem hb
  exact I.base.free b o ho (I.ok.frf b hb) fun z=>I.ok.exfs b z hb
theorem Inv.step{g':Array GenState}{t':Nat}{d':Drawn}{ch:List Addr}(I:Inv X pins σ H s)
  (hch:∀ b∈ch,(b∈X.ex\/X.s₀.heap.objs.size<=b)/\b≠X.env.locals/\(∀ x c,X.env.cells.lookup x=some c->c≠b)/\∀ p∈X.pn++pins,p.1≠b)
  (keep:∀ b o,b≠X.env.locals->b ∉ X.fs->b ∉ ch->s.heap.get? b=some o->H b=none->h'.get? b=some o)
  (slot:∀ b o,b≠X.env.locals->b∈X.fs->b ∉ ch->s.heap.get? b=some o->H b=none->∃ sl,h'.get? b=some { o with slots:=sl }) (free:∀ b o,b ∉ ch->s.heap.get? b=some o->H b=none->H' b=none)
  (there:∀ b o,b ∉ ch->s.heap.get? b=some o->∃ o',h'.get? b=some o')
  (tups:∀ b xs,H b=some (.tup xs)->H' b=some (.tup xs)) (frzs:∀ b o u,H b=some (.frz o u)->H' b=some (.frz o u)) (tbls:∀ b ps,H b=some (.tbl ps)->∃ more,H' b=some (.tbl (ps++more)))
  (ns:∀ m,s.heap.Ns X.env.locals m->h'.Ns X.env.locals m) (hok:HOk X.prog X.w H' h') (hg:AllBare g') :
  Inv X pins σ H' { s with heap:=h',gens:=g',drawn:=d',toks:=t' }:=by
 have neL:∀ b o,X.s₀.heap.get? b=some o->b≠X.env.locals:=fun b o e=>QM (Qv (Qm e) I.ok.above)
 have neC:∀ b o,X.s₀.heap.get? b=some o->b ∉ X.ex->b ∉ ch:=fun b o e hx hb=>by
  rcases(hch b hb).1 with z|z
  ·exact hx z
  ·exact absurd (Qv (Qm e) z) (QL _)
 have cellK:∀ x c,X.env.cells.lookup x=some c->∀ v,s.heap.IsCell c v->h'.IsCell c v:=fun x c e v hh0=>by
  obtain⟨o,ho,hd⟩:=hh0
  have nch:c ∉ ch:=fun z=>(hch c z).2.2.1 x c e rfl
  by_cases hc:c∈X.fs
  ·obtain⟨sl,q⟩:=slot c o (I.cne x c e) hc nch ho (I.freeC x c e)
   exact⟨_,q,hd⟩
  ·exact⟨o,keep c o (I.cne x c e) hc nch ho (I.freeC x c e),hd⟩
 refine⟨I.ok,I.os,hg,⟨fun b o e n hb hx=>?_,fun b o e n hb hx=>?_,fun b o e n hx=>?_,fun b o e hx=>?_,fun b xs e=>tups b xs (I.base.tups b xs e),fun b o xs e=>frzs b o xs (I.base.frzs b o xs e),fun b ps e=>?_⟩,?_,fun x c e=>?_,?_,fun x c e=>?_,fun p hp=>?_,hok,I.len⟩
 ·exact keep b o (neL b o e) hb (neC b o e hx) (I.base.keep b o e n hb hx) (I.base.free b o e n hx)
 ·obtain⟨sl,e1⟩:=I.base.slot b o e n hb hx
  obtain⟨sl',e2⟩:=slot b _ (neL b o e) hb (neC b o e hx) e1 (I.base.free b o e n hx)
  exact⟨sl',e2⟩
 ·obtain⟨o',e1⟩:=I.base.there b o e hx
  exact free b o' (neC b o e hx) e1 (I.base.free b o e n hx)
 ·obtain⟨o',e1⟩:=I.base.there b o e hx
  exact there b o' (neC b o e hx) e1
 ·obtain⟨m1,e1⟩:=I.base.tbls b ps e
  obtain⟨m2,e2⟩:=tbls b _ e1
  exact⟨m1++m2,by rw[e2,Array.append_assoc]⟩
 ·obtain⟨m,hn,hl⟩:=I.loc
  refine⟨m,ns m hn,fun i x v e1 e2 e3=>?_⟩
  obtain⟨u,r,l⟩:=hl i x v e1 e2 e3
  refine⟨u,r,?_⟩
  rcases l with l|⟨k,c,e,z⟩
  ·exact .inl l
  ·exact .inr ⟨k,c,e,cellK x c e _ z⟩
 ·obtain⟨v,z⟩:=I.cell x c e
  exact⟨v,cellK x c e v z⟩
 ·obtain⟨m,⟨o,_,_,ho,_⟩,_⟩:=I.loc
  exact free _ o (fun z=>(hch _ z).2.1 rfl) ho I.free
 ·obtain⟨v,o,ho,hd⟩:=I.cell x c e
  exact free c o (fun z=>(hch c z).2.2.1 x c e rfl) ho (I.freeC x c e)
 ·obtain⟨e,n,ne,nf,d⟩:=I.pin p hp
  have nch:p.1 ∉ ch:=fun z=>(hch p.1 z).2.2.2 p hp rfl
  exact⟨keep p.1 p.2 ne nf nch e n,free p.1 p.2 nch e n,ne,nf,d⟩
theorem Inv.un{t':Nat}(I:Inv X pins σ H s)(u:Un X.fs [] H H' s.heap h')(hok:HOk X.prog X.w H' h'):Inv X pins σ H' { s with heap:=h',toks:=t' }:=by
 obtain⟨m,⟨o,es,ep,ho,r⟩,_⟩:=id I.loc
 obtain⟨sl,hL⟩:=u.any ho I.free (by simp)
 exact I.step (g':=s.gens) (d':=s.drawn) (ch:=[]) (fun _ z=>nomatch z) (fun b o _ hb _ e n=>u.keep b o e n hb (by simp)) (fun b o _ hb _ e n=>u.slot b o e n hb (by simp)) (fun b o _ e n=>u.free b o e n (by simp)) (fun b o _ e=>u.there b o e (by simp)) u.tups u.frzs u.tbls (fun m' hm=>by
  obtain⟨o',es',ep',ho',r'⟩:=hm
  rw[ho]at ho';cases ho'
  exact⟨_,es',ep',hL,r'⟩) hok I.bare
theorem Inv.call{g':Array GenState}{t':Nat}{d':Drawn}{ch:List Addr}(I:Inv X pins σ H s)(u:Un (frs X.stack) ch H H' s.heap h')(hok:HOk X.prog X.w H' h')(hg:AllBare g')
  (hch:∀ b∈ch,(b∈X.ex\/X.s₀.heap.objs.size<=b)/\b≠X.env.locals/\(∀ x c,X.env.cells.lookup x=some c->c≠b)/\∀ p∈X.pn++pins,p.1≠b) :
  Inv X pins σ H' { s with heap:=h',gens:=g',drawn:=d',toks:=t' }:=by
 obtain⟨m,⟨o,es,ep,ho,r⟩,_⟩:=id I.loc
 obtain⟨sl,hL⟩:=u.any ho I.free fun z=>(hch _ z).2.1 rfl
 exact I.step (ch:=ch) hch (fun b o hL hb hc e n=>u.keep b o e n (fun z=>(Qq.mp (I.stkSub b z)).elim hL hb) hc) (fun b o _ _ hc e n=>u.any e n hc) (fun b o hc e n=>u.free b o e n hc) (fun b o hc e=>u.there b o e hc) u.tups u.frzs u.tbls (fun m' hm=>by
  obtain⟨o',es',ep',ho',r'⟩:=hm
  rw[ho]at ho';cases ho'
  exact⟨_,es',ep',hL,r'⟩) hok hg
theorem Inv.turned{t':Nat}(I:Inv X pins σ H s)(k:∀ b o,b≠it->s.heap.get? b=some o->h'.get? b=some o)(hn:H it=none)(hL:it≠X.env.locals)
  (h1:it∈X.ex\/X.s₀.heap.objs.size<=it) (h2:∀ x c,X.env.cells.lookup x=some c->c≠it) (h3:∀ p∈X.pn++pins,p.1≠it):Inv X pins σ H { s with heap:=h',toks:=t' }:=by
 have nit:∀ b u,H b=some u->b≠it:=fun b u e z=>by rw[z,hn]at e;cases e
 refine I.step (g':=s.gens) (d':=s.drawn) (ch:=[it]) (fun b hb=>?_) (fun b o _ _ hc e _=>k b o (fun z=>hc (by simp[z])) e) (fun b o _ _ hc e _=>⟨o.slots,k b o (fun z=>hc (by simp[z])) e⟩) (fun _ _ _ _ n=>n)
  (fun b o hc e=>⟨o,k b o (fun z=>hc (by simp[z])) e⟩) (fun _ _ e=>e) (fun _ _ _ e=>e) (fun b ps e=>⟨#[],by rw[e];simp⟩) (fun m hm=>?_) (fun b u e=>?_) I.bare
 ·have e:b=it:=by simpa using hb
  subst e
  exact⟨h1,hL,h2,h3⟩
 ·obtain⟨o,es,ep,ho,r⟩:=hm
  exact⟨o,es,ep,k _ o (Zi hL) ho,r⟩
 ·refine(I.hok b u e).stay (fun c v hc q=>k c v ?_ q) (fun _ q=>q) fun _ _ q=>q
  rcases hc with z|z
  ·rw[z];exact nit b u e
  ·exact nit c _ z
theorem Inv.tok(I:Inv X pins σ H s)(t:Nat):Inv X pins σ H { s with toks:=t }:=I.un (h':=s.heap) (t':=t) Un.refl I.hok
theorem Inv.kept{t':Nat}(I:Inv X pins σ H s)(k:∀ b u,s.heap.get? b=some u->h'.get? b=some u):Inv X pins σ H { s with heap:=h',toks:=t' }:=I.un (Un.kept k) (I.hok.kept k)
theorem Inv.laid{o:HO}{t':Nat}(I:Inv X pins σ H s)(k:∀ b u,s.heap.get? b=some u->h'.get? b=some u)(hp:s.heap.objs.size<=a)(new:x1q X.prog X.w (upd H a o) h' a o) :
  Inv X pins σ (upd H a o) { s with heap:=h',toks:=t' }:=I.un (Un.laid k hp (I.hok.fresh hp)) (I.hok.laid k hp new)
theorem Inv.write{x e:Addr}{o:HO}{t':Nat}(I:Inv X pins σ H s)(mu:Mut (H x))(he:e=x\/H e=some (.own x))(k:∀ b u,b≠e->s.heap.get? b=some u->h'.get? b=some u)(heo:∃ u,h'.get? e=some u)
  (new:x1q X.prog X.w (upd H x o) h' x o):Inv X pins σ (upd H x o) { s with heap:=h',toks:=t' }:=I.un (Un.write mu he k heo) (I.hok.write mu he k heo new)
theorem Inv.weak{σ':List (Option V)}(I:Inv X pins σ H s)(hl:σ'.length=σ.length)(w:∀ (i:Nat) v,σ'[i]? = some (some v)->σ[i]? = some (some v)):Inv X pins σ' H s:=
 ⟨I.ok,I.os,I.bare,I.base,let ⟨m,hn,hl'⟩:=I.loc;⟨m,hn,fun i x v e1 e2 e3=>hl' i x v e1 (w i v e2) e3⟩,I.cell,I.free,I.freeC,I.pin,I.hok,hl.trans I.len⟩
theorem Inv.pins_of{pins':List (Addr×Obj)}(I:Inv X pins σ H s)(h:∀ p∈pins',s.heap.get? p.1=some p.2/\H p.1=none/\p.1≠X.env.locals/\p.1 ∉ X.fs/\∀ v,p.2.data ≠ .cell v):Inv X pins' σ H s:=
 ⟨I.ok,I.os,I.bare,I.base,I.loc,I.cell,I.free,I.freeC,fun p hp=>(Q2.mp hp).elim (fun z=>I.pin p (Q9 _ z)) (h p),I.hok,I.len⟩
theorem y6g(hN:N.Nodup)(a:N[i]? = some x)(b:N[j]? = some x):i=j:=by
 obtain⟨h1,e1⟩:=QB.mp a
 obtain⟨h2,e2⟩:=QB.mp b
 exact(List.getElem_inj hN).mp (e1.trans e2.symm)
theorem y3l{M:Model}{A:Around}{E:Value->Shared->Prop}{v:V}(I:Inv X pins σ H s)(hN:X.N.Nodup)(hi:X.N[i]? = some x)(hx:Loc X.env.scope x)(r:x2p v u)
  (h:∀ s',Inv X pins (σ.set i (some v)) H s'->(∃ a,Heap.SameBut a s.heap s'.heap/\(a=X.env.locals\/X.env.cells.lookup x=some a))->Q () s') (hf:X.fn x=true\/X.env.scope.names.lookup x=some .local:=by first|exact .inl rfl|exact .inr rfl|assumption):wpAny M A (storeName X.env x u) Q E s:=by
 obtain⟨m,hn,hl⟩:=id I.loc
 have hcls:(X.env.scope.kind == .class||(X.env.scope.kind == .module&&X.env.locals != X.env.globals))=false:=by rw[I.ok.kind];rfl
 have hiσ:i<σ.length:=by rw[I.len];exact(QB.mp hi).1
 have cne:=I.cne
 have tracked:∀ {a:Addr} {h':Heap},(∃ o,s.heap.get? a=some o/\H a=none)->Heap.SameBut a s.heap h'->HOk X.prog X.w H h':=fun {a h'} ha hs b ob e=>by
  obtain⟨_,_,hfree⟩:=ha
  refine(I.hok b ob e).stay (fun c w' hc q=>(hs.2 c ?_).trans q) (fun _ q=>q) fun _ _ q=>q
  rintro rfl
  rcases hc with rfl|hc
  ·rw[hfree]at e;cases e
  ·rw[hfree]at hc;cases hc
 rcases hx with hk|hk
 ·refine wpAny_storeName_local hk hn (fun h' hn' hs=>?_) hcls
  obtain⟨oL,_,_,hoL,_⟩:=id hn
  refine h _ ⟨I.ok,I.os,I.bare,⟨fun b o e n hb hx=>?_,fun b o e n hb hx=>?_,I.base.free,fun b o e hx=>?_,I.base.tups,I.base.frzs,I.base.tbls⟩,⟨_,hn',fun j y v' e1 e2 e3=>?_⟩,fun y c e=>?_,I.free,I.freeC,fun p hp=>?_,tracked ⟨oL,hoL,I.free⟩ hs,by simpa using I.len⟩ ⟨_,hs,.inl rfl⟩
  ·exact(hs.2 b (QM (Qv (Qm e) I.ok.above))).trans (I.base.keep b o e n hb hx)
  ·obtain⟨sl,e1⟩:=I.base.slot b o e n hb hx
   exact⟨sl,(hs.2 b (QM (Qv (Qm e) I.ok.above))).trans e1⟩
  ·obtain⟨o',e1⟩:=I.base.there b o e hx
   exact⟨o',(hs.2 b (QM (Qv (Qm e) I.ok.above))).trans e1⟩
  ·by_cases hj:j=i
   ·subst hj
    rw[hi]at e1;cases e1
    rw[QX hiσ]at e2
    cases e2
    exact⟨u,r,.inl ⟨hk,by simp⟩⟩
   ·rw[QY (Zi hj)]at e2
    obtain⟨u',r',q⟩:=hl j y v' e1 e2 e3
    refine⟨u',r',?_⟩
    rcases q with⟨k,e⟩|⟨k,c,e,z⟩
    ·refine .inl ⟨k,?_⟩
     have:y≠x:=fun e=>hj (y6g hN e1 (e ▸ hi))
     simp[this,e]
    ·exact .inr ⟨k,c,e,z.sameBut hs (cne y c e)⟩
  ·obtain⟨w',z⟩:=I.cell y c e
   exact⟨w',z.sameBut hs (cne y c e)⟩
  ·obtain⟨e,n,ne,nf,d⟩:=I.pin p hp
   exact⟨(hs.2 p.1 ne).trans e,n,ne,nf,d⟩
 ·have hfn:X.fn x=true:=by
   rcases hf with z|z
   ·exact z
   ·rw[z]at hk;cases hk
  obtain⟨c,hc⟩:=I.ok.has x (.inl hk)
  obtain⟨w',z⟩:=I.cell x c hc
  refine wpAny_storeName_cell I.ok.kind hk hc z (fun h' hc' hs=>?_)
  obtain⟨oc,hoc,hocd⟩:=id z
  refine h { s with heap:=h' } ⟨I.ok,I.os,I.bare,⟨fun b o e n hb hx=>?_,fun b o e n hb hx=>?_,I.base.free,fun b o e hx=>?_,I.base.tups,I.base.frzs,I.base.tbls⟩,⟨m,hn.sameBut hs (Zi (cne x c hc)),fun j y v' e1 e2 e3=>?_⟩,fun y c' e=>?_,I.free,I.freeC,fun p hp=>?_,tracked ⟨oc,hoc,I.freeC x c hc⟩ hs,by simpa using I.len⟩ ⟨c,hs,.inr hc⟩
  ·exact(hs.2 b (QM (Qv (Qm e) (I.ok.cab x c hfn hc)))).trans (I.base.keep b o e n hb hx)
  ·obtain⟨sl,e1⟩:=I.base.slot b o e n hb hx
   exact⟨sl,(hs.2 b (QM (Qv (Qm e) (I.ok.cab x c hfn hc)))).trans e1⟩
  ·obtain⟨o',e1⟩:=I.base.there b o e hx
   exact⟨o',(hs.2 b (QM (Qv (Qm e) (I.ok.cab x c hfn hc)))).trans e1⟩
  ·by_cases hj:j=i
   ·subst hj
    rw[hi]at e1;cases e1
    rw[QX hiσ]at e2
    cases e2
    exact⟨u,r,.inr ⟨.inl hk,c,hc,hc'⟩⟩
   ·rw[QY (Zi hj)]at e2
    obtain⟨u',r',q⟩:=hl j y v' e1 e2 e3
    refine⟨u',r',?_⟩
    rcases q with q|⟨k,c',e,z'⟩
    ·exact .inl q
    ·refine .inr ⟨k,c',e,z'.sameBut hs ?_⟩
     rintro rfl
     exact hj (y6g hN e1 (I.ok.inj _ _ _ e hc ▸ hi))
  ·by_cases hcc:c'=c
   ·subst hcc;exact⟨_,hc'⟩
   ·obtain⟨w2,z2⟩:=I.cell y c' e
    exact⟨w2,z2.sameBut hs hcc⟩
  ·obtain⟨e,n,ne,nf,d⟩:=I.pin p hp
   refine⟨(hs.2 p.1 ?_).trans e,n,ne,nf,d⟩
   intro q
   rw[q,hoc]at e
   have q':oc=p.2:=QC e
   exact d w' (by rw[<- q'];exact hocd)
theorem y5y{M:Model}{A:Around}{E:Value->Shared->Prop}{v:V}(I:Inv X pins σ H s)(hN:X.N.Nodup)(hi:X.N[i]? = some x)(hx:Loc X.env.scope x)(r:x2p v u)
  (h:∀ s',Inv X pins (σ.set i (some v)) H s'->Q () s') (hf:X.fn x=true\/X.env.scope.names.lookup x=some .local:=by first|exact .inl rfl|exact .inr rfl|assumption):wpAny M A (storeName X.env x u) Q E s:=
 y3l I hN hi hx r (fun s' I' _=>h s' I') hf
theorem Inv.call'{ch:List Addr}(I:Inv X pins σ H s)(ho:s'.os=s.os)(u:Un (frs X.stack) ch H H' s.heap s'.heap)(hok:HOk X.prog X.w H' s'.heap)(hg:AllBare s'.gens)
  (hch:∀ b∈ch,(b∈X.ex\/X.s₀.heap.objs.size<=b)/\b≠X.env.locals/\(∀ x c,X.env.cells.lookup x=some c->c≠b)/\∀ p∈X.pn++pins,p.1≠b):Inv X pins σ H' s':=by
 obtain⟨h',g',d',t',o'⟩:=s'
 have e:o'=s.os:=ho
 subst e
 exact I.call (g':=g') (t':=t') (d':=d') u hok hg hch
end
abbrev XK:=Value->Option Addr->Hp->Prop
abbrev St:=List (Option V)
abbrev VK:=V->Hp->Prop
abbrev TE:=St->Hp->VK->Prop
abbrev TT:=St->Hp->(Bool->Hp->Prop)->Prop
abbrev TA:=St->Hp->(List V->Hp->Prop)->Prop
structure Ends where
 nx:St->Hp->Prop
 rt:VK
 bk:St->Hp->Prop:=fun _ _=>False
 ct:St->Hp->Prop:=fun _ _=>False
abbrev TS:=Ends->St->Hp->Prop
def EP (X:Cx)(pins:List (Addr×Obj))(σ:St)(Q:VK)(u:Value)(s':Shared):Prop:=∃ v H',Inv X pins σ H' s'/\x2p v u/\Q v H'
def TP (X:Cx)(pins:List (Addr×Obj))(σ:St)(Q:Bool->Hp->Prop)(b:Bool)(s':Shared):Prop:=∃ H',Inv X pins σ H' s'/\Q b H'
def AP (X:Cx)(pins:List (Addr×Obj))(σ:St)(Q:List V->Hp->Prop)(us:List Value)(s':Shared):Prop:=∃ vs H',Inv X pins σ H' s'/\x1w vs us/\Q vs H'
def SP (X:Cx)(pins:List (Addr×Obj))(D:Ends)(f:Flow)(s':Shared):Prop:=
 match f with
 | .next=>∃ σ' H',Inv X pins σ' H' s'/\D.nx σ' H'
 | .brk=>∃ σ' H',Inv X pins σ' H' s'/\D.bk σ' H'
 | .cont=>∃ σ' H',Inv X pins σ' H' s'/\D.ct σ' H'
 | .ret u=>∃ v σ' H',Inv X pins σ' H' s'/\x2p v u/\D.rt v H'
def PE (X:Cx)(e:Expr)(t:TE):Prop:=
 ∀ (pins:List (Addr×Obj)) (s:Shared) (σ:St) (H:Hp) (Q:VK),Inv X pins σ H s->t σ H Q->wpAny (model X.prog X.w) X.A (eval e X.env) (EP X pins σ Q) X.xe s
structure QE (X:Cx) (e:Expr) (t:TE):Prop where mk::o:PE X e t
def PT (X:Cx)(e:Expr)(t:TT):Prop:=
 ∀ (pins:List (Addr×Obj)) (s:Shared) (σ:St) (H:Hp) (Q:Bool->Hp->Prop),Inv X pins σ H s->t σ H Q->wpAny (model X.prog X.w) X.A (isTrue e X.env (eval e X.env)) (TP X pins σ Q) X.xe s
def PW (X:Cx)(e:Expr)(t:TT):Prop:=
 ∀ (whole:Sem Value) (pins:List (Addr×Obj)) (s:Shared) (σ:St) (H:Hp) (Q:Bool->Hp->Prop),Inv X pins σ H s->t σ H Q->wpAny (model X.prog X.w) X.A (isTrue e X.env whole) (TP X pins σ Q) X.xe s
theorem PW.pt{X:Cx}{t:TT}(h:PW X e t):PT X e t:=h _
def PA (X:Cx)(es:List Expr)(t:TA):Prop:=
 ∀ (pos:Pos) (pins:List (Addr×Obj)) (s:Shared) (σ:St) (H:Hp) (Q:List V->Hp->Prop),Inv X pins σ H s->t σ H Q->wpAny (model X.prog X.w) X.A (spliced (backTo pos (starEach es X.env))) (AP X pins σ Q) X.xe s
def PS (X:Cx)(st:Stmt)(t:TS):Prop:=
 ∀ (pins:List (Addr×Obj)) (s:Shared) (σ:St) (H:Hp) (D:Ends),Inv X pins σ H s->t D σ H->wpAny (model X.prog X.w) X.A (exec st X.env) (SP X pins D) X.xe s
def PSs (X:Cx)(st:List Stmt)(t:TS):Prop:=
 ∀ (pins:List (Addr×Obj)) (s:Shared) (σ:St) (H:Hp) (D:Ends),Inv X pins σ H s->t D σ H->wpAny (model X.prog X.w) X.A (execs st X.env) (SP X pins D) X.xe s
theorem thn{α:Type}{t:Sem α}{Q Q':α->Shared->Prop}(h:wpAny M A t Q E s)(hQ:∀ a s,Q a s->Q' a s):wpAny M A t Q' E s:=ZE h hQ fun _ _ x=>x
section
variable {X:Cx}
def y3s (i:Nat):TE:=fun σ H Q=>∃ v,σ[i]? = some (some v)/\Q v H
def tC (v:V):TE:=fun _ H Q=>Q v H
theorem z9n{pos:Pos}(hN:X.N[i]? = some x)(hv:Vis X.env.scope x)(hd:(x==("__debug__":Str))=false:=by decide)(hcd:(x==("__classdict__":Str))=false:=by decide):PE X (.Name x pos) (y3s i):=by
 intro pins s σ H Q I h
 obtain⟨v,e,h⟩:=h
 obtain⟨m,hn,hl⟩:=I.loc
 obtain⟨u,r,l⟩:=hl i x v hN e hv
 have fin:EP X pins σ Q u s:=⟨v,H,I,r,h⟩
 rcases l with⟨hk,hm⟩|⟨hk,c,hc,hcell⟩
 ·exact wpAny_Name (wpAny_loadName_local I.ok.kind hk hn hm fin) hd
 ·rcases hk with hk|hk
  ·exact wpAny_Name (wpAny_loadName_cell I.ok.kind hk hc hcell fin) hd
  ·exact wpAny_Name (wpAny_loadName_free I.ok.kind hk hc hcell fin hcd) hd
theorem z4n{i j pos}:PE X (.Constant (.int i) j pos) (tC (.int i)):=fun _ _ _ H _ I h=>wpAny_Constant_int ⟨.int i,H,I.tok _,⟨_,rfl⟩,h⟩
theorem j27{b j pos}:PE X (.Constant (.bool b) j pos) (tC (.bl b)):=fun _ _ _ H _ I h=>Constant_bool ⟨.bl b,H,I,rfl,h⟩
theorem j12{j pos}:PE X (.Constant .none j pos) (tC .non):=fun _ _ _ H _ I h=>Constant_none ⟨.non,H,I,rfl,h⟩
theorem y82{x j pos}:PE X (.Constant (.str x) j pos) (tC (.str x)):=fun _ _ _ H _ I h=>Calls.Constant_str ⟨.str x,H,I.tok _,⟨_,rfl⟩,h⟩
def Gl (X:Cx)(x:Str):Prop:=X.env.kindOf x=some .globalImplicit
theorem z5w{E:Value->Shared->Prop}{σ:St}{H:Hp}{pos:Pos}{Q:Value->Shared->Prop}(I:Inv X pins σ H s)(hg:Gl X x)(hm:X.mg x=some u)(h:Q u s)
  (hd:(x==("__debug__":Str))=false:=by decide):wpAny (model X.prog X.w) X.A (eval (.Name x pos) X.env) Q E s:=
 YD I.ok.kind hg (Calls.loadGlobal_global (by rw[I.ok.glob];exact I.mod.glob.keeps I.bk) hm h) hd
theorem y1f{E:Value->Shared->Prop}{σ:St}{H:Hp}{pos:Pos}{Q:Value->Shared->Prop}(I:Inv X pins σ H s)(hg:Gl X x)(hm:X.mg x=none)(hv:bootBuiltins x=some u)(h:Q u s)
  (hn:x ≠ "__name__":=by decide) (hd:(x==("__debug__":Str))=false:=by decide):wpAny (model X.prog X.w) X.A (eval (.Name x pos) X.env) Q E s:=by
 obtain⟨mb,h1,h2⟩:=I.mod.blt
 exact YD I.ok.kind hg (Calls.loadGlobal_builtin (by rw[I.ok.glob];exact I.mod.glob.keeps I.bk) hm (by rw[I.ok.blt];exact h1.keeps I.bk) ((h2 x hn).trans hv) h) hd
theorem z7r{v:V}{pos:Pos}(hg:Gl X x)(hm:X.mg x=none)(hv:bootBuiltins x=some u)(r:x2p v u)(hn:x ≠ "__name__":=by decide)(hd:(x==("__debug__":Str))=false:=by decide):PE X (.Name x pos) (tC v):=
 fun _ _ _ H _ I h=>y1f I hg hm hv ⟨v,H,I,r,h⟩ hn hd
variable {a b:Expr}{ta tb:TE}{pos:Pos}
variable {tA tB':TT}{x2o:List Expr}
def tOr (t u:TT):TT:=fun σ H Q=>t σ H fun c H1=>if c=true then Q true H1 else u σ H1 Q
def j45 (t:TT):TT:=fun σ H Q=>t σ H fun c H1=>Q (!c) H1
theorem z92(ha:PT X a tA):PW X (.BoolOp .Or [a] pos) tA:=by
 intro wh pins s σ H Q I h
 refine isTrue_or (thn (ha pins s σ H Q I h) fun c s1 e=>?_)
 cases c with
 | false=>exact isTrue_or_nil e
 | true=>exact e
theorem j1y(ha:PT X a tA)(hb:PW X (.BoolOp .Or (b::x2o) pos) tB'):PW X (.BoolOp .Or (a::b::x2o) pos) (tOr tA tB'):=by
 intro wh pins s σ H Q I h
 refine isTrue_or (thn (ha pins s σ H _ I h) fun c s1 hh0=>?_)
 obtain⟨H1,I1,q1⟩:=hh0
 cases c with
 | true=>exact⟨H1,I1,q1⟩
 | false=>exact hb wh pins s1 σ H1 Q I1 q1
theorem z8w(ha:PT X a tA):PT X (.UnaryOp .Not a pos) (j45 tA):=by
 intro pins s σ H Q I h
 exact isTrue_not (ha pins s σ H (fun c H1=>Q (!c) H1) I h)
def j24 (ta tb:TE):TE:=fun σ H Q=>ta σ H fun x H1=>∃ c,x=.bl c/\if c=true then tb σ H1 Q else Q (.bl false) H1
def j21 (ta:TE):TE:=fun σ H Q=>ta σ H fun x H1=>∃ c,x=.bl c/\Q (.bl (!c)) H1
theorem j0y{op}{t:TE}(h:PE X a t):PE X (.BoolOp op [a] pos) t:=fun pins s σ H Q I hw=>BoolOp_one (h pins s σ H Q I hw)
theorem j02(ha:PE X a ta)(hb:PE X (.BoolOp .And (b::x2o) pos) tb):PE X (.BoolOp .And (a::b::x2o) pos) (j24 ta tb):=by
 intro pins s σ H Q I h
 refine BoolOp_and (thn (ha pins s σ H _ I h) fun v s1 hh0=>?_)
 obtain⟨x,H1,I1,r1,q1⟩:=hh0
 obtain⟨c,rfl,q1⟩:=q1
 cases r1
 refine Ja ?_
 cases c with
 | true=>exact hb pins s1 σ H1 Q I1 q1
 | false=>exact⟨.bl false,H1,I1,rfl,q1⟩
theorem z9j(ha:PE X a ta):PE X (.UnaryOp .Not a pos) (j21 ta):=by
 intro pins s σ H Q I h
 refine UnaryOp_ (thn (ha pins s σ H _ I h) fun v s1 hh0=>?_)
 obtain⟨x,H1,I1,r1,q1⟩:=hh0
 obtain⟨c,rfl,q1⟩:=q1
 cases r1
 exact not_of (Ja ⟨.bl (!c),H1,I1,rfl,q1⟩)
def tIf (t:TT)(ta tb:TE):TE:=fun σ H Q=>t σ H fun c H1=>if c=true then ta σ H1 Q else tb σ H1 Q
theorem z2d(hc:PT X c tA)(ha:PE X a ta)(hb:PE X b tb):PE X (.IfExp c a b pos) (tIf tA ta tb):=by
 intro pins s σ H Q I h
 refine wpAny_IfExp (thn (hc pins s σ H _ I h) fun d s1 hh0=>?_)
 obtain⟨H1,I1,q1⟩:=hh0
 cases d with
 | true=>exact ha pins s1 σ H1 Q I1 q1
 | false=>exact hb pins s1 σ H1 Q I1 q1
end
def SqL (K:PySem.W.Frag)(H:Hp)(a:Addr)(xs:List V):Prop:=
 Rd H a (.lst xs) \/
  ∃ (o:Obj) (its:Array Value) (n:Nat),K.lookup a=some o/\o.cls=.type "list" /\ o.dict=none/\o.data=.seq its n/\its.size<=sizeLine/\x1w xs its.toList
def SqT (K:PySem.W.Frag)(H:Hp)(a:Addr)(xs:List V):Prop:=
 Rd H a (.tup xs) \/
  ∃ (o:Obj) (its:Array Value) (n:Nat),K.lookup a=some o/\o.cls=.type "tuple" /\ o.data=.seq its n/\its.size<=sizeLine/\x1w xs its.toList
def j3f:Value->Option V
 | .none=>some .non
 | .bool b=>some (.bl b)
 | .int i _=>some (.int i)
 | .str x _=>some (.str x)
 | .bytes b _=>some (.byt b)
 | .float b _=>some (.flt b)
 | .ref a=>some (.ref a)
 | .type n=>some (.ty n)
 | _=>none
theorem x2p.abs{x:V}(r:x2p x u):j3f u=some x:=by
 cases x with
 | non=>cases r;rfl
 | bl _=>cases r;rfl
 | int _=>obtain⟨t,rfl⟩:=r;rfl
 | str _=>obtain⟨t,rfl⟩:=r;rfl
 | byt _=>obtain⟨t,rfl⟩:=r;rfl
 | flt _=>obtain⟨t,rfl⟩:=r;rfl
 | ref _=>cases r;rfl
 | ty _=>cases r;rfl
theorem x2p.inj{x y:V}(r:x2p x u)(q:x2p y u):x=y:=QC (r.abs.symm.trans q.abs)
theorem x1w.inj:∀ {xs ys:List V} {us:List Value},x1w xs us->x1w ys us->xs=ys
 | _,_,_,.nil,.nil=>rfl
 | _,_,_,.cons r t,.cons r' t'=>by rw[r.inj r',x1w.inj t t']
section
variable {X:Cx}{pins:List (Addr×Obj)}{σ:St}{H:Hp}{s:Shared}{a:Addr}{xs ys:List V}
theorem SqL.of(h:H a=some (.lst xs)):SqL K H a xs:=.inl (.inl h)
theorem SqT.of(h:H a=some (.tup xs)):SqT K H a xs:=.inl (.inl h)
theorem Inv.list(I:Inv X pins σ H s)(h:SqL X.K H a xs):∃ its:List Value,x1w xs its/\PlainL s.heap a its.toArray/\xs.length<=sizeLine:=by
 rcases h with h|⟨o,its,n,hk,hc,hd,hs,hz,r⟩
 ·obtain⟨z,its,n,r,e⟩:=h.ok I.hok
  exact⟨its,r,⟨_,n,e,rfl,rfl,rfl⟩,z⟩
 ·refine⟨its.toList,r,⟨o,n,I.kIn a o hk,hc,hd,by simpa using hs⟩,?_⟩
  have e:=r.length
  simp only[QI]at e
  omega
theorem Inv.tuple(I:Inv X pins σ H s)(h:SqT X.K H a xs):∃ its:List Value,x1w xs its/\IsTup s.heap a its.toArray/\xs.length<=sizeLine:=by
 rcases h with h|⟨o,its,n,hk,hc,hs,hz,r⟩
 ·obtain⟨z,its,r,p⟩:=h.ok I.hok
  exact⟨its,r,p.tup,z⟩
 ·refine⟨its.toList,r,⟨o,I.kIn a o hk,hc,n,by simpa using hs⟩,?_⟩
  have e:=r.length
  simp only[QI]at e
  omega
theorem Inv.list_inj(I:Inv X pins σ H s)(h:SqL X.K H a xs)(h':SqL X.K H a ys):xs=ys:=by
 obtain⟨its,r,⟨o,n,e,_,_,d⟩,_⟩:=I.list h
 obtain⟨its',r',⟨o',n',e',_,_,d'⟩,_⟩:=I.list h'
 rw[e]at e';cases e'
 rw[d]at d'
 injection d' with d1 _
 have:its=its':=by simpa using ZL Array.toList d1
 subst this
 exact r.inj r'
theorem Inv.tuple_inj(I:Inv X pins σ H s)(h:SqT X.K H a xs)(h':SqT X.K H a ys):xs=ys:=by
 obtain⟨its,r,⟨o,e,_,n,d⟩,_⟩:=I.tuple h
 obtain⟨its',r',⟨o',e',_,n',d'⟩,_⟩:=I.tuple h'
 rw[e]at e';cases e'
 rw[d]at d'
 injection d' with d1 _
 have:its=its':=by simpa using ZL Array.toList d1
 subst this
 exact r.inj r'
end
abbrev Cx.wish (X:Cx)(E:Value->Shared->Prop):Cx:={ X with xe:=E }
abbrev Cx.nox (X:Cx):Cx:=X.wish fun _ _=>False
theorem Cx.Ok.wish{X:Cx}(ok:X.Ok)(E:Value->Shared->Prop):(X.wish E).Ok:=
 ⟨ok.mod,ok.kind,ok.glob,ok.blt,ok.above,ok.inj,ok.has,ok.cab,ok.hd,ok.frames,ok.stk,ok.exf,ok.bs,ok.bsz,ok.noex,ok.exfs,ok.funs,ok.frf⟩
theorem Cx.Ok.unwish{X:Cx}(ok:(X.wish E).Ok):X.Ok:=
 ⟨ok.mod,ok.kind,ok.glob,ok.blt,ok.above,ok.inj,ok.has,ok.cab,ok.hd,ok.frames,ok.stk,ok.exf,ok.bs,ok.bsz,ok.noex,ok.exfs,ok.funs,ok.frf⟩
section
variable {X:Cx}{pins:List (Addr×Obj)}{σ:St}{H:Hp}{s:Shared}{E:Value->Shared->Prop}
theorem Inv.wish(I:Inv X pins σ H s)(E:Value->Shared->Prop):Inv (X.wish E) pins σ H s:=⟨I.ok.wish E,I.os,I.bare,I.base,I.loc,I.cell,I.free,I.freeC,I.pin,I.hok,I.len⟩
theorem Inv.unwish(I:Inv (X.wish E) pins σ H s):Inv X pins σ H s:=⟨I.ok.unwish,I.os,I.bare,I.base,I.loc,I.cell,I.free,I.freeC,I.pin,I.hok,I.len⟩
theorem SP.unwish{D:Ends}{f:Flow}(h:SP (X.wish E) pins D f s'):SP X pins D f s':=by
 cases f with
 | next=>obtain⟨σ',H',I,q⟩:=h;exact⟨σ',H',I.unwish,q⟩
 | brk=>obtain⟨σ',H',I,q⟩:=h;exact⟨σ',H',I.unwish,q⟩
 | cont=>obtain⟨σ',H',I,q⟩:=h;exact⟨σ',H',I.unwish,q⟩
 | ret u=>obtain⟨v,σ',H',I,r,q⟩:=h;exact⟨v,σ',H',I.unwish,r,q⟩
theorem PSs.nox{st:List Stmt}{t:TS}(h:PSs X.nox st t):PSs X st t:=fun pins s σ H D I hw=>
 ZE (h pins s σ H D (I.wish _) hw) (fun _ _ q=>q.unwish) fun _ _ z=>False.elim z
end
section
variable {X:Cx}{st:Stmt}{x2o:List Stmt}{t u:TS}{e:Expr}{te:TE}{pos:Pos}
def j2y:TS:=fun D σ H=>D.nx σ H
def j3n (t u:TS):TS:=fun D σ H=>t { D with nx:=u D } σ H
theorem z6i:PSs X [] j2y:=fun _ _ σ H _ I h=>Yp ⟨σ,H,I,h⟩
theorem z2e(h1:PS X st t)(h2:PSs X x2o u):PSs X (st::x2o) (j3n t u):=by
 intro pins s σ H D I h
 refine wpAny_execs_cons (thn (h1 pins s σ H { D with nx:=u D } I h) fun f s1 q=>?_)
 cases f with
 | next=>
  obtain⟨σ',H',I',q⟩:=q
  exact h2 pins s1 σ' H' D I' q
 | ret v=>exact q
 | brk=>exact q
 | cont=>exact q
theorem z76(h1:PS X st t):PSs X [st] t:=by
 intro pins s σ H D I h
 refine wpAny_execs_cons (thn (h1 pins s σ H D I h) fun f s1 q=>?_)
 cases f with
 | next=>exact Yp q
 | ret v=>exact q
 | brk=>exact q
 | cont=>exact q
theorem Inv.quiet{σ:St}{H:Hp}(I:Inv X pins σ H s):interactive X.env=false:=by simp[interactive,I.ok.kind]
def j29 (te:TE):TS:=fun D σ H=>te σ H fun _ H1=>D.nx σ H1
theorem z7b(he:PE X e te)(hs:swapsWith e none pos.line X.env=pure false:=by rfl):PS X (.Expr e pos) (j29 te):=by
 intro pins s σ H D I h
 exact wpAny_Expr_any (thn (he pins s σ H _ I h) fun v s1 ⟨x,H1,I1,r1,q1⟩=>⟨σ,H1,I1,q1⟩) I.quiet hs
def j3v (te:TE):TS:=fun D σ H=>te σ H D.rt
theorem j0s(he:PE X e te):PS X (.Return (some e) pos) (j3v te):=by
 intro pins s σ H D I h
 exact wpAny_Return_some (thn (he pins s σ H _ I h) fun v s1 ⟨x,H1,I1,r1,q1⟩=>⟨x,σ,H1,I1,r1,q1⟩)
def j49 (c:TT)(t u:TS):TS:=fun D σ H=>c σ H fun b H1=>if b=true then t D σ H1 else u D σ H1
theorem j1m{a b:List Stmt}{tc:TT}(hc:PT X c tc)(ha:PSs X a t)(hb:PSs X b u):PS X (.If c a b pos) (j49 tc t u):=by
 intro pins s σ H D I h
 refine wpAny_If (thn (hc pins s σ H _ I h) fun d s1 hh0=>?_)
 obtain⟨H1,I1,q1⟩:=hh0
 cases d with
 | true=>exact ha pins s1 σ H1 D I1 q1
 | false=>exact hb pins s1 σ H1 D I1 q1
def z8o:TS:=fun _ _ _=>False
theorem z28:PS X st z8o:=fun _ _ _ _ _ _ h=>h.elim
end
abbrev TG:=V->St->Hp->(St->Hp->Prop)->Prop
abbrev TGs:=List V->St->Hp->(St->Hp->Prop)->Prop
def PG (X:Cx)(target:Expr)(t:TG):Prop:=
 ∀ (pins:List (Addr×Obj)) (s:Shared) (σ:St) (H:Hp) (v:V) (u:Value) (Q:St->Hp->Prop),Inv X pins σ H s->x2p v u->t v σ H Q->
  wpAny (model X.prog X.w) X.A (assign target X.env u) (fun _ s'=>∃ σ' H',Inv X pins σ' H' s'/\Q σ' H') X.xe s
def PGs (X:Cx)(ts:List Expr)(t:TGs):Prop:=
 ∀ (pins:List (Addr×Obj)) (s:Shared) (σ:St) (H:Hp) (vs:List V) (us:List Value) (Q:St->Hp->Prop),Inv X pins σ H s->x1w vs us->t vs σ H Q->
  wpAny (model X.prog X.w) X.A (assignInOrder ((assignEach ts X.env).map (·.2)) us) (fun _ s'=>∃ σ' H',Inv X pins σ' H' s'/\Q σ' H') X.xe s
abbrev j20:=V->V->V->Hp->(Hp->Prop)->Prop
def j35 (X:Cx)(t:j20):Prop:=
 ∀ (pins:List (Addr×Obj)) (s:Shared) (σ:St) (H:Hp) (o i v:V) (ov iv u:Value) (Q:Hp->Prop),Inv X pins σ H s->x2p o ov->x2p i iv->x2p v u->t o i v H Q->
  wpAny (model X.prog X.w) X.A (setItem ov iv u) (fun _ s'=>∃ H',Inv X pins σ H' s'/\Q H') X.xe s
section
variable {X:Cx}{pos:Pos}
def z77 (i:Nat):TG:=fun v σ H Q=>Q (σ.set i (some v)) H
theorem z62(hN:X.N.Nodup)(hi:X.N[i]? = some x)(hx:Loc X.env.scope x)(hf:X.fn x=true\/X.env.scope.names.lookup x=some .local:=by first|exact .inl rfl|exact .inr rfl|assumption):PG X (.Name x pos) (z77 i):=by
 intro pins s σ H v u Q I r h
 exact wpAny_assign_Name (y5y I hN hi hx r (fun s' I'=>⟨_,H,I',h⟩) hf)
def j4d:TGs:=fun vs σ H Q=>vs=[]/\Q σ H
def j1k (t:TG)(u:TGs):TGs:=fun vs σ H Q=>∃ v r,vs=v::r/\t v σ H fun σ' H'=>u r σ' H' Q
theorem z59:PGs X [] j4d:=by
 intro pins s σ H vs us Q I r h
 obtain⟨e,h⟩:=h
 subst e
 cases r
 exact assignInOrder_nil ⟨σ,H,I,h⟩
theorem z3g{t:TG}{u:TGs}(h1:PG X e t)(h2:PGs X es u)
  (hs:(assignEach (e::es) X.env).map (·.2)=assign e X.env::(assignEach es X.env).map (·.2):=by rfl):PGs X (e::es) (j1k t u):=by
 intro pins s σ H vs us Q I r h
 obtain⟨v,vr,e1,h⟩:=h
 subst e1
 cases r with
 | cons r rr=>
  rw[hs]
  refine assignInOrder_cons (thn (h1 pins s σ H _ _ _ I r h) fun _ s1 hh0=>?_)
  obtain⟨σ1,H1,I1,q1⟩:=hh0
  exact h2 pins s1 σ1 H1 _ _ Q I1 rr q1
def j3k (K:PySem.W.Frag)(n:Nat)(t:TGs):TG:=fun v σ H Q=>∃ a xs,v=.ref a/\SqT K H a xs/\xs.length=n/\t xs σ H Q
theorem j0w{k:Nat}{t:TGs}(hc:X.calm=true)(h:PGs X es t)
  (hn:(assignEach es X.env).length=n:=by rfl) (hst:(assignEach es X.env).findIdx? (·.1)=none:=by rfl):PG X (.Tuple es k pos) (j3k X.K n t):=by
 intro pins s σ H v u Q I r hw
 obtain⟨a,xs,e1,hq,hl,hw⟩:=hw
 subst e1
 cases r
 obtain⟨its,rv,ht,hz⟩:=I.tuple hq
 refine assign_Tuple_tuple (I.ok.hd hc) ht (by simp[hn,<- hl,rv.length]) hst fun h' hx=>?_
 have I1:Inv X pins σ H { s with heap:=h' }:=I.kept (t':=s.toks) fun b o e=>hx b o (QM (Qm e)) e
 exact h pins _ σ H xs _ Q I1 (by simpa using rv) hw
def j3z (to ti:TE)(t:j20):TG:=fun v σ H Q=>to σ H fun o H1=>ti σ H1 fun i H2=>t o i v H2 fun H3=>Q σ H3
theorem z8g{o i:Expr}{to ti:TE}{t:j20}(ho:PE X o to)(hi:PE X i ti)(hs:j35 X t)
  (ha:∀ v,assign (.Subscript o i pos) X.env v=(do
    let ov <- holding [v] (eval o X.env)
    let iv <- holding [v,ov] (eval i X.env)
    standAt pos
    holding [v,ov,iv] (setItem ov iv v)
    release [v,ov,iv] []):=by intro _;rfl):PG X (.Subscript o i pos) (j3z to ti t):=by
 intro pins s σ H v u Q I r h
 rw[ha]
 refine wpAny_bind (Za (thn (ho pins s σ H _ I h) fun ov s1 hh0=>?_))
 obtain⟨x,H1,I1,r1,q1⟩:=hh0
 refine wpAny_bind (Za (thn (hi pins s1 σ H1 _ I1 q1) fun iv s2 hh0=>?_))
 obtain⟨y,H2,I2,r2,q2⟩:=hh0
 refine wpAny_bind (wpAny_standAt (wpAny_bind (Za (thn (hs pins s2 σ H2 x y v ov iv u _ I2 r1 r2 r q2) fun _ s3 hh0=>?_))))
 obtain⟨H3,I3,q3⟩:=hh0
 exact wpAny_release ⟨σ,H3,I3,q3⟩
def j2o (te:TE)(g:TG):TS:=fun D σ H=>te σ H fun x H1=>g x σ H1 D.nx
theorem z91{te:TE}{g:TG}(he:PE X e te)(hg:PG X tg g)(hs:swapsWithSole [tg] e pos.line X.env=pure false:=by rfl)(hw:swappedStores [tg] e X.env=pure none:=by rfl)
  (h1:(assignEach [tg] X.env).map (·.2)=[assign tg X.env]:=by rfl):PS X (.Assign [tg] e pos) (j2o te g):=by
 intro pins s σ H D I h
 refine wpAny_Assign_stores (thn (he pins s σ H _ I h) fun v s1 ⟨x,H1,I1,r1,q1⟩=>?_) hs hw
 rw[h1]
 exact thn (hg pins s1 σ H1 x v _ I1 r1 q1) fun _ s2 q=>q
theorem z8x{te:TE}{pos':Pos}(hN:X.N.Nodup)(hi:X.N[i]? = some x)(hx:Loc X.env.scope x)(he:PE X e te)(hs:swapsWith e (some (.Name x pos')) pos.line X.env=pure false:=by rfl)(hf:X.fn x=true\/X.env.scope.names.lookup x=some .local:=by first|exact .inl rfl|exact .inr rfl|assumption) :
  PS X (.Assign [.Name x pos'] e pos) (j2o te (z77 i)):=by
 intro pins s σ H D I h
 refine wpAny_Assign_Name (thn (he pins s σ H _ I h) fun v s1 ⟨y,H1,I1,r1,q1⟩=>?_) hs
 exact y5y I1 hN hi hx r1 (fun s2 I2=>⟨_,H1,I2,q1⟩) hf
def j0e (c:TT)(tb:TS):TS:=fun D σ H=>∃ W:Nat->St->Hp->Prop,(∃ m,W m σ H)/\∀ m σ H,W m σ H->
 c σ H fun b H1=>if b=true then ∃ N:St->Hp->Prop,(∀ σ' H',N σ' H'->∃ m',m'<m/\W m' σ' H')/\tb { D with nx:=N,ct:=N,bk:=D.nx } σ H1 else D.nx σ H1
theorem z36{tc:TT}{tb:TS}(hp:PassesOwn (model X.prog X.w) X.A X.env X.xe)(hc:PT X c tc)(hb:PSs X body tb):PS X (.While c body [] pos) (j0e tc tb):=by
 intro pins s σ H D I h
 obtain⟨W,⟨m0,w0⟩,turn⟩:=h
 refine wpAny_While (codeAny_whileLoop (fun n s'=>∃ σ' H',Inv X pins σ' H' s'/\W n σ' H') ?_ m0 ⟨σ,H,I,w0⟩)
 rintro n s1 ⟨σ1,H1,I1,w1⟩
 refine Z4 hp (thn (hc pins s1 σ1 H1 _ I1 (turn n σ1 H1 w1)) fun b s2 hh0=>?_)
 obtain⟨H2,I2,q2⟩:=hh0
 cases b with
 | true=>
  obtain⟨N,hN,q2⟩:=q2
  rw[Qj rfl]
  refine Z4 hp (thn (hb pins s2 σ1 H2 _ I2 q2) fun f s3 q3=>?_)
  cases f with
  | next=>
   obtain⟨σ3,H3,I3,n3⟩:=q3
   obtain⟨m',hm,w3⟩:=hN σ3 H3 n3
   exact⟨m',hm,σ3,H3,I3,w3⟩
  | cont=>
   obtain⟨σ3,H3,I3,n3⟩:=q3
   obtain⟨m',hm,w3⟩:=hN σ3 H3 n3
   exact⟨m',hm,σ3,H3,I3,w3⟩
  | brk=>exact q3
  | ret v=>exact q3
 | false=>
  rw[Qk Zp]
  exact Yp ⟨σ1,H2,I2,q2⟩
end
structure It where
 go:Nat->Hp->Prop
 yld:Nat->Hp->V->Hp->Prop
 stop:Nat->Hp->Prop
def z0z (X:Cx)(pins:List (Addr×Obj))(H:Hp)(b:Addr):Prop:=
 H b=none/\b≠X.env.locals/\b ∉ X.fs/\(b∈X.ex\/X.s₀.heap.objs.size<=b)/\(∀ x c,X.env.cells.lookup x=some c->c≠b)/\∀ p∈X.pn++pins,p.1≠b
theorem Inv.fpOk{X:Cx}{σ:St}{H H':Hp}(I:Inv X pins σ H s)(hb:s.heap.objs.size<=b)(hn:H' b=none):z0z X pins H' b:=by
 refine⟨hn,YA (Qv I.lt hb),I.nofs hb,.inr (QU I.sz hb),fun x c e z=>?_,fun p hp z=>?_⟩
 ·obtain⟨v,q⟩:=I.cell x c e
  exact absurd (Qv q.lt (by rw[z];exact hb)) (QL _)
 ·exact absurd (Qv (Qm (I.pin p hp).1) (by rw[z];exact hb)) (QL _)
structure Turn (P:Program) (w:World) (K:PySem.W.Frag) (tg:Expr) (J:It) (fp:List Addr) (it:Addr) (tn:Nat->Heap->Prop):Prop where
 mem:it∈fp
 obj:∀ i h,tn i h->∀ b∈fp,∃ o,h.get? b=some o/\∀ v,o.data ≠ .cell v
 keep:∀ i h h',tn i h->(∀ b∈fp,∀ o,h.get? b=some o->h'.get? b=some o)->tn i h'
 item:∀ (X:Cx),X.prog=P->X.w=w->X.K=K->X.calm=true->∀ (i:Nat) (pins:List (Addr×Obj)) (s:Shared) (σ:St) (H:Hp) (E:Value->Shared->Prop),Inv X pins σ H s->(∀ b∈fp,z0z X pins H b)->tn i s.heap->J.go i H->
  wpAny (model P w) X.A (pyNext (.ref it)) (fun r s1=>∃ u,r=some u /\
   wpAny (model P w) X.A (letOwnedTupleGo tg (.ref it) u) (fun _ s2=>∃ x H',Inv X pins σ H' s2/\x2p x u/\J.yld i H x H'/\tn (i+1) s2.heap/\∀ b∈fp,H' b=none) E s1) E s
 done:∀ (X:Cx),X.prog=P->X.w=w->X.K=K->X.calm=true->∀ (i:Nat) (pins:List (Addr×Obj)) (s:Shared) (σ:St) (H:Hp) (E:Value->Shared->Prop),Inv X pins σ H s->(∀ b∈fp,z0z X pins H b)->tn i s.heap->J.stop i H->
  wpAny (model P w) X.A (pyNext (.ref it)) (fun r s1=>r=none/\Inv X pins σ H s1) E s
 self:∀ (A:Around) (i:Nat) (s:Shared) (Q:Value->Shared->Prop) (E:Value->Shared->Prop),tn i s.heap->Q (.ref it) s->wpAny (model P w) A (pyIter (.ref it)) Q E s
abbrev TI:=St->Hp->(It->Hp->Prop)->Prop
def PIE (X:Cx)(pins:List (Addr×Obj))(σ:St)(tg:Expr)(R:It->Hp->Prop)(itv:Value)(s2:Shared):Prop:=
 ∃ (it:Addr) (fp:List Addr) (tn:Nat->Heap->Prop) (J:It) (H':Hp),itv=.ref it/\Inv X pins σ H' s2/\Turn X.prog X.w X.K tg J fp it tn/\tn 0 s2.heap/\(∀ b∈fp,z0z X pins H' b)/\R J H'
def PI (X:Cx)(tg iter:Expr)(wi:TI):Prop:=
 ∀ (pins:List (Addr×Obj)) (s:Shared) (σ:St) (H:Hp) (R:It->Hp->Prop),Inv X pins σ H s->wi σ H R->
  wpAny (model X.prog X.w) X.A (eval iter X.env) (fun v s1=>wpAny (model X.prog X.w) X.A (pyIter v) (PIE X pins σ tg R) X.xe s1) X.xe s
theorem z4v{n:String}{vs:Array Value}(ho:s.heap.get? it=some o)(hc:o.cls=.type n)(hd:o.data=.fields vs)
  (hn:["enumerate","zip","dict_itemiterator","dict_reverseitemiterator","odict_iterator","itertools.zip_longest","itertools.pairwise"].contains n=false) (hQ:Q () s):wpAny M A (letOwnedTupleGo tg (.ref it) u) Q E s:=by
 unfold letOwnedTupleGo
 cases tg<;>first
  | exact Qd hQ
  | (cases u<;>first
      | exact Qd hQ
      | (refine wpAny_bind (wpAny_load ho ?_)
         rw[hc,hd]
         show wpAny M A (if(["enumerate","zip","dict_itemiterator","dict_reverseitemiterator","odict_iterator","itertools.zip_longest","itertools.pairwise"].contains n&&vs[0]? == some (rawInt _))=true then _ else _) Q E s
         rw[Qk (by intro h;rw[hn,Bool.false_and]at h;cases h)]
         exact Qd hQ))
def Itl (K:PySem.W.Frag)(a:Addr):It:=
 ⟨fun i H=>∃ xs x,SqL K H a xs/\xs[i]? = some x,fun i H x H'=>H'=H/\∀ xs,SqL K H a xs->xs[i]? = some x,fun i H=>∃ xs,SqL K H a xs/\xs.length<=i⟩
def Itt (K:PySem.W.Frag)(a:Addr):It:=
 ⟨fun i H=>∃ xs x,SqT K H a xs/\xs[i]? = some x,fun i H x H'=>H'=H/\∀ xs,SqT K H a xs->xs[i]? = some x,fun i H=>∃ xs,SqT K H a xs/\xs.length<=i⟩
def Itr (lo:Int)(n:Nat):It:=⟨fun i _=>i<n,fun i H x H'=>H'=H/\x=.int (lo+i),fun i _=>n<=i⟩
theorem y8c(a it:Addr):Turn P w K tg (Itl K a) [it] it (fun i h=>h.IsListIter it a i) where
 mem:=by simp
 obj:=fun i h st b hb=>by
  have e:b=it:=by simpa using hb
  subst e
  obtain⟨o,e,c,d⟩:=st
  exact⟨o,e,fun v z=>by rw[d]at z;cases z⟩
 keep:=fun i h h' st k=>st.at fun o e=>k it (by simp) o e
 item:=by
  intro X hP hw hK hc i pins s σ H E I hf st hg
  subst hP hw hK
  obtain⟨xs,x,hq,hx⟩:=hg
  obtain⟨its,rv,p,hz⟩:=I.list hq
  obtain⟨u,hu,ru⟩:=rv.get hx
  obtain⟨f0,f1,f2,f3,f4,f5⟩:=hf it (by simp)
  refine wpAny_pyNext_list_item st p.isList (x:=u) (by simpa using hu) fun h' st' sb=>?_
  have I1:Inv X pins σ H { s with heap:=h' }:=I.turned (t':=s.toks) (fun b o hb e=>(sb.2 b hb).trans e) f0 f1 f3 f4 f5
  obtain⟨o,e,c,d⟩:=id st'
  exact⟨u,rfl,z4v (s:={ s with heap:=h' }) e c d (by decide) ⟨x,H,I1,ru,⟨rfl,fun ys hy=>by rw[I.list_inj hy hq];exact hx⟩,st',fun b hb=>(hf b hb).1⟩⟩
 done:=by
  intro X hP hw hK hc i pins s σ H E I hf st hg
  subst hP hw hK
  obtain⟨xs,hq,hx⟩:=hg
  obtain⟨its,rv,p,hz⟩:=I.list hq
  obtain⟨f0,f1,f2,f3,f4,f5⟩:=hf it (by simp)
  have hl:=rv.length
  exact wpAny_pyNext_list_end (I.ok.hd hc) st p.isList (by simp;omega) fun h' eb=>⟨rfl,I.turned (t':=s.toks) (fun b o hb e=>eb b o hb e) f0 f1 f3 f4 f5⟩
 self:=fun _ _ _ _ _ st h=>wpAny_pyIter_listiter st h
theorem y76(a it:Addr):Turn P w K tg (Itt K a) [it] it (fun i h=>h.IsTupleIter it a i) where
 mem:=by simp
 obj:=fun i h st b hb=>by
  have e:b=it:=by simpa using hb
  subst e
  obtain⟨o,e,c,d⟩:=st
  exact⟨o,e,fun v z=>by rw[d]at z;cases z⟩
 keep:=fun i h h' st k=>st.at fun o e=>k it (by simp) o e
 item:=by
  intro X hP hw hK hc i pins s σ H E I hf st hg
  subst hP hw hK
  obtain⟨xs,x,hq,hx⟩:=hg
  obtain⟨its,rv,p,hz⟩:=I.tuple hq
  obtain⟨u,hu,ru⟩:=rv.get hx
  obtain⟨f0,f1,f2,f3,f4,f5⟩:=hf it (by simp)
  refine wpAny_pyNext_tuple_item st (show s.heap.IsTuple a its.toArray from p) (x:=u) (by simpa using hu) fun h' st' sb=>?_
  have I1:Inv X pins σ H { s with heap:=h' }:=I.turned (t':=s.toks) (fun b o hb e=>(sb.2 b hb).trans e) f0 f1 f3 f4 f5
  obtain⟨o,e,c,d⟩:=id st'
  exact⟨u,rfl,z4v (s:={ s with heap:=h' }) e c d (by decide) ⟨x,H,I1,ru,⟨rfl,fun ys hy=>by rw[I.tuple_inj hy hq];exact hx⟩,st',fun b hb=>(hf b hb).1⟩⟩
 done:=by
  intro X hP hw hK hc i pins s σ H E I hf st hg
  subst hP hw hK
  obtain⟨xs,hq,hx⟩:=hg
  obtain⟨its,rv,p,hz⟩:=I.tuple hq
  obtain⟨f0,f1,f2,f3,f4,f5⟩:=hf it (by simp)
  have hl:=rv.length
  exact wpAny_pyNext_tuple_end (I.ok.hd hc) st (show s.heap.IsTuple a its.toArray from p) (by simp;omega) fun h' eb=>⟨rfl,I.turned (t':=s.toks) (fun b o hb e=>eb b o hb e) f0 f1 f3 f4 f5⟩
 self:=fun _ _ _ _ _ st h=>wpAny_pyIter_tupleiter st h
theorem y79(it:Addr)(lo:Int)(n:Nat):Turn P w K tg (Itr lo n) [it] it (fun i h=>IsRangeIter h it (lo+(i:Nat)*1) ((n:Int)-(i:Nat)) 1) where
 mem:=by simp
 obj:=fun i h st b hb=>by
  have e:b=it:=by simpa using hb
  subst e
  exact⟨_,st,fun v z=>by
   have z':Data.fields _=Data.cell v:=z
   cases z'⟩
 keep:=fun i h h' st k=>k it (by simp) _ st
 item:=by
  intro X hP hw hK hc i pins s σ H E I hf st hg
  subst hP hw hK
  obtain⟨f0,f1,f2,f3,f4,f5⟩:=hf it (by simp)
  have W:=Walks.range (prog:=X.prog) (w:=X.w) (I.ok.hd hc) it lo 1 n
  refine W.item i s _ _ hg st fun v h' tk hv st' kk=>?_
  obtain⟨t,rfl⟩:=hv
  have I1:Inv X pins σ H { s with heap:=h',toks:=tk }:=I.turned (fun b o hb e=>kk b o (by simpa using hb) e) f0 f1 f3 f4 f5
  refine⟨_,rfl,z4v (s:={ s with heap:=h',toks:=tk }) (n:="range_iterator") st' rfl rfl (by decide) ⟨.int (lo+i),H,I1,⟨t,?_⟩,⟨rfl,rfl⟩,st',fun b hb=>(hf b hb).1⟩⟩
  rw[Int.mul_one]
 done:=by
  intro X hP hw hK hc i pins s σ H E I hf st hg
  subst hP hw hK
  obtain⟨f0,f1,f2,f3,f4,f5⟩:=hf it (by simp)
  exact wpAny_pyNext_range_end (I.ok.hd hc) st (by have:n<=i:=hg;omega) fun h' eb=>⟨rfl,I.turned (t':=s.toks) (fun b o hb e=>eb b o hb e) f0 f1 f3 f4 f5⟩
 self:=fun _ _ _ _ _ st h=>wpAny_pyIter_rangeiter st h
section
variable {X:Cx}{tg:Expr}
theorem z3c{σ:St}{H:Hp}{R:It->Hp->Prop}{lo hi:Int}{t u v:Tok}{tk:Nat}(I:Inv X pins σ H s)(h1:-(2 ^ 62)<=lo)(h2:lo<2 ^ 62)(h3:-(2 ^ 62)<=hi)(h4:hi<2 ^ 62)
  (q:R (Itr lo (hi-lo).toNat) H):wpAny (model X.prog X.w) X.A (pyIter (.ref s.heap.objs.size)) (PIE X pins σ tg R) E { s with heap:=s.heap.push { cls:=.type "range",data:=.fields #[.int lo t,.int hi u,.int 1 v] },toks:=tk }:=by
 refine wpAny_pyIter_range (IsRange.new ..) (small_one h1 h2 h3 h4) ?_
 have I1:Inv X pins σ H { s with heap:=s.heap.push { cls:=.type "range",data:=.fields #[.int lo t,.int hi u,.int 1 v] },toks:=tk }:=I.kept fun b o e=>Qb _ e
 refine⟨(s.heap.push { cls:=.type "range",data:=.fields #[.int lo t,.int hi u,.int 1 v] }).objs.size,[(s.heap.push { cls:=.type "range",data:=.fields #[.int lo t,.int hi u,.int 1 v] }).objs.size],_,_,H,rfl,
  I1.kept (t':=tk) fun b o e=>Qb _ e,y79 _ lo (hi-lo).toNat,?_,fun b hb=>?_,q⟩
 ·have e1:lo+((0:Nat):Int)*1=lo:=by simp
  have e2:(((hi-lo).toNat:Nat):Int)-((0:Nat):Int)=Builtin.Range.rangeSize lo hi 1:=by rw[rangeSize_one];split<;>omega
  show IsRangeIter _ _ (lo+((0:Nat):Int)*1) ((((hi-lo).toNat:Nat):Int)-((0:Nat):Int)) 1
  rw[e1,e2]
  exact Qo _ rfl
 ·have e:b=(s.heap.push { cls:=.type "range",data:=.fields #[.int lo t,.int hi u,.int 1 v] }).objs.size:=by simpa using hb
  subst e
  exact I1.fpOk (Qi _) (I1.hok.fresh (Qi _))
def j1x (ta:TA):TI:=fun σ H R=>ta σ H fun vs H1=>∃ j:Int,vs=[.int j] /\ -(2 ^ 62)<=j/\j<2 ^ 62/\R (Itr 0 j.toNat) H1
theorem y7s{a:Expr}{ta:TA}{p pos:Pos}(hg:Gl X "range")(hm:X.mg "range" = none)(ha:PA X [a] ta)(hs:starEach [a] X.env=[(false,eval a X.env)]:=by rfl):PI X tg (.Call (.Name "range" p) [a] [] pos) (j1x ta):=by
 intro pins s σ H R I h
 refine Call_ (y1f I hg hm boot_range (ZZ (thn (ha pos pins s σ H _ I h) fun us s1 ⟨vs,H1,I1,r1,q1⟩=>?_) hs rfl))
 obtain⟨j,e,q1,q2,q⟩:=q1
 subst e
 cases r1 with
 | cons r rr=>
  cases rr
  obtain⟨t,rfl⟩:=r
  exact call_range_1 (z3c I1 (by omega) (by omega) q1 q2 (by simpa using q))
def j3u (wi:TI)(g:TG)(tb:TS):TS:=fun D σ H=>wi σ H fun J H1=>∃ W:Nat->Nat->St->Hp->Prop,(∃ m,W 0 m σ H1)/\∀ i m σ H,W i m σ H->
 (J.stop i H/\D.nx σ H)\/(J.go i H/\∃ N:St->Hp->Prop,(∀ σ' H',N σ' H'->∃ m',m'<m/\W (i+1) m' σ' H')/\∀ x H',J.yld i H x H'->g x σ H' fun σ2 H2=>tb { D with nx:=N,ct:=N,bk:=D.nx } σ2 H2)
def x8o (fp:List Addr)(h:Heap):List (Addr×Obj):=fp.filterMap fun b=>(h.get? b).map fun o=>(b,o)
theorem x5s(hb:b∈fp)(e:h.get? b=some o):(b,o)∈x8o fp h:=YE.mpr ⟨b,hb,by rw[e];rfl⟩
theorem y30{p:Addr×Obj}(hp:p∈x8o fp h):p.1∈fp/\h.get? p.1=some p.2:=by
 obtain⟨b,hb,e⟩:=YE.mp hp
 cases q:h.get? b with
 | none=>rw[q]at e;cases e
 | some o=>
  rw[q]at e
  have e':(b,o)=p:=QC e
  subst e'
  exact⟨hb,q⟩
theorem Inv.pinned{σ:St}{H:Hp}(I:Inv X pins σ H s)(hf:∀ b∈fp,z0z X pins H b)(ho:∀ b∈fp,∃ o,s.heap.get? b=some o/\∀ v,o.data ≠ .cell v):Inv X (pins++x8o fp s.heap) σ H s:=
 I.pins_of fun p hp=>(Q2.mp hp).elim (fun z=>I.pin p (Qr _ z)) fun z=>by
  obtain⟨hb,e⟩:=y30 z
  obtain⟨f0,f1,f2,_⟩:=hf p.1 hb
  obtain⟨o,e',d⟩:=ho p.1 hb
  rw[e]at e';cases e'
  exact⟨e,f0,f1,f2,d⟩
theorem Inv.unpinned{pl:List (Addr×Obj)}{σ:St}{H:Hp}(I:Inv X (pins++pl) σ H s):Inv X pins σ H s:=I.pins_of fun p hp=>I.pin p (Qr _ (Q9 _ hp))
theorem z8p{iter:Expr}{wi:TI}{g:TG}{tb:TS}{pos:Pos}(hp:PassesOwn (model X.prog X.w) X.A X.env X.xe)(hc:X.calm=true)(hi:PI X tg iter wi)(hg:PG X tg g)(hb:PSs X body tb)
  (hs:∀ x,foldedSetIterable iter X.env x=pure x:=by intro _;rfl):PS X (.For tg iter body [] pos) (j3u wi g tb):=by
 intro pins s σ H D I h
 refine wpAny_For (thn (hi pins s σ H _ I h) fun v s1 h1=>thn h1 fun itv s2 h2=>?_) hs
 obtain⟨it,fp,tn,J,H2,e,I2,T,st2,f2,W,⟨m0,w0⟩,turn⟩:=h2
 subst e
 -- what stays true of the iterator's objects through the loop
 have stat:∀ {H':Hp},(∀ b∈fp,H' b=none)->∀ b∈fp,z0z X pins H' b:=fun hn b hb=>⟨hn b hb,(f2 b hb).2⟩
 refine codeAny_forLoop_any (fun n s'=>∃ i σ' H',Inv X pins σ' H' s'/\tn i s'.heap/\(∀ b∈fp,H' b=none)/\W i n σ' H') ?_ m0 ⟨0,σ,H2,I2,st2,fun b hb=>(f2 b hb).1,w0⟩
 rintro n s3 ⟨i,σ3,H3,I3,st3,fr3,w3⟩
 rcases turn i n σ3 H3 w3 with⟨stop,qn⟩|⟨go,N,hN,step⟩
 ·refine Z4 hp (thn (T.done X rfl rfl rfl hc i pins s3 σ3 H3 X.xe I3 (stat fr3) st3 stop) fun r s4 ⟨hr,I4⟩=>?_)
  subst hr
  exact Yp ⟨σ3,H3,I4,qn⟩
 ·refine Z4 hp (thn (T.item X rfl rfl rfl hc i pins s3 σ3 H3 X.xe I3 (stat fr3) st3 go) fun r s4 ⟨u,hr,h4⟩=>?_)
  subst hr
  refine Z4 hp (thn h4 fun _ s5 hh0=>?_)
  obtain⟨x,H5,I5,r5,y5,st5,fr5⟩:=hh0
  have I5':=I5.pinned (stat fr5) (T.obj _ _ st5)
  refine Z4 hp (thn (hg _ s5 σ3 H5 x u _ I5' r5 (step x H5 y5)) fun _ s6 hh0=>?_)
  obtain⟨σ6,H6,I6,q6⟩:=hh0
  refine Z4 hp (thn (hb _ s6 σ6 H6 _ I6 q6) fun f s7 q7=>?_)
  have again:∀ {σ7:St} {H7:Hp},Inv X (pins++x8o fp s5.heap) σ7 H7 s7->N σ7 H7->∃ m,m<n/\∃ i σ' H',Inv X pins σ' H' s7/\tn i s7.heap/\(∀ b∈fp,H' b=none)/\W i m σ' H':=fun {σ7 H7} I7 n7=>by
   obtain⟨m',hm,w7⟩:=hN σ7 H7 n7
   refine⟨m',hm,i+1,σ7,H7,I7.unpinned,T.keep _ _ _ st5 fun b hb o e=>(I7.pin (b,o) (Qr _ (Qr _ (x5s hb e)))).1,fun b hb=>?_,w7⟩
   obtain⟨o,e,d⟩:=T.obj _ _ st5 b hb
   exact(I7.pin (b,o) (Qr _ (Qr _ (x5s hb e)))).2.1
  cases f with
  | next=>obtain⟨σ7,H7,I7,n7⟩:=q7;exact again I7 n7
  | cont=>obtain⟨σ7,H7,I7,n7⟩:=q7;exact again I7 n7
  | brk=>obtain⟨σ7,H7,I7,q7⟩:=q7;exact⟨σ7,H7,I7.unpinned,q7⟩
  | ret v=>obtain⟨x7,σ7,H7,I7,r7,q7⟩:=q7;exact⟨x7,σ7,H7,I7.unpinned,r7,q7⟩
end
abbrev R2:=V->V->Hp->VK->Prop
def OpR (X:Cx)(f:Value->Value->Sem Value)(r:R2):Prop:=
 ∀ (pins:List (Addr×Obj)) (s:Shared) (σ:St) (H:Hp) (x y:V) (v u:Value) (Q:VK),Inv X pins σ H s->x2p x v->x2p y u->r x y H Q->
  wpAny (model X.prog X.w) X.A (f v u) (EP X pins σ Q) X.xe s
def x7b (X:Cx)(f:Value)(r:List V->Hp->VK->Prop):Prop:=
 ∀ (pins:List (Addr×Obj)) (s:Shared) (σ:St) (H:Hp) (xs:List V) (us:List Value) (Q:VK),Inv X pins σ H s->x1w xs us->r xs H Q->
  wpAny (model X.prog X.w) X.A (call f us) (EP X pins σ Q) X.xe s
def j3y (X:Cx)(r:V->Hp->(Bool->Hp->Prop)->Prop):Prop:=
 ∀ (pins:List (Addr×Obj)) (s:Shared) (σ:St) (H:Hp) (x:V) (v:Value) (Q:Bool->Hp->Prop),Inv X pins σ H s->x2p x v->r x H Q->
  wpAny (model X.prog X.w) X.A (truthy v) (TP X pins σ Q) X.xe s
def tOp (r:R2)(ta tb:TE):TE:=fun σ H Q=>ta σ H fun x H1=>tb σ H1 fun y H2=>r x y H2 Q
def rI (C:Int->Int->Prop)(g:Int->Int->V):R2:=fun x y H Q=>∃ i j,x=.int i/\y=.int j/\C i j/\Q (g i j) H
def rI0 (g:Int->Int->V):R2:=fun x y H Q=>∃ i j,x=.int i/\y=.int j/\Q (g i j) H
section
variable {X:Cx}{a b c:Expr}{ta tb tc:TE}{pos:Pos}
theorem j2a(ha:PE X a ta)(hb:PE X b tb){σ:St}{H:Hp}{R:V->V->Hp->Prop}(I:Inv X pins σ H s)
  (h:ta σ H fun x H1=>tb σ H1 fun y H2=>R x y H2) {Q:Value->Shared->Prop} 
  (hf:∀ v u s2 x y H2,Inv X pins σ H2 s2->x2p x v->x2p y u->R x y H2->wpAny (model X.prog X.w) X.A (f v u) Q X.xe s2) :
  wpAny (model X.prog X.w) X.A (eval a X.env) (fun v s₁=>wpAny (model X.prog X.w) X.A (eval b X.env) (fun u s₂=>wpAny (model X.prog X.w) X.A (f v u) Q X.xe s₂) X.xe s₁) X.xe s:=by
 refine thn (ha pins s σ H _ I h) fun v s1 hh0=>?_
 obtain⟨x,H1,I1,r1,q1⟩:=hh0
 refine thn (hb pins s1 σ H1 _ I1 q1) fun u s2 hh0=>?_
 obtain⟨y,H2,I2,r2,q2⟩:=hh0
 exact hf v u s2 x y H2 I2 r1 r2 q2
theorem y3o{op:Operator}{r:R2}(ho:OpR X (binaryOp op) r)(ha:PE X a ta)(hb:PE X b tb):PE X (.BinOp a op b pos) (tOp r ta tb):=by
 intro pins s σ H Q I h
 exact wpAny_BinOp (j2a ha hb I h fun v u s2 x y H2 I2 rx ry q=>ho pins s2 σ H2 x y v u Q I2 rx ry q)
theorem opI{f:Value->Value->Sem Value}{C:Int->Int->Prop}
  (rule:∀ (i j:Int) (t u:Tok) (s:Shared) (Q:Value->Shared->Prop) (E:Value->Shared->Prop),C i j->Q (.int (g i j) s.toks) { s with toks:=s.toks+1 }->wpAny (model X.prog X.w) X.A (f (.int i t) (.int j u)) Q E s) :
  OpR X f (rI C fun i j=>.int (g i j)):=by
 intro pins s σ H x y v u Q I rx ry h
 obtain⟨i,j,rfl,rfl,hc,q⟩:=h
 obtain⟨t,rfl⟩:=rx
 obtain⟨t',rfl⟩:=ry
 exact rule i j t t' s _ _ hc ⟨.int (g i j),H,I.tok _,⟨_,rfl⟩,q⟩
theorem j4e{f:Value->Value->Sem Value}
  (rule:∀ (i j:Int) (t u:Tok) (s:Shared) (Q:Value->Shared->Prop) (E:Value->Shared->Prop),Q (.int (g i j) s.toks) { s with toks:=s.toks+1 }->wpAny (model X.prog X.w) X.A (f (.int i t) (.int j u)) Q E s) :
  OpR X f (rI0 fun i j=>.int (g i j)):=by
 intro pins s σ H x y v u Q I rx ry h
 obtain⟨i,j,rfl,rfl,q⟩:=h
 obtain⟨t,rfl⟩:=rx
 obtain⟨t',rfl⟩:=ry
 exact rule i j t t' s _ _ ⟨.int (g i j),H,I.tok _,⟨_,rfl⟩,q⟩
theorem j32{g:Int->Int->Bool}
  (rule:∀ (i j:Int) (t u:Tok) (s:Shared) (Q:Value->Shared->Prop) (E:Value->Shared->Prop),Q (.bool (g i j)) s->wpAny (model X.prog X.w) X.A (f (.int i t) (.int j u)) Q E s) :
  OpR X f (rI0 fun i j=>.bl (g i j)):=by
 intro pins s σ H x y v u Q I rx ry h
 obtain⟨i,j,rfl,rfl,q⟩:=h
 obtain⟨t,rfl⟩:=rx
 obtain⟨t',rfl⟩:=ry
 exact rule i j t t' s _ _ ⟨.bl (g i j),H,I,rfl,q⟩
def j4f (i j:Int):Prop:=0<j/\j<1073741824
def j2v (i j:Int):Prop:=(-(2 ^ 64)<i/\i<2 ^ 64)\/(-(2 ^ 64)<j/\j<2 ^ 64)
theorem j2v.ok{i j:Int}(h:j2v i j):IntMulOk i j:=by
 rcases h with⟨h1,h2⟩|⟨h1,h2⟩
 ·exact .of_left (intBits_le_64 h1 h2)
 ·exact .of_right (intBits_le_64 h1 h2)
theorem z9z:OpR X (binaryOp .Add) (rI0 fun i j=>.int (i+j)):=j4e fun _ _ _ _ _ _ _ q=>add_int q
theorem z90:OpR X (binaryOp .Mult) (rI j2v fun i j=>.int (i*j)):=opI fun _ _ _ _ _ _ _ hc q=>mul_int q hc.ok
theorem z6t:OpR X (binaryOp .FloorDiv) (rI j4f fun i j=>.int (i / j)):=opI fun i j _ _ _ _ _ hc q=>by
 have h1:(0:Int)<j:=hc.1
 have h2:j<1073741824:=hc.2
 exact floordiv_int (by omega) (by rw[Int.fdiv_eq_ediv_of_nonneg i (by omega)];exact q) (.inl (PyProof.noPylong_small (by omega)))
theorem z9u:OpR X (binaryOp .Mod) (rI (fun _ j=>0<j) fun i j=>.int (i % j)):=opI fun i j _ _ _ _ _ hc q=>by
 have h1:(0:Int)<j:=hc
 exact mod_int' (by omega) (by rw[Int.fmod_eq_emod_of_nonneg i (by omega)];exact q)
theorem j0z:OpR X (compareOp .Lt) (rI0 fun i j=>.bl (decide (i<j))):=j32 fun _ _ _ _ _ _ _ q=>lt_int q
theorem j2m:OpR X (compareOp .LtE) (rI0 fun i j=>.bl (decide (i<=j))):=j32 fun _ _ _ _ _ _ _ q=>le_int q
theorem OpR.or{r r':R2}(h:OpR X f r)(h':OpR X f r'):OpR X f (fun x y H Q=>r x y H Q\/r' x y H Q):=by
 intro pins s σ H x y v u Q I rx ry q
 rcases q with q|q
 ·exact h pins s σ H x y v u Q I rx ry q
 ·exact h' pins s σ H x y v u Q I rx ry q
theorem y6j(b:Expr)(h:op ≠ .In:=by decide)(h2:op ≠ .NotIn:=by decide):behindInMarks op b=false:=by
 have e1:(op==CmpOp.In)=false:=by cases op<;>first|rfl|exact absurd rfl h
 have e2:(op==CmpOp.NotIn)=false:=by cases op<;>first|rfl|exact absurd rfl h2
 cases b<;>simp[behindInMarks,e1,e2]
theorem z52{r:R2}(ho:OpR X (compareOp op) r)(ha:PE X a ta)(hb:PE X b tb)(hm:behindInMarks op b=false):PE X (.Compare a [op] [b] pos) (tOp r ta tb):=by
 intro pins s σ H Q I h
 exact wpAny_Compare1 (j2a ha hb I h fun v u s2 x y H2 I2 rx ry q=>ho pins s2 σ H2 x y v u Q I2 rx ry q) hm
def z8a (t:TE):TT:=fun σ H Q=>t σ H fun x H'=>∃ k,x=.bl k/\Q k H'
theorem z6u{r:R2}(ho:OpR X (compareOp op) r)(ha:PE X a ta)(hb:PE X b tb)(hm:behindInMarks op b=false):PT X (.Compare a [op] [b] pos) (z8a (tOp r ta tb)):=by
 intro pins s σ H Q I h
 refine wpAny_isTrue_Compare1 (thn (ha pins s σ H _ I h) fun v s1 ⟨x,H1,I1,r1,q1⟩=>thn (hb pins s1 σ H1 _ I1 q1) fun u s2 ⟨y,H2,I2,r2,q2⟩=>
  thn (ho pins s2 σ H2 x y v u _ I2 r1 r2 q2) fun c s3 ⟨z,H3,I3,r3,k,e,q3⟩=>?_) hm
 subst e
 cases r3
 exact Ja ⟨H3,I3,q3⟩
def z86 (r r':R2)(ta tb tc:TE):TE:=fun σ H Q=>ta σ H fun x H1=>tb σ H1 fun y H2=>r x y H2 fun z H3=>∃ k,z=.bl k /\
 (if k=true then tc σ H3 fun w' H4=>r' y w' H4 Q else Q (.bl false) H3)
theorem z3b{op':CmpOp}{r r':R2}(ho:OpR X (compareOp op) r)(ho':OpR X (compareOp op') r')(ha:PE X a ta)(hb:PE X b tb)(hc:PE X c tc)
  (hm:lastMarks [op,op'] [b,c]=false:=by with_unfolding_all rfl):PE X (.Compare a [op,op'] [b,c] pos) (z86 r r' ta tb tc):=by
 intro pins s σ H Q I h
 refine Compare_chain (thn (ha pins s σ H _ I h) fun v s1 ⟨x,H1,I1,r1,q1⟩=>chain_link (thn (hb pins s1 σ H1 _ I1 q1) fun u s2 ⟨y,H2,I2,r2,q2⟩=>
  thn (ho pins s2 σ H2 x y v u _ I2 r1 r2 q2) fun d s3 ⟨z,H3,I3,r3,k,e,q3⟩=>?_)) hm
 subst e
 cases r3
 refine Ja ?_
 cases k with
 | false=>exact ite_ff ⟨.bl false,H3,I3,rfl,q3⟩
 | true=>exact ite_tt (chain_last (thn (hc pins s3 σ H3 _ I3 q3) fun w' s4 ⟨z',H4,I4,r4,q4⟩=>ho' pins s4 σ H4 y z' u w' Q I4 r2 r4 q4))
def j37 (K:PySem.W.Frag)(x:V)(H:Hp)(k:Bool):Prop:=
 match x with
 | .non=>k=false
 | .bl b=>k=b
 | .int i=>k=(i != 0)
 | .str y=>y.length<=sizeLine/\k=((y.length:Int) != 0)
 | .byt y=>y.size<=sizeLine/\k=((y.size:Int) != 0)
 | .ref p=>(∃ xs,SqL K H p xs/\k = !xs.isEmpty)\/(∃ xs,SqT K H p xs/\k = !xs.isEmpty)\/∃ kvs,H p=some (.dK kvs)/\k = !kvs.isEmpty
 | _=>False
theorem y74{κ:Type}{kvs:List (κ×V)}{vs:List (κ×Value)}(r:KV kvs vs):(!vs.isEmpty) = !kvs.isEmpty:=by
 cases r<;>rfl
theorem y18{xs:List V}{its:List Value}(r:x1w xs its):(!its.toArray.isEmpty) = !xs.isEmpty:=by
 cases r<;>simp
theorem y0x:(sizeLine:Nat)<2 ^ 63:=by rw[Jb];decide
theorem z8c:j3y X (fun x H Q=>∃ k,j37 X.K x H k/\Q k H):=by
 intro pins s σ H x v Q I rx h
 obtain⟨k,e,q⟩:=h
 have hl:=y0x
 have hs:sizeLine=16777216:=Jb
 cases x with
 | non=>
  cases rx
  have e':k=false:=e
  subst e'
  exact truthy_none ⟨H,I,q⟩
 | bl b=>
  cases rx
  have e':k=b:=e
  subst e'
  exact Ja ⟨H,I,q⟩
 | int i=>
  obtain⟨t,rfl⟩:=rx
  have e':k=(i != 0):=e
  subst e'
  exact PySem.P.truthy_int ⟨H,I,q⟩
 | str y=>
  obtain⟨t,rfl⟩:=rx
  obtain⟨hy,e'⟩:y.length<=sizeLine/\k=((y.length:Int) != 0):=e
  subst e'
  exact PySem.P.truthy_str (by omega) ⟨H,I.tok _,q⟩
 | byt y=>
  obtain⟨t,rfl⟩:=rx
  obtain⟨hy,e'⟩:y.size<=sizeLine/\k=((y.size:Int) != 0):=e
  subst e'
  exact PySem.W.truthy_bytes (by omega) ⟨H,I.tok _,q⟩
 | ref p=>
  cases rx
  have e':(∃ xs,SqL X.K H p xs/\k = !xs.isEmpty)\/(∃ xs,SqT X.K H p xs/\k = !xs.isEmpty)\/∃ kvs,H p=some (.dK kvs)/\k = !kvs.isEmpty:=e
  rcases e' with⟨xs,hx,e'⟩|⟨xs,hx,e'⟩|⟨kvs,hx,e'⟩
  ·subst e'
   obtain⟨its,r,pl,hz⟩:=I.list hx
   have hlen:=r.length
   exact wpAny_truthy_list pl.isList (by simp only[Qn];omega) ⟨H,I.tok _,by rw[y18 r];exact q⟩
  ·subst e'
   obtain⟨its,r,pl,hz⟩:=I.tuple hx
   have hlen:=r.length
   exact truthy_tuple pl (by simp only[Qn];omega) ⟨H,I.tok _,by rw[y18 r];exact q⟩
  ·subst e'
   obtain⟨hz,hS,vs,r,m⟩:kvs.length<=sizeLine/\(p==sysModules)=false/\∃ vs,KV kvs vs/\s.heap.DictOf (x1d X.prog X.w) p vs:=I.hok p _ hx
   have hlen:kvs.length=vs.length:=Y6 r
   exact wpAny_truthy_dict hS m (by omega) ⟨H,I.tok _,by rw[y74 r];exact q⟩
 | _=>exact(show False from e).elim
theorem z3e(ha:PE X a ta)(he:∀ whole,isTrue a X.env whole=(do let v <- whole;standAt a.pos;holding [v] (truthy v))) :
  PT X a (fun σ H Q=>ta σ H fun x H'=>∃ k,j37 X.K x H' k/\Q k H'):=by
 intro pins s σ H Q I h
 exact isTrue_plain (thn (ha pins s σ H _ I h) fun v s1 ⟨x,H1,I1,r1,q1⟩=>z8c pins s1 σ H1 x v Q I1 r1 q1) (he _)
theorem x9m{x:V}(r:x1w [x] us):∃ u,us=[u]/\x2p x u:=by
 cases r with
 | cons r1 r2=>cases r2;exact⟨_,rfl,r1⟩
theorem z9l{x y:V}(r:x1w [x,y] us):∃ u w',us=[u,w']/\x2p x u/\x2p y w':=by
 cases r with
 | cons r1 r2=>
  cases r2 with
  | cons r3 r4=>cases r4;exact⟨_,_,rfl,r1,r3⟩
theorem y9g(hc:X.calm=true):x7b X (.builtin "max") (fun xs H Q=>∃ i j,xs=[.int i,.int j]/\Q (.int (if j > i then j else i)) H):=by
 intro pins s σ H xs us Q I r h
 obtain⟨i,j,rfl,q⟩:=h
 obtain⟨u,w',rfl,⟨t,rfl⟩,⟨t',rfl⟩⟩:=z9l r
 refine max_two_ints (I.ok.hd hc) fun h' tk k=>⟨_,H,I.kept k,?_,q⟩
 by_cases hj:j > i
 ·rw[Qj hj,Qj hj];exact⟨_,rfl⟩
 ·rw[Qk hj,Qk hj];exact⟨_,rfl⟩
end
structure ObjM (h:Heap) (x dx C:Addr) (mA:Str->Option Value):Prop where
 obj:h.get? x=some (PySem.W.instObj C dx)
 ns:h.Ns1 dx mA
 ne:dx≠x
theorem z0o(n:h.Ns1 dx mA):∃ od,h.get? dx=some od/\∀ name,PySem.W.lookIn name od=some (mA name):=by
 obtain⟨o,es,ep,ho,hd,hk,_,hm⟩:=n
 refine⟨o,ho,fun name=>?_⟩
 have e:=hm name
 unfold nsFind findBy at e
 rw[<- Array.find?_toList]at e
 unfold PySem.W.lookIn
 rw[hd]
 dsimp only
 split
 ·rename_i y q
  rw[q]at e
  exact ZL some e
 ·rename_i q
  rw[q]at e
  have a:es.toList.any (·.refKey)=false:=by
   rw[List.any_eq_false]
   intro y hy
   obtain⟨z,t,hkey⟩:=hk y (Yl.mp hy)
   simp[DictEntry.refKey,hkey]
  have a':¬ es.toList.any (·.refKey)=true:=by rw[a];exact Zp
  rw[Qk a']
  exact ZL some e
theorem ObjM.look{x:Addr}(I:ObjM h x dx C mA):∃ od,PySem.W.InstAt h x (PySem.W.instObj C dx) C (some od)/\∀ name,PySem.W.lookIn name od=some (mA name):=
 let ⟨od,ho,hl⟩:=z0o I.ns
 ⟨od,⟨I.obj,rfl,rfl,ho⟩,hl⟩
theorem y7f.some_of{v:V}{o:Option Value}(r:y7f (some v) o):∃ u,o=some u/\x2p v u:=by
 cases o with
 | none=>exact(show False from r).elim
 | some u=>exact⟨u,rfl,r⟩
section
variable {P:Program}{w:World}{H H':Hp}{h h':Heap}{a C dx:Addr}{fs fs':List (Str×V)}
theorem x7z(hok:HOk P w H h)(e:H a=some (.ins C dx fs)):∃ mA,ObjM h a dx C mA/\(∀ f,y7f (fs.lookup f) (mA f))/\PySem.Within mA (fs.map (·.1))/\fs.length<=1000/\H dx=some (.own a):=by
 obtain⟨d,z,ne,ob,mA,n,r,q⟩:=(show x1q P w H h a (.ins C dx fs)from hok a _ e)
 exact⟨mA,⟨ob,n,ne⟩,r,q,z,d⟩
end
structure Cls (K:PySem.W.Frag) (C:Addr):Prop where
 pg:PySem.W.plainGet K C Str.empty=true
 hd:PySem.W.hasDictIn K C=true
 po:PySem.W.plainOver K C=true
 sa:PySem.W.findIn K (.ref C) "__setattr__" = some (some (.builtin "object.__setattr__"))
theorem Cls.get(c:Cls K C)(f:Str):PySem.W.plainGet K C f=true:=c.pg
section
variable {X:Cx}{pins:List (Addr×Obj)}{σ:St}{H:Hp}{s:Shared}{A:Around}{E:Value->Shared->Prop}{Q:Value->Shared->Prop}{c:Value}{b:Bool}
inductive TyOf (K:PySem.W.Frag) (H:Hp):V->Value->Prop where
 | non:TyOf K H .non (.type "NoneType")
 | bl (x:Bool):TyOf K H (.bl x) (.type "bool")
 | int (i:Int):TyOf K H (.int i) (.type "int")
 | str (x:Str):TyOf K H (.str x) (.type "str")
 | flt (x:UInt64):TyOf K H (.flt x) (.type "float")
 | lst {a:Addr} {xs:List V} (e:H a=some (.lst xs)):TyOf K H (.ref a) (.type "list")
 | frz {a:Addr} {o:Obj} {xs:List V} (e:H a=some (.frz o (.lst xs))):TyOf K H (.ref a) (.type "list")
 | tup {a:Addr} {xs:List V} (e:H a=some (.tup xs)):TyOf K H (.ref a) (.type "tuple")
 | dK {a:Addr} {kvs:List (Key×V)} (e:H a=some (.dK kvs)):TyOf K H (.ref a) (.type "dict")
 | dT {a:Addr} {kvs:List (List Key×V)} (e:H a=some (.dT kvs)):TyOf K H (.ref a) (.type "dict")
 | ins {a C dx:Addr} {fs:List (Str×V)} (e:H a=some (.ins C dx fs)) (cl:Cls K C) (ha:PySem.W.findIn K (.ref C) "__class__" = some (some (.builtin "object.__class__")))
   (hn:PySem.W.specialIn K (.builtin "object.__class__") "__get__" = some (some (.builtin "getset_descriptor.__get__"))) (htk:PySem.W.takesIn K (.builtin "object.__class__")=some true)
   (hm:PySem.W.mroIn K C (.type "object")=some true):TyOf K H (.ref a) (.ref C)
theorem x1c{x:V}{t:Value}(I:Inv X pins σ H s)(rx:x2p x u)(ty:TyOf X.K H x t)(e:PySem.W.kitOne X.K t c=some b)(h:∀ tk,Q (.bool b) { s with toks:=tk }) :
  wpAny (model X.prog X.w) A (call (.builtin "isinstance") [u,c]) Q E s:=by
 cases ty with
 | non=>cases (show u=Value.none from rx);exact Zl PySem.W.kitx_none I.kIn True.intro e (fun z=>nomatch z) h
 | bl y=>cases (show u=Value.bool y from rx);exact Zl PySem.W.kitx_bool I.kIn True.intro e (fun z=>nomatch z) h
 | int i=>obtain⟨t,q⟩:=(show ∃ t,u=Value.int i t from rx);cases q;exact Zl PySem.W.kitx_int I.kIn True.intro e (fun z=>nomatch z) h
 | str y=>obtain⟨t,q⟩:=(show ∃ t,u=Value.str y t from rx);cases q;exact Zl PySem.W.kitx_str I.kIn True.intro e (fun z=>nomatch z) h
 | flt y=>obtain⟨t,q⟩:=(show ∃ t,u=Value.float y t from rx);cases q;exact Zl PySem.W.kitx_float I.kIn True.intro e (fun z=>nomatch z) h
 | @lst a xs ea=>
  cases (show u=Value.ref a from rx)
  obtain⟨_,_,n,_,h1⟩:=(show x1q X.prog X.w H s.heap a (.lst xs)from I.hok a _ ea)
  exact Zl YY I.kIn ⟨_,h1,rfl⟩ e (fun z=>nomatch z) h
 | @frz a ob xs ea=>
  cases (show u=Value.ref a from rx)
  obtain⟨_,_,_,n,_,h1⟩:=(show x1q X.prog X.w H s.heap a (.frz ob (.lst xs))from I.hok a _ ea)
  exact Zl YY I.kIn ⟨_,h1,rfl⟩ e (fun z=>nomatch z) h
 | @tup a xs ea=>
  cases (show u=Value.ref a from rx)
  obtain⟨_,_,_,p⟩:=(show x1q X.prog X.w H s.heap a (.tup xs)from I.hok a _ ea)
  obtain⟨o,h1,h2,_⟩:=p
  exact Zl PySem.W.kitx_tuple I.kIn ⟨o,h1,h2⟩ e (fun z=>nomatch z) h
 | @dK a kvs ea=>
  cases (show u=Value.ref a from rx)
  obtain⟨_,_,vs,_,p⟩:=(show x1q X.prog X.w H s.heap a (.dK kvs)from I.hok a _ ea)
  obtain⟨o,es,ep,h1,h2,_⟩:=p
  exact Zl PySem.W.kitx_dict I.kIn ⟨o,h1,h2.1⟩ e (fun z=>nomatch z) h
 | @dT a kvs ea=>
  cases (show u=Value.ref a from rx)
  obtain⟨_,_,xs,_,o,es,ep,h1,h2,_⟩:=(show x1q X.prog X.w H s.heap a (.dT kvs)from I.hok a _ ea)
  exact Zl PySem.W.kitx_dict I.kIn ⟨o,h1,h2.1⟩ e (fun z=>nomatch z) h
 | @ins a C dx fs ea cl ha hn htk hm=>
  cases (show u=Value.ref a from rx)
  obtain⟨mA,O,_⟩:=x7z I.hok ea
  obtain⟨od,J,_⟩:=O.look
  exact Zl (PySem.W.kitx_own (cl.get _) cl.hd ha hn htk hm) I.kIn J e (fun z=>nomatch z) h
end
structure Room (k:Nat) (A:Around):Prop where
 hd:A.handled=none
 dp:A.depth+3*k+5<recursionLimit
 un:A.units+16*k+200<cLine
theorem Room.mono{k:Nat}(r:Room k A)(h:j<=k):Room j A:=⟨r.hd,by have:=r.dp;omega,by have:=r.un;omega⟩
theorem Room.deeper{k:Nat}(r:Room (k+1) A)(env:Env):Room k (A.deeper env):=
 ⟨r.hd,by have:=r.dp;show A.depth+1+3*k+5<_;omega,by have:=r.un;show A.units+3+16*k+200<_;omega⟩
theorem Room.depth{k:Nat}(r:Room k A):A.depth<recursionLimit:=by have:=r.dp;omega
theorem Room.units{k:Nat}(r:Room k A):A.units+64<cLine:=by have:=r.un;omega
def j34:TA:=fun _ H Q=>Q [] H
def j05 (ta:TE)(tr:TA):TA:=fun σ H Q=>ta σ H fun x H1=>tr σ H1 fun xs H2=>Q (x::xs) H2
section
variable {X:Cx}{e:Expr}{es:List Expr}{te:TE}{t:TA}{pos:Pos}
theorem x65:PA X [] j34:=fun _ _ _ _ H Q I h=>Calls.spliced_nil ⟨[],H,I,.nil,h⟩
theorem x3y(ha:PE X e te)(hr:PA X es t)(hs:starEach (e::es) X.env=(false,eval e X.env)::starEach es X.env:=by rfl):PA X (e::es) (j05 te t):=by
 intro pos pins s σ H Q I h
 rw[hs]
 show wpAny _ _ (spliced ((false,eval e X.env)::backTo pos (starEach es X.env))) _ _ s
 refine YF (thn (ha pins s σ H _ I h) fun u s1 hh0=>?_)
 obtain⟨x,H1,I1,r1,q1⟩:=hh0
 exact thn (hr pos pins s1 σ H1 _ I1 q1) fun us s2 ⟨xs,H2,I2,r2,q2⟩=>⟨x::xs,H2,I2,.cons r1 r2,q2⟩
def j43 (t:TA):TE:=fun σ H Q=>t σ H fun xs H1=>xs.length<=sizeLine/\∀ p,H1 p=none->Q (.ref p) (upd H1 p (.tup xs))
def j3j (t:TA):TE:=fun σ H Q=>t σ H fun xs H1=>xs.length<=sizeLine/\∀ p,H1 p=none->Q (.ref p) (upd H1 p (.lst xs))
theorem j0i{x1}(h:PA X es t):PE X (.Tuple es x1 pos) (j43 t):=by
 intro pins s σ H Q I hq
 refine wpAny_Tuple_spliced (thn (h pos pins s σ H _ I hq) fun us s1 ⟨xs,H1,I1,r,z,q⟩=>⟨by rw[<- r.length];exact z,?_⟩)
 have hf:H1 s1.heap.objs.size=none:=I1.hok.fresh (Qi _)
 refine⟨.ref s1.heap.objs.size,upd H1 s1.heap.objs.size (.tup xs),I1.laid (t':=s1.toks) (fun b u e=>Qb _ e) (Qi _) ?_,rfl,q _ hf⟩
 exact⟨z,us,r,⟨_,Qo _ rfl,rfl,⟨_,rfl⟩,rfl⟩⟩
theorem z9p(h:PA X es t):PE X (.List es pos) (j3j t):=by
 intro pins s σ H Q I hq
 refine wpAny_List_spliced (thn (h pos pins s σ H _ I hq) fun us s1 ⟨xs,H1,I1,r,z,q⟩=>⟨by rw[<- r.length];exact z,?_⟩)
 have hf:H1 s1.heap.objs.size=none:=I1.hok.fresh (Qi _)
 refine⟨.ref s1.heap.objs.size,upd H1 s1.heap.objs.size (.lst xs),I1.laid (t':=s1.toks) (fun b u e=>Qb _ e) (Qi _) ?_,rfl,q _ hf⟩
 exact⟨z,us,0,r,Qo _ rfl⟩
end
abbrev Sp:=List V->Hp->VK->XK->Prop
abbrev CXT:=List Env->Hp->Shared->XK->Value->Shared->Prop
structure Env0 (P:Program) (w:World) (K:PySem.W.Frag) (mg:Str->Option Value) (base:Heap) (A:Around) (outer:List Env) (s:Shared) (H:Hp):Prop where
 frames:A.frames=some outer
 mod:Mod K mg base
 bs:∀ b o,base.get? b=some o->s.heap.get? b=some o/\H b=none
 bsz:base.objs.size<=s.heap.objs.size
 funs:s.heap.FunFrames base outer
 frf:∀ b∈frs outer,H b=none
 hok:HOk P w H s.heap
 bare:AllBare s.gens
def CE (outer:List Env)(P:Program)(w:World)(H:Hp)(s:Shared)(Q:VK)(u:Value)(s':Shared):Prop:=
 ∃ v H',s'.os=s.os/\AllBare s'.gens/\Un (frs outer) [] H H' s.heap s'.heap/\HOk P w H' s'.heap/\x2p v u/\Q v H'
def CR (CX:CXT)(outer:List Env)(P:Program)(w:World)(H:Hp)(s:Shared)(Q:VK)(E:XK)(r:Result)(s':Shared):Prop:=
 match r with
 | .ok (.ret u)=>CE outer P w H s Q u s'
 | .ok _=>False
 | .error e=>CX outer H s E e s'
structure FnOk (P:Program) (w:World) (K:PySem.W.Frag) (mg:Str->Option Value) (base:Heap) (CX:CXT) (k:Nat) (f:Addr) (fd:FuncData) (ps:List Str) (sp:Sp):Prop where
 len:∀ vs H Q E,sp vs H Q E->vs.length=ps.length
 run:∀ (A:Around) (outer:List Env) (s:Shared) (H:Hp) (args:Args) (us:List Value) (vs:List V) (Q:VK) (E:XK),Room k A->Env0 P w K mg base A outer s H->BindsTo s fd args (ps.zip us)->x1w vs us->sp vs H Q E->
  codeAny (model P w) A (.call (.ref f) args) (CR CX outer P w H s Q E) s
section
variable {X:Cx}{pins:List (Addr×Obj)}{σ:St}{H:Hp}{s s':Shared}
theorem Inv.env0(I:Inv X pins σ H s):Env0 X.prog X.w X.K X.mg X.base X.A X.stack s H:=
 ⟨I.ok.frames,I.ok.mod,I.bs,QU I.ok.bsz I.sz,I.stack,I.stkFree,I.hok,I.bare⟩
theorem Inv.after{Q:VK}(I:Inv X pins σ H s)(h:CE X.stack X.prog X.w H s Q u s'):EP X pins σ Q u s':=by
 obtain⟨v,H',os,bare,un,hok,r,q⟩:=h
 obtain⟨hh,g,d,t,os'⟩:=s'
 obtain rfl:os'=s.os:=os
 exact⟨v,H',I.call (h':=hh) (g':=g) (d':=d) (t':=t) (ch:=[]) un hok bare (fun b z=>absurd z (by simp)),r,q⟩
end
def j30 (sp:Sp)(dvs:List V)(E:XK)(t:TA):TE:=fun σ H Q=>t σ H fun vs H1=>sp (vs++dvs) H1 Q E
def y2u (K:PySem.W.Frag)(fd:FuncData)(ps:List Str)(ds:List Value):Prop:=
 ∀ (s:Shared) (us:List Value),K.In s.heap->(us++ds).length=ps.length->BindsTo s fd ⟨us,[]⟩ (ps.zip (us++ds))
theorem y2u.all{fd:FuncData}(h:∀ us:List Value,us.length=ps.length->bindArgs fd ⟨us,[]⟩=pure (ps.zip us)):y2u K fd ps []:=fun s us _ hl=>by
 rw[Z5]at hl ⊢
 exact .of_eq (h us hl)
def y6a (CX:CXT)(X:Cx)(E:XK):Prop:=∀ (pins:List (Addr×Obj)) (σ:St) (H:Hp) (s:Shared) (e:Value) (s':Shared),Inv X pins σ H s->CX X.stack H s E e s'->X.xe e s'
section
variable {X:Cx}{CX:CXT}{k:Nat}{f C:Addr}{fd:FuncData}{ps:List Str}{sp:Sp}{dvs:List V}{ds:List Value}{E:XK}{x m:Str}{p pos apos:Pos}{e o:Expr}{es:List Expr}{ta:TE}{t:TA}
theorem j0u{σ:St}{H:Hp}{Q:VK}{vs:List V}(F:FnOk X.prog X.w X.K X.mg X.base CX k f fd ps sp)(hr:Room k X.A)(hb:y2u X.K fd ps ds)(hd:x1w dvs ds)(hx:y6a CX X E)
  (I:Inv X pins σ H s) (r:x1w vs us) (h:sp (vs++dvs) H Q E):wpAny (model X.prog X.w) X.A (call (.ref f) us) (EP X pins σ Q) X.xe s:=by
 have r2:x1w (vs++dvs) (us++ds):=r.append hd
 have hl:(us++ds).length=ps.length:=by rw[<- r2.length];exact F.len _ _ _ _ h
 refine wpAny_call (JX (F.run X.A X.stack s H ⟨us,[]⟩ (us++ds) (vs++dvs) Q E hr I.env0 (hb s us I.kIn hl) r2 h) fun r s' hq=>?_)
 cases r with
 | error e=>exact hx pins σ H s e s' I hq
 | ok fl=>
  cases fl with
  | ret u=>exact I.after hq
  | next=>exact False.elim hq
  | brk=>exact False.elim hq
  | cont=>exact False.elim hq
theorem z5r(F:FnOk X.prog X.w X.K X.mg X.base CX k f fd ps sp)(hr:Room k X.A)(hg:Gl X x)(hm:X.mg x=some (.ref f))(hk:PySem.W.keepIn X.K (.ref f)=true)(hb:y2u X.K fd ps ds)(hd:x1w dvs ds)(hx:y6a CX X E)
  (ha:PA X (e::es) t) (hdb:(x==("__debug__":Str))=false:=by decide) (he:starEach (e::es) X.env=(false,eval e X.env)::starEach es X.env:=by rfl) (hpl:(backTo pos (starEach es X.env)).any (·.1)=false:=by rfl) :
  PE X (.Call (.Name x p) (e::es) [] pos) (j30 sp dvs E t):=by
 intro pins s σ H Q I h
 refine YG (z5w I hg hm ?_ hdb)
 refine PySem.W.callWith_K (h₀:=X.base) I.ok.mod.kin hk (thn (ha pos pins s σ H _ I h) fun us s1 ⟨vs,H1,I1,r,q⟩=>⟨I1.kIn,?_⟩) he hpl
 exact j0u F hr hb hd hx I1 r q
structure Mk (K:PySem.W.Frag) (C f:Addr):Prop where
 makes:PySem.W.makesIn K C=true
 init:PySem.W.findIn K (.ref C) "__init__" = some (some (.ref f))
 fn:PySem.W.isFn K (.ref f)=true
 kp:PySem.W.keepIn K (.ref C)=true
end
structure FnScope (N P:List Str) (sc:Scope):Prop where
 kind:sc.kind=.function
 co:sc.isCoroutine=false
 gen:sc.isGenerator=false
 nd:N.Nodup
 pre:N.take P.length=P
 par:∀ x∈P,sc.names.lookup x=some .local\/sc.names.lookup x=some .cell
 nofree:∀ y∈sc.names,y.2 ≠ .free
theorem fsq{N P:List Str}(a:sc.kind=.function:=by rfl)(b:sc.isCoroutine=false:=by rfl)(c:sc.isGenerator=false:=by rfl)(d:N.Nodup:=by decide +kernel)(e:N.take P.length=P:=by rfl)(f:∀ x∈P,sc.names.lookup x=some .local\/sc.names.lookup x=some .cell:=by decide +kernel)(g:∀ y∈sc.names,y.2 ≠ .free:=by decide +kernel):FnScope N P sc:=⟨a,b,c,d,e,f,g⟩
theorem y3n:∀ {binds:List (Str×Value)} {m:Str->Option Value},(∀ v,(x,v) ∉ binds)->bindL kindOf binds m x=m x
 | [],_,_=>rfl
 | (n,v)::r,m,h=>by
  unfold bindL
  rw[y3n fun w hw=>h w (Qe _ hw)]
  split
  ·have:x≠n:=by rintro rfl;exact h v Qf
   simp[this]
  ·rfl
theorem y3c:∀ {binds:List (Str×Value)} {m:Str->Option Value},(∀ v,(x,v) ∉ binds)->bindC kindOf binds m x=m x
 | [],_,_=>rfl
 | (n,v)::r,m,h=>by
  unfold bindC
  rw[y3c fun w hw=>h w (Qe _ hw)]
  split
  ·rfl
  ·have:x≠n:=by rintro rfl;exact h v Qf
   simp[this]
theorem y3d:∀ {P:List Str} {vs:List Value} {i:Nat} {m:Str->Option Value},P.Nodup->P[i]? = some x->vs[i]? = some v->kindOf x=some .local->
  bindL kindOf (P.zip vs) m x=some v
 | [],_,_,_,_,h,_,_=>by simp at h
 | _::_,[],_,_,_,_,h,_=>by simp at h
 | p::P,w::vs,0,m,nd,h1,h2,hk=>by
  simp at h1 h2;subst h1;subst h2
  show bindL kindOf ((p,w)::P.zip vs) m p=_
  unfold bindL
  rw[y3n fun v hv=>(QW.mp nd).1 (Yq hv).1,Qj hk]
  simp
 | p::P,w::vs,i+1,m,nd,h1,h2,hk=>by
  show bindL kindOf ((p,w)::P.zip vs) m x=_
  unfold bindL
  exact y3d (i:=i) (QW.mp nd).2 (by simpa using h1) (by simpa using h2) hk
theorem y2z:∀ {P:List Str} {vs:List Value} {i:Nat} {m:Str->Option Value},P.Nodup->P[i]? = some x->vs[i]? = some v->kindOf x≠some .local->
  bindC kindOf (P.zip vs) m x=some v
 | [],_,_,_,_,h,_,_=>by simp at h
 | _::_,[],_,_,_,_,h,_=>by simp at h
 | p::P,w::vs,0,m,nd,h1,h2,hk=>by
  simp at h1 h2;subst h1;subst h2
  show bindC kindOf ((p,w)::P.zip vs) m p=_
  unfold bindC
  rw[y3c fun v hv=>(QW.mp nd).1 (Yq hv).1,Qk hk]
  simp
 | p::P,w::vs,i+1,m,nd,h1,h2,hk=>by
  show bindC kindOf ((p,w)::P.zip vs) m x=_
  unfold bindC
  exact y2z (i:=i) (QW.mp nd).2 (by simpa using h1) (by simpa using h2) hk
def start (N:List Str)(vs:List V):St:=vs.map some++List.replicate (N.length-vs.length) none
def y7u (CX:CXT)(P:Program)(w:World)(K:PySem.W.Frag)(mg:Str->Option Value)(base:Heap)(N:List Str)(qual:Str)(scope:Scope)(f:Addr)(cd:Value)(A:Around)(outer:List Env)(s:Shared)(H:Hp)(E:XK):Cx where
 prog:=P
 w:=w
 K:=K
 mg:=mg
 base:=base
 A:=A.deeper (envOfC qual scope s.heap.objs.size f cd)
 N:=N
 s₀:=s
 H₀:=H
 env:=envOfC qual scope s.heap.objs.size f cd
 outer:=outer
 stack:=envOfC qual scope s.heap.objs.size f cd::outer
 ex:=[]
 calm:=true
 fn:=fun _=>true
 pn:=[]
 xe:=fun e s'=>wpAny (model P w) (A.deeper (envOfC qual scope s.heap.objs.size f cd)) (leaving (envOfC qual scope s.heap.objs.size f cd) e) (fun _ s''=>CX outer H s E e s'') (fun e' s''=>CX outer H s E e' s'') s'
theorem y5n(h:sc.names.lookup x=some .cell):∃ c,(cellsFrom n sc.names []).lookup x=some c:=by
 have q:=Jr sc.names n [] (.inl h)
 exact Jg.mp q
theorem z0x{CX:CXT}{f:Addr}{cd:Value}{outer:List Env}{s1:Shared}{H:Hp}{E:XK}{vs:List V}
  (S:FnScope N ps scope) (hd:A.handled=none) (e0:Env0 P w K mg base A outer s H) (hl:vs.length=ps.length) (r:x1w vs us)
  (x:InCallC s s.heap.objs.size (bindL (envOfC qual scope s.heap.objs.size f cd).kindOf (ps.zip us) fun _=>none) (cellsFrom (s.heap.objs.size+1) scope.names []) (bindC (envOfC qual scope s.heap.objs.size f cd).kindOf (ps.zip us) fun _=>none) s1) :
  Inv (y7u CX P w K mg base N qual scope f cd A outer s H E) [] (start N vs) H s1:=by
 have hpl:ps.length<=N.length:=by have:=ZL List.length S.pre;rw[Q3]at this;omega
 obtain⟨h1,tk,rfl,hk⟩:=x.done
 have noA:∀ b:Addr,b ∉ (y7u CX P w K mg base N qual scope f cd A outer s H E).ex:=fun b z=>absurd (show b∈([]:List Addr)from z) (by simp)
 refine⟨⟨e0.mod,S.kind,rfl,rfl,Qi _,fun y z c h1 h2=>?_,fun y hy=>?_,fun y c _ h=>?_,fun _=>hd,Around.frames_deeper e0.frames,.inr ⟨rfl,rfl⟩,fun b z=>absurd z (noA b),e0.bs,e0.bsz,fun b _ _=>noA b,fun b z=>absurd z (noA b),e0.funs,e0.frf⟩,
  rfl,e0.bare,Un.kept hk,⟨_,x.toInCall.ns,fun i y v h1 h2 h3=>?_⟩,fun y c h=>⟨_,x.cell y c h⟩,e0.hok.fresh (Qi _),fun y c h=>?_,fun p hp=>absurd (show p∈([]:List (Addr×Obj))from hp) (by simp),e0.hok.kept hk,?_⟩
 ·exact name_of_addr x.apart (QO h1) (QO h2)
 ·have hy:scope.names.lookup y=some .cell\/scope.names.lookup y=some .free:=hy
  rcases hy with hy|hy
  ·exact y5n hy
  ·exact absurd rfl (S.nofree _ (QO hy))
 ·exact ZP (x.above y c (QO h))
 ·have hi:i<vs.length:=by
   unfold start at h2
   by_cases hi:i<vs.length
   ·exact hi
   ·rw[Zm (by simpa using hi)]at h2
    rw[ZS]at h2
    split at h2<;>cases h2
  have ha:vs[i]? = some v:=by
   unfold start at h2
   rw[QS (by simpa using hi),Ql]at h2
   cases e:vs[i]? with
   | none=>rw[e]at h2;cases h2
   | some a=>rw[e]at h2;cases h2;rfl
  obtain⟨u,hu,rv⟩:=r.get ha
  have hp:ps[i]? = some y:=by
   rw[<- S.pre,ZQ (by omega)];exact h1
  have ndP:ps.Nodup:=by rw[<- S.pre];exact S.nd.sublist (List.take_sublist _ _)
  refine⟨u,rv,?_⟩
  rcases S.par y (Qy hp)with k|k
  ·exact .inl ⟨k,y3d ndP hp hu k⟩
  ·obtain⟨c,e⟩:=y5n (n:=s.heap.objs.size+1) k
   refine .inr ⟨.inl k,c,e,?_⟩
   have q:=x.cell y c e
   rw[y2z ndP hp hu (by show scope.names.lookup y≠_;rw[k];decide)]at q
   exact q
 ·exact e0.hok.fresh (ZP (x.above y c (QO h)))
 ·unfold start
  show _=N.length
  rw[Qw,Qc,Zy]
  omega
theorem j1t{CX:CXT}{k:Nat}{f:Addr}{name:Str}{params:Arguments}{dV kV doc pm cdv ct oc:Value}{an od:Option Addr}
  {osl:Array (Option Value)}  {sp:Sp} (lk:K.lookup f=some ⟨oc,od,.func (PySem.W.fnOf name qual params body scope dV kV doc pm an cdv ct),osl⟩) (hcd:PySem.W.codeIn K cdv qual=true) (S:FnScope N ps scope)
  (len:∀ vs H Q E,sp vs H Q E->vs.length=ps.length)
  (hbody:∀ (A:Around) (outer:List Env) (s:Shared) (H:Hp) (vs:List V) (Q:VK) (E:XK),Room k (A.deeper (envOfC qual scope s.heap.objs.size f cdv))->sp vs H Q E->
    ∃ t,PSs (y7u CX P w K mg base N qual scope f cdv A outer s H E) body t/\t { nx:=fun _ H'=>Q .non H',rt:=Q } (start N vs) H) :
  FnOk P w K mg base CX (k+1) f (PySem.W.fnOf name qual params body scope dV kV doc pm an cdv ct) ps sp:=by
 refine⟨len,fun A outer s H args us vs Q E hr e0 hb r hsp=>?_⟩
 have hl:=len _ _ _ _ hsp
 have KX:K.In s.heap:=e0.mod.kin.keeps fun b o e=>(e0.bs b o e).1
 have lim:s.heap.NoLimit:=e0.mod.nolimit.keeps fun b o e=>(e0.bs b o e).1
 have hkind:∀ y∈ps.zip us,scope.names.lookup y.1=some .local\/(scope.names.lookup y.1=some .cell/\((cellsFrom (s.heap.objs.size+1) scope.names []).lookup y.1).isSome=true):=fun⟨n,v⟩ hy=>by
  rcases S.par n (Yq hy).1 with q|q
  ·exact .inl q
  ·exact .inr ⟨q,Jr _ _ _ (.inl q)⟩
 refine codeAny_call_function hr.depth (KX _ _ lk) rfl S.co S.gen rfl (PySem.W.codeRec_of KX hcd) (hb _ _ _ _ ?_)
 refine wpAny_newFunctionEnv_cells S.kind hkind fun env he s1 x=>?_
 subst he
 refine⟨lim.keeps x.toInCall.keep,codeAny_func ?_⟩
 obtain⟨t,ht,hq⟩:=hbody A outer s H vs Q E (hr.deeper _) hsp
 have I:Inv (y7u CX P w K mg base N qual scope f cdv A outer s H E) [] (start N vs) H s1:=z0x S hr.hd e0 hl r x
 refine ZE (ht [] s1 (start N vs) H _ I hq) (fun fl s' hs=>?_) fun e s' hs=>hs
 have fin:∀ {σ':St} {H':Hp} {v:V} {u:Value},Inv (y7u CX P w K mg base N qual scope f cdv A outer s H E) [] σ' H' s'->x2p v u->Q v H'->CE outer P w H s Q u s':=
  fun {σ' H' v u} J rv q=>⟨v,H',J.os,J.bare,J.base,J.hok,rv,q⟩
 cases fl with
 | ret u=>
  obtain⟨v,σ',H',J,rv,q⟩:=hs
  exact fin J rv q
 | next=>
  obtain⟨σ',H',J,q⟩:=hs
  exact fin (v:=V.non) (u:=Value.none) J rfl q
 | brk=>
  obtain⟨_,_,_,q⟩:=hs
  exact False.elim q
 | cont=>
  obtain⟨_,_,_,q⟩:=hs
  exact False.elim q
section
variable {X:Cx}{x:Str}{p pos:Pos}{e:Expr}{es:List Expr}{t:TA}{id T:String}{r:List V->Hp->VK->Prop}
def tCB (r:List V->Hp->VK->Prop)(t:TA):TE:=fun σ H Q=>t σ H fun vs H1=>r vs H1 Q
theorem x3i(hc:x7b X (.builtin id) r)(hg:Gl X x)(hm:X.mg x=none)(hv:bootBuiltins x=some (.builtin id))(ha:PA X (e::es) t)(hn:x ≠ "__name__":=by decide)(hdb:(x==("__debug__":Str))=false:=by decide)
  (he:starEach (e::es) X.env=(false,eval e X.env)::starEach es X.env:=by rfl) (hpl:(backTo pos (starEach es X.env)).any (·.1)=false:=by rfl):PE X (.Call (.Name x p) (e::es) [] pos) (tCB r t):=by
 intro pins s σ H Q I h
 refine YG (y1f I hg hm hv ?_ hn hdb)
 exact PyProof.Rows.callWith_builtin1 (thn (ha pos pins s σ H _ I h) fun us s1 ⟨vs,H1,I1,r1,q1⟩=>hc pins s1 σ H1 vs us Q I1 r1 q1) he hpl
theorem x59(hc:x7b X (.type T) r)(hg:Gl X x)(hm:X.mg x=none)(hv:bootBuiltins x=some (.type T))(ha:PA X (e::es) t)(hn:x ≠ "__name__":=by decide)(hdb:(x==("__debug__":Str))=false:=by decide)
  (he:starEach (e::es) X.env=(false,eval e X.env)::starEach es X.env:=by rfl) (hpl:(backTo pos (starEach es X.env)).any (·.1)=false:=by rfl):PE X (.Call (.Name x p) (e::es) [] pos) (tCB r t):=by
 intro pins s σ H Q I h
 refine YG (y1f I hg hm hv ?_ hn hdb)
 exact ZZ (thn (ha pos pins s σ H _ I h) fun us s1 ⟨vs,H1,I1,r1,q1⟩=>hc pins s1 σ H1 vs us Q I1 r1 q1) he hpl
end
end L2
namespace HT
open PySem PyProof.Rows
variable {Q:Value->Shared->Prop}{hi lo:Option Int}{sl:Addr}{vl vu:Value}
section
open PySem.SeqAt
open PySem.AutoSeq1 (wpAny_loadPart')
open PySem.MeetsSeq PySem.MeetsSeq2 PySem.MeetsSeq3
end
section
variable {prog:Program}{w:World}{A:Around}{E:Value->Shared->Prop}{s:Shared}
theorem j2q{t b:Addr}{vs ws:List Value}(ht:IsTup s.heap t vs.toArray)(hb:IsTup s.heap b ws.toArray)(hv:vs ≠ [])
  (h1:ws=[]->Q (.ref t) s) (h2:ws ≠ []->Q (.ref s.heap.objs.size) { s with heap:=s.heap.push { cls:=.type "tuple",data:=.seq (vs++ws).toArray } })
  (hsz:vs.length+ws.length<=sizeLine):wpAny (model prog w) A (binaryOp .Add (.ref t) (.ref b)) Q E s:=by
 obtain⟨⟨cls,dd,data,sl⟩,ho,hc,n,hd⟩:=id ht
 obtain⟨⟨cls2,dd2,data2,sl2⟩,ho2,hc2,n2,hd2⟩:=id hb
 simp only at hc hd hc2 hd2
 subst hc hd hc2 hd2
 have e:vs.toArray++ws.toArray=(vs++ws).toArray:=by simp
 by_cases hw:ws=[]
 ·exact Vo ⟨_,ho,rfl⟩ ⟨_,ho2,rfl⟩ Vf seq_tuple_add JY JS (JI _ _)
   (tuple_addW1 t b vs.toArray ws.toArray n n2 dd dd2 sl sl2 (by simpa using hv) (by simp[hw])) ⟨ho,ho2,h1 hw⟩
 ·refine Vo ⟨_,ho,rfl⟩ ⟨_,ho2,rfl⟩ Vf seq_tuple_add JY JS (JI _ _)
   (tuple_addW2 t b vs.toArray ws.toArray n n2 dd dd2 sl sl2 (by simpa using hv) (by simpa using hw) (by rw[Qn,Qn];exact hsz)) ⟨ho,ho2,?_⟩
  rw[e]
  exact h2 hw
def sIx (n d:Nat):Option Int->Nat
 | none=>d
 | some v=>if v<0 then(v+(n:Int)).toNat else min v.toNat n
theorem z9o(n d:Nat)(hd:d<=n)(o:Option Int):sIx n d o<=n:=by
 cases o with
 | none=>exact hd
 | some v=>
  show(if v<0 then(v+(n:Int)).toNat else min v.toNat n)<=n
  by_cases hv:v<0
  ·rw[Qj hv];omega
  ·rw[Qk hv];exact Nat.min_le_right _ _
theorem y8y(v:Int)(n d:Nat):(if v<0 then max (v+(n:Int)) 0 else min v (n:Int))=((sIx n d (some v):Nat):Int):=by
 show(if v<0 then max (v+(n:Int)) 0 else min v (n:Int))=(((if v<0 then(v+(n:Int)).toNat else min v.toNat n):Nat):Int)
 by_cases hv:v<0
 ·simp only[Qj hv];omega
 ·simp only[Qk hv];omega
theorem y6v(lo hi:Option Int)(n:Nat):Builtin.Slice.sliceAdjust lo hi 1 (n:Int)=(((sIx n 0 lo:Nat):Int),((sIx n n hi:Nat):Int)):=by
 have h1:¬ ((1:Int)<0):=by omega
 unfold Builtin.Slice.sliceAdjust
 simp only[h1,Zn]
 refine VT ?_ ?_
 ·cases lo with
  | none=>rfl
  | some v=>exact y8y v n 0
 ·cases hi with
  | none=>rfl
  | some v=>exact y8y v n n
theorem y73(i j:Nat):Builtin.Slice.slicePlaces (i:Int) (j:Int) 1=j-i:=by
 unfold Builtin.Slice.slicePlaces
 have h1:(1:Int) > 0:=by omega
 simp only[h1,ZD,Int.ediv_one]
 split<;>omega
theorem y1a{v:Value}{o:Option Int}{Q:Option Int->Shared->Prop}(p:IsPart v o)(h:Q o s):wpAny (model prog w) A (Builtin.Slice.slicePartIndex v) Q E s:=by
 cases p with
 | none=>exact slicePart_none h
 | int i t=>exact slicePart_int h
theorem x8r{n:Nat}{Q:Int×Int×Nat->Shared->Prop}(hs:s.heap.IsSliceOf sl vl vu .none)(pl:IsPart vl lo)(pu:IsPart vu hi)
  (h:Q (((sIx n 0 lo:Nat):Int),1,sIx n n hi-sIx n 0 lo) s):wpAny (model prog w) A (Builtin.Slice.sliceApplied (.ref sl) (pure (n:Int))) Q E s:=by
 obtain⟨os,hos,hcs,hds⟩:=id hs
 unfold Builtin.Slice.sliceApplied Builtin.Slice.sliceFields
 refine wpAny_bind (wpAny_bind (Zw hos hds (x:=vl) rfl (wpAny_bind (Zw hos hds (x:=vu) rfl (wpAny_bind (Zw hos hds (x:=.none) rfl (Qd ?_)))))))
 refine wpAny_bind (slicePart_none ?_)
 show wpAny _ _ (if((1:Int)==0)=true then _ else _) _ _ s
 rw[Qk (by decide)]
 refine wpAny_bind (y1a pl (wpAny_bind (y1a pu (wpAny_bind (Qd ?_)))))
 show wpAny _ _ (match Builtin.Slice.sliceAdjust lo hi 1 (n:Int)with|(lo,hi)=>pure (lo,(1:Int),Builtin.Slice.slicePlaces lo hi 1)) _ _ s
 rw[y6v lo hi n]
 show wpAny _ _ (pure (((sIx n 0 lo:Nat):Int),(1:Int),Builtin.Slice.slicePlaces ((sIx n 0 lo:Nat):Int) ((sIx n n hi:Nat):Int) 1)) _ _ s
 rw[y73]
 exact Qd h
theorem z34(xs:Array Value)(i k:Nat):((List.range k).filterMap fun(m:Nat)=>xs[((i:Int)+(m:Int)*1).toNat]?).toArray=((xs.toList.drop i).take k).toArray:=by
 have e:(fun(m:Nat)=>xs[((i:Int)+(m:Int)*1).toNat]?)=fun m=>xs[i+m]?:=by
  funext m
  have:((i:Int)+(m:Int)*1).toNat=i+m:=by omega
  rw[this]
 rw[e]
 have:=pick_run xs i k
 rw[List.filterMap_map]at this
 have e2:((fun x=>xs[x]?) ∘ fun x=>i+x)=fun m=>xs[i+m]?:=rfl
 rw[e2]at this
 rw[this]
theorem y75{t:Addr}{items:Array Value}(ht:IsTup s.heap t items)(hs:s.heap.IsSliceOf sl vl vu .none)(pl:IsPart vl lo)(pu:IsPart vu hi)
  (hw:¬ (sIx items.size 0 lo=0/\sIx items.size items.size hi=items.size))
  (h:Q (.ref s.heap.objs.size) { s with heap:=s.heap.push { cls:=.type "tuple",data:=.seq ((items.toList.drop (sIx items.size 0 lo)).take (sIx items.size items.size hi-sIx items.size 0 lo)).toArray } })
  (hsz:items.size<=sizeLine):wpAny (model prog w) A (getItem (.ref t) (.ref sl)) Q E s:=by
 have htake:sizeOk (.seq ((items.toList.drop (sIx items.size 0 lo)).take (sIx items.size items.size hi-sIx items.size 0 lo)).toArray):=by
  show((items.toList.drop (sIx items.size 0 lo)).take (sIx items.size items.size hi-sIx items.size 0 lo)).toArray.size<=sizeLine
  rw[Qn,Q3,ZN,QI]
  omega
 have hj:sIx items.size items.size hi<=items.size:=z9o _ _ (Qi _) hi
 obtain⟨os,hos,hcs,hds⟩:=id hs
 have hTs:s.TypeIs (.ref sl) "slice":=⟨os,hos,hcs⟩
 unfold getItem
 try with_reducible refine Za ?_
 first|refine wpAny_bind (Qd ?_)|skip
 refine wpAny_bind (wpAny_sequenceKey ht.typeIs (by decide) ?_)
 refine wpAny_bind (Q4 (name:=Str.ofString "__getitem__") ht.typeIs Zj
  (Q1 Zj ht.typeIs entry_tuple_getitem ?_ (args_tuple_getitem _ _)))
 show wpAny _ _ (Builtin.Tuple.tupleItemsOf (.ref t) >>= _) _ _ s
 refine wpAny_bind (tupleItemsOf_ ht ?_)
 refine wpAny_bind (JZ hTs ?_)
 rw[Qj (by decide)]
 refine wpAny_bind (x8r hs pl pu ?_)
 have hno:¬ ((((sIx items.size 0 lo:Nat):Int)==0&&(1:Int)==1&&(sIx items.size items.size hi-sIx items.size 0 lo)==items.size)=true):=by
  intro q
  rw[Yg,Yg]at q
  have q1:((sIx items.size 0 lo:Nat):Int)=0:=eq_of_beq q.1.1
  have q2:sIx items.size items.size hi-sIx items.size 0 lo=items.size:=eq_of_beq q.2
  exact hw ⟨by omega,by omega⟩
 show wpAny _ _ (if(((sIx items.size 0 lo:Nat):Int)==0&&(1:Int)==1&&(sIx items.size items.size hi-sIx items.size 0 lo)==items.size)=true then _ else _) _ _ s
 rw[Qk hno,z34]
 first
  | exact wpAny_bind (m:=Builtin.Tuple.tupleExact _) (Q0 (Qd ⟨_,rfl,Qd h⟩) htake)
  | exact wpAny_bind (m:=Builtin.Tuple.tupleExact _) (Q0 (wpAny_bind (Qd (Qd ⟨_,rfl,Qd h⟩))) htake)
  | exact wpAny_bind (wpAny_bind (m:=Builtin.Tuple.tupleExact _) (Q0 (Qd (Qd ⟨_,rfl,Qd h⟩)) htake))
  | exact wpAny_bind (wpAny_bind (m:=Builtin.Tuple.tupleExact _) (Q0 (Qd ⟨_,rfl,Qd h⟩) htake))
end
end HT
namespace L2
open PySem PySem.Spec PyProof.Rows
variable {H:Hp}{i:Int}{n:Nat}{pins:List (Addr×Obj)}{r:V->Option Int->Option Int->Hp->VK->Prop}{s:Shared}{us:List Value}{xs:List V}{σ:St}
abbrev TO:=St->Hp->(Option Int->Hp->Prop)->Prop
def PO (X:Cx)(e:Option Expr)(t:TO):Prop:=
 ∀ (pins:List (Addr×Obj)) (s:Shared) (σ:St) (H:Hp) (Q:Option Int->Hp->Prop),Inv X pins σ H s->t σ H Q->
  wpAny (model X.prog X.w) X.A (evalPart e X.env) (fun u s'=>∃ o H',Inv X pins σ H' s'/\IsPart u o/\Q o H') X.xe s
def z6l:TO:=fun _ H Q=>Q none H
def j25 (t:TE):TO:=fun σ H Q=>t σ H fun x H1=>∃ i,x=.int i/\Q (some i) H1
section
variable {X:Cx}{e:Expr}{te:TE}{lo hi:Option Expr}{tl th:TO}{pos p2:Pos}
theorem z7m:PO X none z6l:=by
 intro pins s σ H Q I h
 rw[evalPart_none]
 exact Qd ⟨none,H,I,.none,h⟩
theorem z55(h:PE X e te):PO X (some e) (j25 te):=by
 intro pins s σ H Q I hw
 rw[evalPart_some]
 refine thn (h pins s σ H _ I hw) fun u s1 hh0=>?_
 obtain⟨x,H1,I1,r1,q1⟩:=hh0
 obtain⟨i,rfl,q⟩:=q1
 obtain⟨t,rfl⟩:=r1
 exact⟨some i,H1,I1,.int i t,q⟩
def SlR (X:Cx)(r:V->Option Int->Option Int->Hp->VK->Prop):Prop:=
 ∀ (pins:List (Addr×Obj)) (s:Shared) (σ:St) (H:Hp) (x:V) (v vl vu:Value) (lo hi:Option Int) (sl:Addr) (Q:VK),Inv X pins σ H s->x2p x v->s.heap.IsSliceOf sl vl vu .none->IsPart vl lo->IsPart vu hi->r x lo hi H Q->
  ∃ T id,typeLookup (.type T) "__getitem__" = pure (some (.builtin id))/\s.TypeIs v T/\wpAny (model X.prog X.w) X.A (getItem v (.ref sl)) (EP X pins σ Q) X.xe s
theorem SlR.or{r':V->Option Int->Option Int->Hp->VK->Prop}(h:SlR X r)(h':SlR X r'):SlR X (fun x lo hi H Q=>r x lo hi H Q\/r' x lo hi H Q):=by
 intro pins s σ H x v vl vu lo hi sl Q I rx hs pl pu q
 rcases q with q|q
 ·exact h pins s σ H x v vl vu lo hi sl Q I rx hs pl pu q
 ·exact h' pins s σ H x v vl vu lo hi sl Q I rx hs pl pu q
def tSl (r:V->Option Int->Option Int->Hp->VK->Prop)(te:TE)(tl th:TO):TE:=fun σ H Q=>te σ H fun x H1=>tl σ H1 fun l H2=>th σ H2 fun u H3=>r x l u H3 Q
theorem y5q(hr:SlR X r)(he:PE X e te)(hl:PO X lo tl)(hu:PO X hi th):PE X (.Subscript e (.Slice lo hi none p2) pos) (tSl r te tl th):=by
 intro pins s σ H Q I h
 refine Subscript_ (thn (he pins s σ H _ I h) fun v s1 hh0=>?_)
 obtain⟨x,H1,I1,r1,q1⟩:=hh0
 refine wpAny_Slice (thn (hl pins s1 σ H1 _ I1 q1) fun vl s2 ⟨l,H2,I2,pl,q2⟩=>thn (hu pins s2 σ H2 _ I2 q2) fun vu s3 hh0=>?_)
 obtain⟨u,H3,I3,pu,q3⟩:=hh0
 rw[evalPart_none]
 refine Qd ?_
 have I4:Inv X pins σ H3 { s3 with heap:=s3.heap.push { cls:=.type "slice",data:=.fields #[vl,vu,.none] } }:=I3.kept (t':=s3.toks) fun b ob q=>Qb _ q
 obtain⟨T,id,hT,ht,hg⟩:=hr pins { s3 with heap:=s3.heap.push { cls:=.type "slice",data:=.fields #[vl,vu,.none] } } σ H3 x v vl vu l u s3.heap.objs.size Q I4 r1 (Heap.IsSliceOf.new ..) pl pu q3
 show wpAny (model X.prog X.w) X.A (subscriptTail e (.Slice lo hi none p2) v (.ref s3.heap.objs.size)) (EP X pins σ Q) X.xe { s3 with heap:=s3.heap.push { cls:=.type "slice",data:=.fields #[vl,vu,.none] } }
 exact tail_any (ops:=[.ref s3.heap.objs.size,v]) ht hT hg (by with_unfolding_all rfl)
def z17 (xs:List V)(lo hi:Option Int):List V:=(xs.drop (HT.sIx xs.length 0 lo)).take (HT.sIx xs.length xs.length hi-HT.sIx xs.length 0 lo)
theorem x9l(xs:List V)(lo hi:Option Int):(z17 xs lo hi).length<=xs.length:=by
 unfold z17
 rw[Q3,ZN]
 omega
def j4h (K:PySem.W.Frag):V->Option Int->Option Int->Hp->VK->Prop:=fun x lo hi H Q=>∃ a xs,x=.ref a/\SqT K H a xs /\
 ¬ (HT.sIx xs.length 0 lo=0/\HT.sIx xs.length xs.length hi=xs.length)/\∀ p,H p=none->Q (.ref p) (upd H p (.tup (z17 xs lo hi)))
theorem j10:SlR X (j4h X.K):=by
 intro pins s σ H x v vl vu lo hi sl Q I rx hs pl pu h
 obtain⟨a,xs,rfl,hx,hw,q⟩:=h
 cases rx
 obtain⟨its,r,ht,hz⟩:=I.tuple hx
 have hlen:its.toArray.size=xs.length:=by rw[Qn];exact r.length.symm
 refine⟨"tuple",_,Zj.lookup,ht.typeIs,?_⟩
 refine HT.y75 ht hs pl pu (by rw[hlen];exact hw) ?_ (by rw[hlen];exact hz)
 rw[hlen]
 refine⟨.ref s.heap.objs.size,_,I.laid (t':=s.toks) (o:=.tup (z17 xs lo hi)) (fun b ob q=>Qb _ q) (Qi _) ?_,rfl,q _ (I.hok.fresh (Qi _))⟩
 exact⟨QU (x9l xs lo hi) hz,_,(r.drop (HT.sIx xs.length 0 lo)).take (HT.sIx xs.length xs.length hi-HT.sIx xs.length 0 lo),x4e.new _ _⟩
def j1r (K:PySem.W.Frag):R2:=fun x y H Q=>∃ a b xs ys,x=.ref a/\y=.ref b/\SqT K H a xs/\SqT K H b ys/\xs ≠ []/\xs.length+ys.length<=sizeLine /\
 (ys=[]->Q (.ref a) H)/\(ys ≠ []->∀ p,H p=none->Q (.ref p) (upd H p (.tup (xs++ys))))
theorem x1w.nil_iff(r:x1w xs us):us=[] ↔ xs=[]:=by
 cases r with
 | nil=>simp
 | cons _ _=>simp
theorem z4t:OpR X (binaryOp .Add) (j1r X.K):=by
 intro pins s σ H x y v u Q I rx ry h
 obtain⟨a,b,xs,ys,rfl,rfl,ha,hb,hx,hz,q1,q2⟩:=h
 cases rx
 cases ry
 obtain⟨its,r1,p1,_⟩:=I.tuple ha
 obtain⟨its2,r2,p2,_⟩:=I.tuple hb
 refine HT.j2q p1 p2 (fun z=>hx (r1.nil_iff.mp z)) (fun z=>⟨.ref a,H,I,rfl,q1 (r2.nil_iff.mp z)⟩) (fun z=>?_) (by rw[<- r1.length,<- r2.length];exact hz)
 refine⟨.ref s.heap.objs.size,_,I.laid (t':=s.toks) (o:=.tup (xs++ys)) (fun b ob q=>Qb _ q) (Qi _) ?_,rfl,q2 (fun w=>z (r2.nil_iff.mpr w)) _ (I.hok.fresh (Qi _))⟩
 exact⟨by rw[Qw];exact hz,_,r1.append r2,x4e.new _ _⟩
end
def ixN (n:Nat)(i:Int):Option Nat:=if 0<=i then(if i<n then some i.toNat else none)else if -(n:Int)<=i then some (i+n).toNat else none
def atI {α:Type}(xs:List α)(i:Int):Option α:=(ixN xs.length i).bind fun j=>xs[j]?
theorem y51{j:Nat}(h:ixN n i=some j):seqIndex? i n=some j/\j<n /\ -(n:Int)<=i/\i<n:=by
 unfold ixN at h
 by_cases h0:0<=i
 ·rw[Qj h0]at h
  by_cases h1:i<n
  ·rw[Qj h1]at h
   have e:i.toNat=j:=QC h
   exact⟨by rw[seqIndex_of h0 h1,e],by omega,by omega,h1⟩
  ·rw[Qk h1]at h;cases h
 ·rw[Qk h0]at h
  by_cases h1:-(n:Int)<=i
  ·rw[Qj h1]at h
   have e:(i+n).toNat=j:=QC h
   exact⟨by rw[seqIndex_neg (by omega) h1,e],by omega,h1,by omega⟩
  ·rw[Qk h1]at h;cases h
theorem y4t{α:Type}{xs:List α}{v:α}(h:atI xs i=some v):∃ j,seqIndex? i xs.length=some j/\xs[j]? = some v/\j<xs.length /\ -(xs.length:Int)<=i/\i<xs.length:=by
 unfold atI at h
 cases e:ixN xs.length i with
 | none=>rw[e]at h;cases h
 | some j=>
  rw[e]at h
  obtain⟨h1,h2,h3,h4⟩:=y51 e
  exact⟨j,h1,h,h2,h3,h4⟩
def x84 (b:Expr):Prop:=∀ o i,subscripted b false o i=operate [o,i] (getItem o i)
def IxR (X:Cx)(r:R2):Prop:=
 ∀ (value slice:Expr) (pins:List (Addr×Obj)) (s:Shared) (σ:St) (H:Hp) (x y:V) (v u:Value) (Q:VK),Inv X pins σ H s->x2p x v->x2p y u->r x y H Q->
  subscripted slice false v u=operate [v,u] (getItem v u)->wpAny (model X.prog X.w) X.A (subscriptTail value slice v u) (EP X pins σ Q) X.xe s
def MtR (X:Cx)(id:String)(r:V->List V->Hp->VK->Prop):Prop:=
 ∀ (pins:List (Addr×Obj)) (s:Shared) (σ:St) (H:Hp) (x:V) (xs:List V) (v:Value) (us:List Value) (Q:VK),Inv X pins σ H s->x2p x v->x1w xs us->r x xs H Q->
  wpAny (model X.prog X.w) X.A (call (.builtin id) (v::us)) (EP X pins σ Q) X.xe s
section
variable {X:Cx}{a b:Expr}{ta tb:TE}{pos:Pos}
theorem IxR.or{r r':R2}(h:IxR X r)(h':IxR X r'):IxR X (fun x y H Q=>r x y H Q\/r' x y H Q):=by
 intro value slice pins s σ H x y v u Q I rx ry q hs
 rcases q with q|q
 ·exact h value slice pins s σ H x y v u Q I rx ry q hs
 ·exact h' value slice pins s σ H x y v u Q I rx ry q hs
theorem z0b{r:R2}(hr:IxR X r)(ha:PE X a ta)(hb:PE X b tb)(hs:x84 b):PE X (.Subscript a b pos) (tOp r ta tb):=by
 intro pins s σ H Q I h
 exact Subscript_ (j2a ha hb I h fun v u s2 x y H2 I2 rx ry q=>hr a b pins s2 σ H2 x y v u Q I2 rx ry q (hs _ _))
def j33 (K:PySem.W.Frag):R2:=fun x y H Q=>∃ p xs i v,x=.ref p/\y=.int i/\SqL K H p xs/\atI xs i=some v/\Q v H
def j38 (K:PySem.W.Frag):R2:=fun x y H Q=>∃ p xs i v,x=.ref p/\y=.int i/\SqT K H p xs/\atI xs i=some v/\Q v H
def j36:R2:=fun x y H Q=>∃ z i c,x=.str z/\y=.int i/\z.length<=sizeLine/\atI z.cps.toList i=some c/\Q (.str ⟨#[c]⟩) H
theorem z6w:IxR X (j33 X.K):=by
 intro value slice pins s σ H x y v u Q I rx ry h hs
 obtain⟨p,xs,i,z,rfl,rfl,hq,he,q⟩:=h
 cases rx
 obtain⟨t,rfl⟩:=ry
 obtain⟨its,r,pl,hz⟩:=I.list hq
 obtain⟨j,h1,h2,h3,h4,h5⟩:=y4t he
 obtain⟨w,ew,rw'⟩:=r.get h2
 have hl:=r.length
 have hn:=y0x
 have fin:EP X pins σ Q w s:=⟨z,H,I,rw',q⟩
 by_cases h0:0<=i
 ·have hj:i.toNat=j:=by
   rw[seqIndex_of h0 h5]at h1
   exact QC h1
  exact item_listR pl.isList h0 (by omega) (by rw[hj];simpa using ew) fin hs
 ·have hj:(i+(its.toArray.size:Int)).toNat=j:=by
   rw[seqIndex_neg (by omega) h4]at h1
   rw[Qn,<- hl]
   exact QC h1
  exact subscriptTail_builtinR (x:=w) pl.isList.typeIs slot_list_getitem.lookup
   (wpAny_getItem_list_neg (Q:=fun r s'=>r=w/\EP X pins σ Q r s') pl.isList (by omega) (by rw[Qn]<;>omega) (by omega) (by rw[hj];simpa using ew) ⟨rfl,fin⟩) hs
theorem j0h:IxR X (j38 X.K):=by
 intro value slice pins s σ H x y v u Q I rx ry h hs
 obtain⟨p,xs,i,z,rfl,rfl,hq,he,q⟩:=h
 cases rx
 obtain⟨t,rfl⟩:=ry
 obtain⟨its,r,pl,hz⟩:=I.tuple hq
 obtain⟨j,h1,h2,h3,h4,h5⟩:=y4t he
 obtain⟨w,ew,rw'⟩:=r.get h2
 have hl:=r.length
 have hn:=y0x
 have fin:EP X pins σ Q w s:=⟨z,H,I,rw',q⟩
 exact subscriptTail_builtinR (x:=w) pl.typeIs slot_tuple_getitem.lookup
  (getItem_tuple (j:=j) (Q:=fun r s'=>r=w/\EP X pins σ Q r s') pl (by omega) (by omega) (by rw[Qn,<- hl];exact h1) (by simpa using ew) ⟨rfl,fin⟩) hs
theorem z8d:IxR X j36:=by
 intro value slice pins s σ H x y v u Q I rx ry h hs
 obtain⟨z,i,c,rfl,rfl,hz,he,q⟩:=h
 obtain⟨t,rfl⟩:=rx
 obtain⟨t',rfl⟩:=ry
 obtain⟨j,h1,h2,h3,h4,h5⟩:=y4t he
 have hl:z.cps.toList.length=z.length:=by simp[Str.length]
 rw[hl]at h1 h4 h5
 have hn:=y0x
 exact tail_any (typeIs_str s z t) slot_str_getitem.lookup (getItem_str (c:=c) (by
  have e1:decide (i < -(2 ^ 63:Int))=false:=QK (by omega)
  have e2:decide (i ≥ 2 ^ 63)=false:=QK (by omega)
  rw[e1,e2,Bool.or_false]) (by rw[h1];simpa using h2) ⟨.str ⟨#[c]⟩,H,I.tok _,⟨_,rfl⟩,q⟩) hs
def rIx (K:PySem.W.Frag):R2:=fun x y H Q=>j33 K x y H Q\/j38 K x y H Q\/j36 x y H Q
theorem y3u:IxR X (rIx X.K):=z6w.or (j0h.or z8d)
theorem y7b(its:List Value)(n j:Nat)(u:Value):Obj.mapSeq (·.setIfInBounds j u) { cls:=.type "list",data:=.seq its.toArray n }={ cls:=.type "list",data:=.seq (its.set j u).toArray n }:=by
 simp[Obj.mapSeq]
theorem Inv.lst{pins:List (Addr×Obj)}{σ:St}{H:Hp}{s:Shared}{p:Addr}{xs:List V}(I:Inv X pins σ H s)(h:H p=some (.lst xs)) :
  ∃ (its:List Value) (n:Nat),x1w xs its/\s.heap.get? p=some { cls:=.type "list",data:=.seq its.toArray n }/\xs.length<=sizeLine:=by
 obtain⟨z,its,n,r,e⟩:=I.hok p _ h
 exact⟨its,n,r,e,z⟩
theorem Inv.lstUpd{p:Addr}{xs ys:List V}{its its':List Value}{n n':Nat}{f:Obj->Obj}(I:Inv X pins σ H s)(h:H p=some (.lst xs))
  (ho:s.heap.get? p=some { cls:=.type "list",data:=.seq its.toArray n }) (hf:f { cls:=.type "list",data:=.seq its.toArray n }={ cls:=.type "list",data:=.seq its'.toArray n' }) (r:x1w ys its') (hz:ys.length<=sizeLine) (t:Nat) :
  Inv X pins σ (upd H p (.lst ys)) { s with heap:=s.heap.update p f,toks:=t }:=by
 have e:(s.heap.update p f).get? p=some { cls:=.type "list",data:=.seq its'.toArray n' }:=by
  rw[ZM f ho (by rw[hf]<;>rfl),hf]
 refine I.write (x:=p) (e:=p) (by rw[h];trivial) (.inl rfl) (fun b u hb q=>(ZF _ _ (Zi hb)).trans q) ⟨_,e⟩ ?_
 exact⟨hz,its',n',r,e⟩
def j2c:V->V->V->Hp->(Hp->Prop)->Prop:=fun o i v H Q=>∃ p xs k j,o=.ref p/\i=.int k/\H p=some (.lst xs)/\ixN xs.length k=some j/\Q (upd H p (.lst (xs.set j v)))
theorem z22:j35 X j2c:=by
 intro pins s σ H o i v ov iv u Q I ro ri rv h
 obtain⟨p,xs,k,j,rfl,rfl,hp,hj,q⟩:=h
 cases ro
 obtain⟨t,rfl⟩:=ri
 obtain⟨its,n,r,ho,hz⟩:=I.lst hp
 obtain⟨h1,h2,h3,h4⟩:=y51 hj
 have hl:=r.length
 have hn:=y0x
 have I':Inv X pins σ (upd H p (.lst (xs.set j v))) { s with heap:=s.heap.update p (Obj.mapSeq (·.setIfInBounds j u)) }:=
  I.lstUpd hp ho (y7b its n j u) (r.set rv j) (by rw[Ze];exact hz) s.toks
 by_cases h0:0<=k
 ·have hk:k.toNat=j:=by
   rw[seqIndex_of h0 h4]at h1
   exact QC h1
  exact PySem.W.ki_setAt ho h0 (by omega) (by rw[Qn,<- hl];exact h4) (by rw[hk];exact⟨_,I',q⟩)
 ·have hk:(k+(its.toArray.size:Int)).toNat=j:=by
   rw[seqIndex_neg (by omega) h3]at h1
   rw[Qn,<- hl]
   exact QC h1
  exact PySem.W.ki_setBack ho (by omega) (by rw[Qn,<- hl];exact h3) (by omega) (by rw[hk];exact⟨_,I',q⟩)
theorem y3a(lo hi:Option Int)(n:Nat):(sliceBounds lo hi none n).1=((HT.sIx n 0 lo:Nat):Int)/\(sliceBounds lo hi none n).2.1=((HT.sIx n n hi:Nat):Int)/\(sliceBounds lo hi none n).2.2=1:=by
 refine⟨?_,?_,rfl⟩
 ·cases lo with
  | none=>simp[sliceBounds,HT.sIx]
  | some i=>
   simp only[sliceBounds,HT.sIx,Option.getD_none,show(1:Int) > 0 by decide,ZD]
   by_cases h:i<0
   ·simp only[h,ZD]<;>omega
   ·simp only[h,Zn]<;>omega
 ·cases hi with
  | none=>simp[sliceBounds,HT.sIx]
  | some i=>
   simp only[sliceBounds,HT.sIx,Option.getD_none,show(1:Int) > 0 by decide,ZD]
   by_cases h:i<0
   ·simp only[h,ZD]<;>omega
   ·simp only[h,Zn]<;>omega
theorem y1v(its:List Value)(lo hi:Option Int):slicePick its.toArray lo hi none=((its.drop (HT.sIx its.length 0 lo)).take (HT.sIx its.length its.length hi-HT.sIx its.length 0 lo)).toArray:=by
 obtain⟨h1,h2,h3⟩:=y3a lo hi its.toArray.size
 unfold slicePick
 rw[h1,h2,h3]
 simp only[sliceRange_one,pick_run,Qn]<;>rfl
def j41 (K:PySem.W.Frag):V->Option Int->Option Int->Hp->VK->Prop:=fun x lo hi H Q=>∃ a xs,x=.ref a/\SqL K H a xs/\∀ p,H p=none->Q (.ref p) (upd H p (.lst (z17 xs lo hi)))
theorem z70:SlR X (j41 X.K):=by
 intro pins s σ H x v vl vu lo hi sl Q I rx hs pl pu h
 obtain⟨a,xs,rfl,hx,q⟩:=h
 cases rx
 obtain⟨its,r,ht,hz⟩:=I.list hx
 have hlen:=r.length
 refine⟨"list",_,slot_list_getitem.lookup,ht.isList.typeIs,?_⟩
 refine wpAny_getItem_list_slice ht.isList hs pl pu .none (by simp) ?_ (by rw[Qn]<;>omega)
 rw[y1v,<- hlen]
 refine⟨.ref s.heap.objs.size,_,I.laid (t':=s.toks) (o:=.lst (z17 xs lo hi)) (fun b ob q=>Qb _ q) (Qi _) ?_,rfl,q _ (I.hok.fresh (Qi _))⟩
 exact⟨QU (x9l xs lo hi) hz,_,0,(r.drop (HT.sIx xs.length 0 lo)).take (HT.sIx xs.length xs.length hi-HT.sIx xs.length 0 lo),Qo _ rfl⟩
theorem x5n:x7b X (.builtin "len") (fun xs H Q=>∃ p ys,xs=[.ref p]/\(SqL X.K H p ys\/SqT X.K H p ys)/\Q (.int ys.length) H):=by
 intro pins s σ H xs us Q I r h
 obtain⟨p,ys,rfl,hq,q⟩:=h
 obtain⟨u,rfl,rx⟩:=x9m r
 cases rx
 have hn:=y0x
 rcases hq with hq|hq
 ·obtain⟨its,r',pl,hz⟩:=I.list hq
  have hlen:=r'.length
  exact Calls.call_len_list pl.isList (by simp only[Qn]<;>omega) ⟨.int ys.length,H,I.tok _,⟨s.toks+1,by rw[Qn,hlen]⟩,q⟩
 ·obtain⟨its,r',pl,hz⟩:=I.tuple hq
  have hlen:=r'.length
  exact len_tuple pl (by simp only[Qn]<;>omega) ⟨.int ys.length,H,I.tok _,⟨s.toks+1,by rw[Qn,hlen]⟩,q⟩
theorem y3i:x7b X (.type "list") (fun xs H Q=>∃ p ys,xs=[.ref p]/\(SqL X.K H p ys\/SqT X.K H p ys)/\∀ l,H l=none->Q (.ref l) (upd H l (.lst ys))):=by
 intro pins s σ H xs us Q I r h
 obtain⟨p,ys,rfl,hq,q⟩:=h
 obtain⟨u,rfl,rx⟩:=x9m r
 cases rx
 have fin:∀ (its:List Value),x1w ys its->ys.length<=sizeLine->∀ (h':Heap) (c':Nat),(∀ b o',s.heap.get? b=some o'->h'.get? b=some o')->
   h'.get? s.heap.objs.size=some { cls:=.type "list",dict:=none,data:=.seq its.toArray c',slots:=#[] }->EP X pins σ Q (.ref s.heap.objs.size) { s with heap:=h' }:=fun its r' hz h' c' kp e=>
  ⟨.ref s.heap.objs.size,_,I.laid (t':=s.toks) kp (Qi _) (show x1q X.prog X.w _ h' _ (.lst ys)from⟨hz,its,c',r',e⟩),rfl,q _ (I.hok.fresh (Qi _))⟩
 rcases hq with hq|hq
 ·obtain⟨its,r',pl,hz⟩:=I.list hq
  have hlen:=r'.length
  obtain⟨o,ho,hc,n,hd⟩:=pl.isList
  exact call_list_seq p (.inl rfl) ho hc hd (fun h' c' kp e=>fin its r' hz h' c' kp e) (by simp only[Qn]<;>omega)
 ·obtain⟨its,r',pl,hz⟩:=I.tuple hq
  have hlen:=r'.length
  obtain⟨o,ho,hc,n,hd⟩:=pl
  exact call_list_seq p (.inr rfl) ho hc hd (fun h' c' kp e=>fin its r' hz h' c' kp e) (by simp only[Qn]<;>omega)
theorem y2a:x7b X (.type "tuple") (fun xs H Q=>∃ p ys,xs=[.ref p]/\((SqL X.K H p ys/\∀ l,H l=none->Q (.ref l) (upd H l (.tup ys)))\/(SqT X.K H p ys/\Q (.ref p) H))):=by
 intro pins s σ H xs us Q I r h
 obtain⟨p,ys,rfl,h⟩:=h
 obtain⟨u,rfl,rx⟩:=x9m r
 cases rx
 rcases h with⟨hq,q⟩|⟨hq,q⟩
 ·obtain⟨its,r',pl,hz⟩:=I.list hq
  have hlen:=r'.length
  refine call_tuple_list pl.isList (fun h' kp=>?_) (by simp only[Qn]<;>omega)
  have I1:Inv X pins σ H { s with heap:=h' }:=I.kept (t':=s.toks) kp
  have I2:Inv X pins σ (upd H h'.objs.size (.tup ys)) { s with heap:=h'.push { cls:=.type "tuple",data:=.seq its.toArray } }:=
   I1.laid (t':=s.toks) (fun b o e=>Qb _ e) (Qi _) (show x1q X.prog X.w _ _ _ (.tup ys)from⟨hz,its,r',x4e.new _ _⟩)
  exact⟨.ref h'.objs.size,_,I2,rfl,q _ (I1.hok.fresh (Qi _))⟩
 ·obtain⟨its,r',pl,hz⟩:=I.tuple hq
  exact call_tuple_same pl ⟨.ref p,H,I,rfl,q⟩
def tyV (K:PySem.W.Frag)(T:String)(x:V)(H:Hp):Prop:=match x with
 | .str _=>T = "str"
 | .int _=>T = "int"
 | .ref p=>(T = "list" /\ ∃ xs,SqL K H p xs)\/(T = "tuple" /\ ((∃ o,K.lookup p=some o/\o.cls=.type "tuple" /\ o.dict=none)\/∃ xs,H p=some (.tup xs))) \/
   (T = "dict" /\ ((∃ kvs,H p=some (.dK kvs))\/∃ kvs,H p=some (.dT kvs)))\/(T = "set" /\ ∃ S n,H p=some (.set S n))
 | _=>False
theorem j04{T:String}{x:V}{v:Value}(I:Inv X pins σ H s)(r:x2p x v)(ty:tyV X.K T x H) :
  s.TypeIs v T/\∀ a,v=.ref a->∃ ob,s.heap.get? a=some ob/\ob.dict=none:=by
 cases x with
 | str z=>
  obtain⟨t,rfl⟩:=r
  cases (show T = "str" from ty)
  exact⟨typeIs_str s z t,fun _ e=>nomatch e⟩
 | int i=>
  obtain⟨t,rfl⟩:=r
  cases (show T = "int" from ty)
  exact⟨Vq s i t,fun _ e=>nomatch e⟩
 | ref p=>
  cases r
  rcases ty with⟨rfl,xs,hq⟩|⟨rfl,⟨o,hk,hc,hd⟩|⟨xs,hk⟩⟩|⟨rfl,hk⟩|⟨rfl,S,n,hk⟩
  ·obtain⟨its,_,pl,_⟩:=I.list hq
   refine⟨pl.isList.typeIs,fun a e=>?_⟩
   cases e
   obtain⟨o,n,e,c,hd,_⟩:=pl
   exact⟨o,e,hd⟩
  ·refine⟨⟨o,I.kIn p o hk,hc⟩,fun a e=>?_⟩
   cases e
   exact⟨o,I.kIn _ o hk,hd⟩
  ·obtain⟨_,its,_,o,e,c,_,hd⟩:=(show x1q X.prog X.w H s.heap p (.tup xs)from I.hok p _ hk)
   refine⟨⟨o,e,c⟩,fun a e2=>?_⟩
   cases e2
   exact⟨o,e,hd⟩
  ·have z:∃ o,s.heap.get? p=some o/\o.ExactDict:=by
    rcases hk with⟨kvs,hk⟩|⟨kvs,hk⟩
    ·obtain⟨_,_,_,_,o,_,_,e,ex,_⟩:=I.hok p _ hk
     exact⟨o,e,ex⟩
    ·obtain⟨_,_,_,_,o,_,_,e,ex,_⟩:=I.hok p _ hk
     exact⟨o,e,ex⟩
   obtain⟨o,e,ex⟩:=z
   refine⟨⟨o,e,ex.1⟩,fun a e2=>?_⟩
   cases e2
   exact⟨o,e,ex.2.1⟩
  ·obtain⟨o,_,_,_,e,ex,_⟩:=I.hok p _ hk
   refine⟨⟨o,e,ex.1⟩,fun a e2=>?_⟩
   cases e2
   exact⟨o,e,ex.2.1⟩
 | _=>exact False.elim ty
def tBM (K:PySem.W.Frag)(T:String)(r:V->List V->Hp->VK->Prop)(to:TE)(t:TA):TE:=fun σ H Q=>to σ H fun x H1=>tyV K T x H1/\t σ H1 fun xs H2=>r x xs H2 Q
variable {o e:Expr}{es:List Expr}{to:TE}{t:TA}{name:Str}{apos cpos:Pos}{T id:String}{r:V->List V->Hp->VK->Prop}
theorem z6o(pa:PlainAttrs T)(slot:Slot T name id)(hty:typeOf (.builtin id)=pure (.type "method_descriptor"))(hm:MtR X id r)(ho:PE X o to)(ha:PA X (e::es) t)
  (hbase:attributeBase o name X.env (eval o X.env)=eval o X.env:=by rfl)
  (hfew:((backTo cpos (starEach (e::es) X.env)).all (fun x=>!x.1)&&(backToKw cpos (keywordEach [] X.env)).all (fun x=>x.1.isSome)
    && decide ((e::es).length+([]:List Keyword).length+(if([]:List Keyword).isEmpty then 0 else 1)<30))=true:=by rfl)
  (hline:(apos.endLine==cpos.line)=true:=by rfl) (hs:starEach (e::es) X.env=(false,eval e X.env)::starEach es X.env:=by rfl) (hplain:(backTo cpos (starEach es X.env)).any (·.1)=false:=by rfl) :
  PE X (.Call (.Attribute o name apos) (e::es) [] cpos) (tBM X.K T r to t):=by
 intro pins s σ H Q I h
 refine wpAny_Call_method_late hbase hfew hline rfl (thn (ho pins s σ H _ I h) fun v s1 hh0=>?_)
 obtain⟨x,H1,I1,r1,ty,q1⟩:=hh0
 obtain⟨h1,h2⟩:=j04 I1 r1 ty
 refine⟨T,id,pa,slot,hty,h1,h2,?_⟩
 have hA:=ha cpos pins s1 σ H1 _ I1 q1
 rw[hs]at hA ⊢
 refine Calls.callWith_builtin (by show(false||(backTo cpos (starEach es X.env)).any (·.1))=false;rw[hplain]<;>rfl) (Calls.evalArgs_plain ?_)
 exact thn hA fun us s2 ⟨vs,H2,I2,r2,q2⟩=>hm pins s2 σ H2 x vs v us Q I2 r1 r2 q2
end
def MtM (X:Cx)(id:String)(r:V->List V->Hp->VK->Prop):Prop:=
 ∀ (pins:List (Addr×Obj)) (s:Shared) (σ:St) (H:Hp) (x:V) (xs:List V) (v:Value) (us:List Value) (Q:VK),Inv X pins σ H s->x2p x v->x1w xs us->r x xs H Q->
  wpAny (model X.prog X.w) X.A (call (.builtin id) (v::us)) (EP X pins σ Q) X.xe s
theorem x1w.one:∀ {x:V} {us:List Value},x1w [x] us->∃ u,us=[u]/\x2p x u
 | _,_,.cons r .nil=>⟨_,rfl,r⟩
theorem x1w.eraseIdx:∀ {xs:List V} {us:List Value} (i:Nat),x1w xs us->x1w (xs.eraseIdx i) (us.eraseIdx i)
 | _,_,_,.nil=>.nil
 | _,_,0,.cons _ t=>t
 | _,_,i+1,.cons r t=>.cons r (x1w.eraseIdx i t)
theorem x1w.rep(h:x1w xs us):∀ k:Nat,x1w (List.replicate k xs).flatten (List.replicate k us).flatten
 | 0=>.nil
 | k+1=>by
  rw[ZI,ZI,Jc,Jc]
  exact x1w.append h (x1w.rep h k)
theorem y2x{α:Type}:∀ (l:List α) (i:Nat),(l.eraseIdx i).length<=l.length
 | [],_=>Qi _
 | _::_,0=>JT _
 | _::r,i+1=>Vg (y2x r i)
theorem y00(its:List Value):∀ (k:Nat) (acc:List Value),
  List.foldl (fun x1 x2=>x1++x2) acc.toArray (List.replicate k its.toArray)=(acc++(List.replicate k its).flatten).toArray
 | 0,acc=>by simp
 | k+1,acc=>by
  have e:acc.toArray++its.toArray=(acc++its).toArray:=by simp
  have e2:(acc++its)++(List.replicate k its).flatten=acc++(List.replicate (k+1) its).flatten:=by
   rw[ZI,Jc,Jz]
  rw[<- e2,<- y00 its k (acc++its),<- e,ZI,Vx]
section
variable {X:Cx}{pins:List (Addr×Obj)}{σ:St}{H:Hp}{s:Shared}{l b:Addr}{xs ys zs:List V}
theorem Inv.lset{its its':List Value}{n:Nat}{f:Array Value->Array Value}{t':Nat}(I:Inv X pins σ H s)(hH:H l=some (.lst xs))
  (e:s.heap.get? l=some { cls:=.type "list",data:=.seq its.toArray n }) (hf:f its.toArray=its'.toArray) (hv:x1w ys its') (hz:ys.length<=sizeLine) :
  Inv X pins σ (upd H l (.lst ys)) { s with heap:=s.heap.update l (Obj.mapSeq f),toks:=t' }:=by
 have q:=PySem.IsL.update e f
 rw[hf]at q
 refine I.write (x:=l) (e:=l) (by rw[hH];exact trivial) (.inl rfl) (fun b' u hb hu=>(ZF s.heap (Obj.mapSeq f) (Zi hb)).trans hu) ⟨_,q⟩ ?_
 exact⟨hz,its',_,hv,q⟩
theorem Inv.lnew{its:List Value}{t':Nat}(I:Inv X pins σ H s)(hv:x1w ys its)(hz:ys.length<=sizeLine) :
  Inv X pins σ (upd H s.heap.objs.size (.lst ys)) { s with heap:=s.heap.push { cls:=.type "list",data:=.seq its.toArray },toks:=t' }:=
 I.laid (fun _ _ q=>Qb _ q) (Qi _) ⟨hz,its,0,hv,Qo _ rfl⟩
theorem Inv.fresh(I:Inv X pins σ H s):H s.heap.objs.size=none:=I.hok.fresh (Qi _)
theorem Inv.lstM(I:Inv X pins σ H s)(hH:H l=some (.lst xs)):xs.length<=sizeLine/\∃ (its:List Value) (n:Nat),x1w xs its/\xs.length=its.length/\s.heap.get? l=some { cls:=.type "list",data:=.seq its.toArray n }:=by
 obtain⟨z,its,n,r,e⟩:=I.hok l _ hH
 exact⟨z,its,n,r,r.length,e⟩
theorem z2f(h:n<=sizeLine):Builtin.List.listTooLong n=false:=by
 unfold Builtin.List.listTooLong
 exact QK (by omega)
end
section
variable {X:Cx}
def z71:V->List V->Hp->VK->Prop:=fun x vs H Q=>∃ l xs y,x=.ref l/\vs=[y]/\H l=some (.lst xs)/\xs.length<sizeLine/\Q .non (upd H l (.lst (xs++[y])))
theorem z0u:MtM X "list.append" z71:=by
 intro pins s σ H x vs v us Q I rx rv h
 obtain⟨l,xs,y,rfl,rfl,hH,hz,q⟩:=h
 cases rx
 obtain⟨u,rfl,ru⟩:=rv.one
 obtain⟨z,its,n,r,hl,e⟩:=I.lstM hH
 refine JO F.slot_list_append ⟨_,e,rfl⟩ F.entry_list_append (F.args_list_append_2 _ _) (PySem.list_append l its.toArray n u (by rw[Qn];omega)) ⟨e,?_⟩
 refine⟨.non,_,I.lset (its':=its++[u]) hH e (by simp) (r.append (.cons ru .nil)) ?_,rfl,q⟩
 rw[Qw,List.length_singleton]
 omega
def j0x:V->List V->Hp->VK->Prop:=fun x vs H Q=>∃ l xs i k y,x=.ref l/\vs=[.int i]/\H l=some (.lst xs) /\ -(2 ^ 63)<=i/\i<2 ^ 63/\seqIndex? i xs.length=some k/\xs[k]? = some y/\Q y (upd H l (.lst (xs.eraseIdx k)))
theorem z37:MtM X "list.pop" j0x:=by
 intro pins s σ H x vs v us Q I rx rv h
 obtain⟨l,xs,i,k,y,rfl,rfl,hH,h1,h2,hk,hy,q⟩:=h
 cases rx
 obtain⟨u,rfl,ru⟩:=rv.one
 obtain⟨t,rfl⟩:=ru
 obtain⟨z,its,n,r,hl,e⟩:=I.lstM hH
 obtain⟨w,hw,rw'⟩:=r.get hy
 refine JO F.slot_list_pop ⟨_,e,rfl⟩ F.entry_list_pop (F.args_list_pop_2 _ _)
  (MeetsSeq.list_pop_at l its.toArray n i t k w (fitsIndex_both h1 h2) (by rw[Qn,<- hl];exact hk) (by rw[<- Zg];exact hw) (by rw[Qn];omega)) ⟨e,?_⟩
 refine⟨y,_,I.lset (its':=its.eraseIdx k) hH e ?_ (r.eraseIdx k) ?_,rw',q⟩
 ·show its.toArray.eraseIdxIfInBounds k=(its.eraseIdx k).toArray
  rw[List.eraseIdxIfInBounds_toArray]
 ·have:=y2x xs k
  omega
def j3h:R2:=fun x y H Q=>∃ l k xs,x=.ref l/\y=.int k/\H l=some (.lst xs) /\ -(2 ^ 63)<=k/\k<2 ^ 63/\xs.length*k.toNat<=sizeLine /\
 ∀ p,H p=none->Q (.ref p) (upd H p (.lst (List.replicate k.toNat xs).flatten))
theorem y4l{α:Type}(xs:List α)(k:Nat):(List.replicate k xs).flatten.length=k*xs.length:=by
 induction k with
 | zero=>simp
 | succ k ih=>rw[ZI,Jc,Qw,ih,Nat.succ_mul,Nat.add_comm]
theorem j0t:OpR X (binaryOp .Mult) j3h:=by
 intro pins s σ H x y v u Q I rx ry h
 obtain⟨l,k,xs,rfl,rfl,hH,h1,h2,hz,q⟩:=h
 cases rx
 obtain⟨t,rfl⟩:=ry
 obtain⟨z,its,n,r,hl,e⟩:=I.lstM hH
 have hlen:its.toArray.size*k.toNat<=sizeLine:=by rw[Qn,<- hl];exact hz
 have hcap:¬ its.toArray.size*k.toNat > (2 ^ 63-1) / 8:=by
  have:(sizeLine:Nat)<=(2 ^ 63-1) / 8:=by decide
  omega
 have hfit:¬ (!Builtin.List.listFitsIndex k)=true:=by
  rw[fitsIndex_both h1 h2]
  exact Zp
 have hlong:¬ Builtin.List.listTooLong (its.toArray.size*k.toNat)=true:=by
  rw[z2f hlen]
  exact Zp
 have hnew:List.foldl (fun x1 x2=>x1++x2) #[] (List.replicate (if its.toArray.isEmpty=true then 0 else k.toNat) its.toArray)=(List.replicate k.toNat its).flatten.toArray:=by
  have f0:∀ m:Nat,List.foldl (fun x1 x2=>x1++x2) #[] (List.replicate m its.toArray)=(List.replicate m its).flatten.toArray:=fun m=>by
   have:=y00 its m []
   rw[List.nil_append]at this
   exact this
  rw[f0]
  cases its with
  | nil=>simp
  | cons a r'=>rw[Qk (by simp)]
 refine YT (T:="list") (U:="int") (by decide) ⟨_,e,rfl⟩ (fun s'=>Vq s' k t) noFill_list_mul F.fills_int_mul Yr repeat_list F.slot_int_index.lookup
  (JO Yr (Vq s k t) F.entry_int_rmul (F.args_int_rmul_2 _ _) (int___rmul___int_list k t l its.toArray n)
    ⟨e,rfl,⟨_,e,rfl⟩,JO F.slot_list_mul ⟨_,e,rfl⟩ F.entry_list_mul (F.args_list_mul_2 _ _) (AutoListH.list___mul___list_int_3 l its.toArray n k t hfit hcap hlong) ⟨e,?_⟩⟩)
 rw[hnew]
 exact⟨.ref _,_,I.lnew (t':=s.toks) (r.rep k.toNat) (by rw[y4l,VU];exact hz),rfl,q _ I.fresh⟩
end
end L2
namespace Att
open PySem PySem.W PySem.Calls PyProof.Rows
variable {P:Params}{h:Heap}{l:OpenLaw}{n:Nat}
theorem x9c:∀ (ns:List Int) (vs:List Value),WellAll P h vs (ns.map WData.int)->IntsAre vs ns:=by
 intro ns
 induction ns with
 | nil=>
  intro vs w
  rw[VW]at w
  cases w
  exact .nil
 | cons n ns ih=>
  intro vs w
  rw[Qx]at w
  cases w with
  | cons a b=>
   cases a
   exact .cons _ _ (ih _ b)
theorem y8d(hn:l.most=some n){args:List WData}{vals:List Value}
  (hpre:l.row.toRowW.claim.pre args=true) (hwl:WellAll P h vals args) :
  ∃ a vs ns,vals=[Value.ref a]/\args=[WData.list (ns.map WData.int)]/\h.get? a=some { cls:=.type "list",data:=.seq vs.toArray }/\IntsAre vs ns/\ns.length<=n:=by
 have hsh:WShape.hasAll [] args [.list .int]=true:=(pre_splitW hpre).1
 have hc:l.pre.holds [] { args:=args }=true:=(pre_splitW hpre).2
 obtain⟨d,r,rfl,h1,h2⟩:=hasAllW_cons hsh
 obtain rfl:=hasAllW_nil h2
 obtain⟨xs,rfl,h3⟩:=hasW_list h1
 obtain⟨ns,rfl⟩:=items_int h3
 have hlen:ns.length<=n:=by
  unfold OpenLaw.pre at hc
  have h4:(WTm.not (.lt (.lit (.int (n:Int))) (.len (.arg 0)))).holds [] { args:=[.list (ns.map .int)] }=true:=by
   have h4:=(holds_andW hc).1
   rw[hn]at h4
   exact h4
  have h5:=condW_of h4 (w_not (w_lt w_lit (w_len_list (w_arg rfl))))
  rw[Qc]at h5
  refine Nat.le_of_not_lt fun q=>?_
  have q':(n:Int)<((ns.length:Nat):Int):=by omega
  first
   | (rw[Qs q']at h5;exact absurd h5 (by decide))
   | (simp at h5;omega)
 cases hwl with
 | cons w1 w2=>
  cases w2
  cases w1 with
  | list ho hall=>exact⟨_,_,ns,rfl,rfl,ho,x9c ns _ hall,hlen⟩
theorem y7r(l:OpenLaw)(args:List WData):l.row.toRowW.claim.post args (.bool true) args=true:=
 postW_of (r:=l.row.toRowW) (X:=(true==true))
  (show WShape.has [] (.bool true) .bool=true by first|rfl|decide|simp[WShape.has,WShape.arms,WShape.armsAll])
  (show(WTm.eq .res (.lit (.bool true))).value [] { args:=args,res:=some (.bool true),after:=args }=some (.bool (true==true))from w_eq_bool (w_res rfl) w_lit) rfl
theorem z7e{q:Program}{loose:List Str}{XP:(Str->Option Value)->Heap->Prop}{YP:World->Heap->Prop}{d:DefRec}
  (hn:l.most=some n) (hdf:d.params.defaults=[])
  (call:∀ (w:World) (s₀ s₁:Shared) (mg mb:Str->Option Value) (fa:Addr) (o:Obj) (pm cd doc:Value) (a:Addr) (vs:List Value) (ns:List Int),
    Ground q loose [] XP w s₀ mg mb s₁.heap->YP w s₁.heap->
    s₁.heap.get? fa=some o->o.data=.func (docDef d.name d.params d.body d.scope pm cd doc)->s₁.heap.CodeRec cd d.name->mg d.name=some (.ref fa)->
    s₁.heap.get? a=some { cls:=.type "list",data:=.seq vs.toArray }->IntsAre vs ns->ns.length<=n->s₁.gens = #[]->
    codeAny (model l.prog w) callerA (.call (.ref fa) ⟨[.ref a],[]⟩) (fun r s'=>r=.ok (.ret (.bool true))/\OldK s₁.heap s'.heap/\s'.os=s₁.os/\AllBare s'.gens) s₁) :
  WalkO q loose XP YP l.row.toRowW d [] (fun f vs=>PySem.call f vs):=by
 intro w s₀ s₁ mg mb G Y fa o pm cd doc dV kV ho hd hcd hD hmg hg args vals as hpre hlay hrd hwl hlo
 obtain rfl:dV=.none:=Dflts.none hD hdf
 obtain rfl:kV=.none:=Dflts.noKw hD
 obtain⟨a,vs,ns,rfl,rfl,hobj,hints,hlen⟩:=y8d hn hpre hwl
 refine enter_call (JX (call w s₀ s₁ mg mb fa o pm cd doc a vs ns G Y ho (fd_plain hd) hcd hmg hobj hints hlen hg) fun r s' hq=>?_)
 obtain⟨rfl,h2,h3,h4⟩:=hq
 exact⟨.inl ⟨.bool true,.bool true,[],rfl,fun _=>rfl,.bool true,y7r l _,fun _=>⟨List.Pairwise.nil,fun _ hm=>(nomatch hm)⟩⟩,h2,h3,h4⟩
end Att
namespace L2
open PySem PySem.Spec PyProof.Rows
theorem x7d:∀ {vs:List Value} {ns:List Int},IntsAre vs ns->x1w (ns.map V.int) vs
 | _,_,.nil=>.nil
 | _,_,.cons n t h=>.cons ⟨t,rfl⟩ (x7d h)
end L2
namespace L2
open PySem PySem.Spec PyProof.Rows
end L2
namespace L2
open PySem PySem.Spec PyProof.Rows
variable {A:Around}{C a b c f:Addr}{H H':Hp}{N' ps:List Str}{P prog:Program}{Q:Value->Shared->Prop}{X:Cx}{cells:List (Str×Addr)}{elt iter:Expr}{env:Env}{fd:FuncData}{h h':Heap}{i lo n:Nat}{ifs:List Expr}{kvs:List (List Key×V)}{o:Option V}{pins:List (Addr×Obj)}{pos:Pos}{qual x y:Str}{s:Shared}{scope:Scope}{st:Stmt}{trs:List (TE×TE)}{u:Value}{v:V}{w:World}{xs:List (List Key×Addr×Value)}{σ:St}
def x5d (s:Stmt):Arguments:=match s with
 | .FunctionDef _ a _ _ _ _ _ _ _ _=>a
 | _=>{ posonlyargs:=[],args:=[],vararg:=none,kwonlyargs:=[],kw_defaults:=[],kwarg:=none,defaults:=[] }
def x2x (s:Stmt):List Stmt:=match s with
 | .FunctionDef _ _ b _ _ _ _ _ _ _=>b
 | _=>[]
def x0c (s:Stmt):Scope:=match s with
 | .FunctionDef _ _ _ _ _ _ sc _ _ _=>sc
 | _=>{ kind:=.function,names:=[],isGenerator:=false,isCoroutine:=false }
abbrev CX0:CXT:=fun _ _ _ _ _ _=>False
abbrev E0:XK:=fun _ _ _=>False
theorem j2h:y6a CX0 X E0:=fun _ _ _ _ _ _ _ h=>h.elim
structure Fun (K:PySem.W.Frag) (x qual:Str) (st:Stmt) (f:Addr) (fd:FuncData):Prop where
 ex:∃ (oc:Value) (od:Option Addr) (kV doc pm:Value) (an:Option Addr) (cdv ct:Value) (osl:Array (Option Value)),
  fd=PySem.W.fnOf x qual (x5d st) (x2x st) (x0c st) .none kV doc pm an cdv ct/\K.lookup f=some ⟨oc,od,.func fd,osl⟩/\PySem.W.codeIn K cdv qual=true
 kp:PySem.W.keepIn K (.ref f)=true
section
variable {P:Program}{w:World}{K:PySem.W.Frag}{mg:Str->Option Value}{base:Heap}
theorem Fun.ok{N:List Str}{k:Nat}{sp:Sp}(F:Fun K x qual st f fd)(S:FnScope N ps (x0c st))(len:∀ vs H Q E,sp vs H Q E->vs.length=ps.length)
  (hbody:∀ (cdv:Value) (A:Around) (outer:List Env) (s:Shared) (H:Hp) (vs:List V) (Q:VK) (E:XK),Room k (A.deeper (envOfC qual (x0c st) s.heap.objs.size f cdv))->sp vs H Q E->
    ∃ t,PSs (y7u CX0 P w K mg base N qual (x0c st) f cdv A outer s H E).nox (x2x st) t/\t { nx:=fun _ H'=>Q .non H',rt:=Q } (start N vs) H):FnOk P w K mg base CX0 (k+1) f fd ps sp:=by
 obtain⟨oc,od,kV,doc,pm,an,cdv,ct,osl,rfl,lk,hcd⟩:=F.ex
 refine j1t lk hcd S len fun A outer s H vs Q E hr hsp=>?_
 obtain⟨t,h,q⟩:=hbody cdv A outer s H vs Q E hr hsp
 exact⟨t,h.nox,q⟩
theorem Fun.binds(F:Fun K x qual st f fd)
  (h:∀ (kV doc pm:Value) (an:Option Addr) (cdv ct:Value) (us:List Value),us.length=ps.length->bindArgs (PySem.W.fnOf x qual (x5d st) (x2x st) (x0c st) .none kV doc pm an cdv ct) ⟨us,[]⟩=pure (ps.zip us)):y2u K fd ps []:=by
 obtain⟨oc,od,kV,doc,pm,an,cdv,ct,osl,rfl,lk,hcd⟩:=F.ex
 exact .all (h kV doc pm an cdv ct)
theorem z48{oc:Value}{od an:Option Addr}{osl:Array (Option Value)}{kV doc pm cdv ct:Value}(l:K.lookup f=some ⟨oc,od,.func (PySem.W.fnOf x qual (x5d st) (x2x st) (x0c st) .none kV doc pm an cdv ct),osl⟩)
  (c:PySem.W.codeIn K cdv qual=true) (k:PySem.W.keepIn K (.ref f)=true):Fun K x qual st f (PySem.W.fnOf x qual (x5d st) (x2x st) (x0c st) .none kV doc pm an cdv ct):=⟨⟨oc,od,kV,doc,pm,an,cdv,ct,osl,rfl,l,c⟩,k⟩
end
theorem z1g{k:Nat}(hr:Room k A):A.units+1<cLine:=ZO (Nat.add_le_add_left (by decide:1<=64) _) hr.units
theorem x33(h:n<=1000):n<sizeLine:=ZO h (by decide)
section
variable {X:Cx}
theorem pv(i:Nat){pos:Pos}(hN:X.N[i]? = some x:=by rfl)(hv:Vis X.env.scope x:=by first|exact Or.inl rfl|exact Or.inr (Or.inl rfl)|exact Or.inr (Or.inr rfl))(hd:(x==("__debug__":Str))=false:=by decide)
  (hcd:(x==("__classdict__":Str))=false:=by decide):PE X (.Name x pos) (y3s i):=z9n hN hv hd hcd
end
section
variable {κ:Type}[DecidableEq κ]
def y2o (kvs:List (κ×V))(k:κ):Option V:=(kvs.find? fun kv=>decide (kv.1=k)).map (·.2)
def y21 (kvs:List (κ×V))(k:κ)(v:V):List (κ×V):=
 if(kvs.any fun kv=>decide (kv.1=k))=true then kvs.map (fun kv=>if kv.1=k then(kv.1,v)else kv)else kvs++[(k,v)]
theorem x77{p:κ×V}{r:List (κ×V)}{k:κ}(e:p.1=k):y2o (p::r) k=some p.2:=by simp[y2o,Jx,e]
theorem x7k{p:κ×V}{r:List (κ×V)}{k:κ}(e:¬ p.1=k):y2o (p::r) k=y2o r k:=by simp[y2o,Jx,e]
theorem y5h(k:κ):∀ kvs:List (κ×V),(kvs.any fun kv=>decide (kv.1=k))=(y2o kvs k).isSome
 | []=>rfl
 | p::r=>by
  rw[Y7]
  by_cases e:p.1=k
  ·simp only[x77 e,Qs e,Bool.true_or,Option.isSome_some]
  ·rw[x7k e,QK e,Bool.false_or];exact y5h k r
theorem x6h(kvs:List (κ×V))(k:κ)(v:V):(y21 kvs k v).length<=kvs.length+1:=by
 unfold y21
 split
 ·rw[Qc];omega
 ·rw[Qw,QH,Z6];omega
theorem y7f.isSome_eq{u:Option Value}(r:y7f o u):o.isSome=u.isSome:=by
 cases o with
 | none=>cases u with
  | none=>rfl
  | some _=>exact(show False from r).elim
 | some _=>cases u with
  | none=>exact(show False from r).elim
  | some _=>rfl
theorem y7f.getD{u:Option Value}{d:V}{d':Value}(r:y7f o u)(rd:x2p d d'):x2p (o.getD d) (u.getD d'):=by
 cases o with
 | none=>cases u with
  | none=>exact rd
  | some _=>exact(show False from r).elim
 | some _=>cases u with
  | none=>exact(show False from r).elim
  | some _=>exact r
theorem KV.val{kvs:List (κ×V)}{vs:List (κ×Value)}(r:KV kvs vs)(k:κ):y7f (y2o kvs k) (valueAt vs k):=by
 unfold KV at r
 induction r with
 | nil=>exact True.intro
 | @cons p q ps qs h t ih=>
  obtain⟨h1,h2⟩:=h
  by_cases e:p.1=k
  ·have e':q.1=k:=h1.symm.trans e
   have b:valueAt (q::qs) k=some q.2:=by simp[valueAt,Jx,e']
   rw[x77 e,b];exact h2
  ·have e':¬ q.1=k:=fun z=>e (h1.trans z)
   have b:valueAt (q::qs) k=valueAt qs k:=by simp[valueAt,Jx,e']
   rw[x7k e,b];exact ih
theorem KV.any{kvs:List (κ×V)}{vs:List (κ×Value)}(r:KV kvs vs)(k:κ):(kvs.any fun kv=>decide (kv.1=k))=vs.any fun kv=>decide (kv.1=k):=by
 unfold KV at r
 induction r with
 | nil=>rfl
 | cons h t ih=>rw[Y7,Y7,ih,h.1]
theorem KV.repl{kvs:List (κ×V)}{vs:List (κ×Value)}(r:KV kvs vs)(k:κ){y:V}(ry:x2p y u) :
  KV (kvs.map fun kv=>if kv.1=k then(kv.1,y)else kv) (vs.map fun kv=>if kv.1=k then(kv.1,u)else kv):=by
 unfold KV at r ⊢
 induction r with
 | nil=>exact .nil
 | @cons p q ps qs h t ih=>
  rw[Qx,Qx]
  refine .cons ?_ ih
  obtain⟨h1,h2⟩:=h
  by_cases e:p.1=k
  ·rw[Qj e,Qj (h1.symm.trans e)];exact⟨h1,ry⟩
  ·rw[Qk e,Qk (fun z=>e (h1.trans z))];exact⟨h1,h2⟩
theorem KV.put{kvs:List (κ×V)}{vs:List (κ×Value)}(r:KV kvs vs)(k:κ){y:V}(ry:x2p y u):KV (y21 kvs k y) (stored vs k u):=by
 unfold y21 stored
 rw[r.any k]
 by_cases e:(vs.any fun kv=>decide (kv.1=k))=true
 ·rw[Qj e,Qj e];exact r.repl k ry
 ·rw[Qk e,Qk e];exact Paired.snoc r ⟨rfl,ry⟩
theorem KV.length{kvs:List (κ×V)}{vs:List (κ×Value)}(r:KV kvs vs):kvs.length=vs.length:=Y6 r
end
theorem z02{k:Key}(r:x2p (kV k) u):(x1d P w).is k u=true:=by
 cases k with
 | inl i=>obtain⟨t,e⟩:=(show ∃ t,u=Value.int i t from r);subst e;exact y47 P w i t
 | inr x=>obtain⟨t,e⟩:=(show ∃ t,u=Value.str x t from r);subst e;exact y49 P w x t
theorem y31:∀ {ks:List Key} {us:List Value},x1w (ks.map kV) us->ItemsAre (x1d P w) ks us
 | [],_,r=>by rw[VW]at r;cases r;exact .nil
 | k::ks,_,r=>by
  rw[Qx]at r
  cases r with
  | cons h t=>exact .cons (z02 h) (y31 t)
abbrev KT (H:Hp):List (List Key×V)->List (List Key×Addr×Value)->Prop:=Paired fun p q=>p.1=q.1/\H q.2.1=some (.tup (p.1.map kV))/\x2p p.2 q.2.2
theorem KT.val(r:KT H kvs xs)(k:List Key):y7f (y2o kvs k) ((atKey xs k).map (·.2)):=by
 induction r with
 | nil=>exact True.intro
 | @cons p q ps qs h t ih=>
  obtain⟨h1,_,h2⟩:=h
  by_cases e:p.1=k
  ·have e':q.1=k:=h1.symm.trans e
   have b:atKey (q::qs) k=some q.2:=by simp[atKey,Jx,e']
   rw[x77 e,b];exact h2
  ·have e':¬ q.1=k:=fun z=>e (h1.trans z)
   have b:atKey (q::qs) k=atKey qs k:=by simp[atKey,Jx,e']
   rw[x7k e,b];exact ih
theorem KT.repl(r:KT H kvs xs)(k:List Key){y:V}(ry:x2p y u) :
  KT H (kvs.map fun kv=>if kv.1=k then(kv.1,y)else kv) (xs.map (putAt k u)):=by
 induction r with
 | nil=>exact .nil
 | @cons p q ps qs h t ih=>
  rw[Qx,Qx]
  refine .cons ?_ ih
  obtain⟨h1,h2,h3⟩:=h
  unfold putAt
  by_cases e:p.1=k
  ·rw[Qj e,Qj (h1.symm.trans e)];exact⟨h1,h2,ry⟩
  ·rw[Qk e,Qk (fun z=>e (h1.trans z))];exact⟨h1,h2,h3⟩
theorem KT.put(r:KT H kvs xs)(k:List Key){y:V}(hb:H b=some (.tup (k.map kV)))(ry:x2p y u) :
  KT H (y21 kvs k y) (storedH xs k b u):=by
 have e:(kvs.any fun kv=>decide (kv.1=k))=(atKey xs k).isSome:=by
  rw[y5h,(r.val k).isSome_eq,Option.isSome_map]
 unfold y21 storedH
 rw[e]
 by_cases q:(atKey xs k).isSome=true
 ·rw[Qj q,Qj q];exact r.repl k ry
 ·rw[Qk q,Qk q];exact Paired.snoc r ⟨rfl,hb,ry⟩
theorem KT.keeps(r:KT H kvs xs)(ht:∀ b ys,H b=some (.tup ys)->H' b=some (.tup ys)):KT H' kvs xs:=
 Paired.mapP r fun _ _ z=>⟨z.1,ht _ _ z.2.1,z.2.2⟩
section
variable {P:Program}{w:World}{H:Hp}{h:Heap}{a:Addr}
theorem j0b{u:HO}(ok:HOk P w H h)(e:Rd H a u):x1q P w H h a u:=e.ok ok
theorem z09{kvs:List (Key×V)}(ok:HOk P w H h)(e:Rd H a (.dK kvs)):kvs.length<=sizeLine/\(a==sysModules)=false/\∃ vs,KV kvs vs/\h.DictOf (x1d P w) a vs:=
 show x1q P w H h a (.dK kvs)from j0b ok e
theorem z30{kvs:List (Key×V)}(ok:HOk P w H h)(e:H a=some (.dK kvs)):kvs.length<=sizeLine/\(a==sysModules)=false/\∃ vs,KV kvs vs/\h.DictOf (x1d P w) a vs:=z09 ok (.inl e)
theorem y5m{ks:List Key}(ok:HOk P w H h)(e:H a=some (.tup (ks.map kV))):(tupleKind (x1d P w)).is h ks a:=by
 obtain⟨_,its,r,o,h1,h2,⟨n,h3⟩,_⟩:=(show x1q P w H h a (.tup (ks.map kV))from ok a _ e)
 exact⟨o,its.toArray,n,h1,h2,h3,by simpa using y31 r⟩
theorem y9l(ok:HOk P w H h)(e:Rd H a (.dT kvs)):kvs.length<=sizeLine/\(a==sysModules)=false /\
  ∃ xs,KT H kvs xs/\h.DictOfH (tupleKind (x1d P w)) a xs:=by
 obtain⟨z,y,xs,r,o,es,ep,h1,h2,h3,h4,h5⟩:=(show x1q P w H h a (.dT kvs)from j0b ok e)
 refine⟨z,y,xs,r,o,es,ep,h1,h2,h3,h4,fun x hx=>?_,h5⟩
 have all:∀ {l:List (List Key×V)} {m:List (List Key×Addr×Value)},KT H l m->∀ x∈m,(tupleKind (x1d P w)).is h x.1 x.2.1:=by
  intro l m q
  induction q with
  | nil=>intro x hx;exact nomatch hx
  | @cons p q ps qs hq t ih=>
   intro x hx
   rcases Qq.mp hx with e|hx
   ·subst e
    exact y5m ok (by rw[<- hq.1];exact hq.2.1)
   ·exact ih x hx
 exact all r x hx
theorem z8b(ok:HOk P w H h)(e:H a=some (.dT kvs)):kvs.length<=sizeLine/\(a==sysModules)=false /\
  ∃ xs,KT H kvs xs/\h.DictOfH (tupleKind (x1d P w)) a xs:=y9l ok (.inl e)
end
def y7j (H:Hp)(a:Addr)(y:V)(r:Option V):Prop:=
 (∃ kvs k,Rd H a (.dK kvs)/\y=kV k/\r=y2o kvs k)\/∃ kvs k b,Rd H a (.dT kvs)/\y=.ref b/\H b=some (.tup (k.map kV))/\r=y2o kvs k
def z1l (H:Hp)(a:Addr)(y v:V)(H':Hp):Prop:=
 (∃ kvs k,H a=some (.dK kvs)/\y=kV k/\kvs.length<sizeLine/\H'=upd H a (.dK (y21 kvs k v))) \/
 ∃ kvs k b,H a=some (.dT kvs)/\y=.ref b/\H b=some (.tup (k.map kV))/\kvs.length<sizeLine/\H'=upd H a (.dT (y21 kvs k v))
theorem y7j.k{kvs:List (Key×V)}{k:Key}(e:H a=some (.dK kvs)):y7j H a (kV k) (y2o kvs k):=.inl ⟨kvs,k,.inl e,rfl,rfl⟩
theorem y7j.t{k:List Key}(e:H a=some (.dT kvs))(eb:H b=some (.tup (k.map kV))):y7j H a (.ref b) (y2o kvs k):=.inr ⟨kvs,k,b,.inl e,rfl,eb,rfl⟩
theorem z1l.k{kvs:List (Key×V)}{k:Key}(e:H a=some (.dK kvs))(hl:kvs.length<sizeLine):z1l H a (kV k) v (upd H a (.dK (y21 kvs k v))):=.inl ⟨kvs,k,e,rfl,hl,rfl⟩
theorem z1l.t{k:List Key}(e:H a=some (.dT kvs))(eb:H b=some (.tup (k.map kV)))(hl:kvs.length<sizeLine) :
  z1l H a (.ref b) v (upd H a (.dT (y21 kvs k v))):=.inr ⟨kvs,k,b,e,rfl,eb,hl,rfl⟩
section
variable {X:Cx}{pins:List (Addr×Obj)}{σ:St}{H:Hp}{s:Shared}{a:Addr}{y v:V}{u r:Value}{o:Option V}{A:Around}{E:Value->Shared->Prop}
theorem Inv.big(I:Inv X pins σ H s):sysModules<s.heap.objs.size:=by
 have h:mainGlobals<s.heap.objs.size:=(I.mod.glob.keeps I.bk).lt
 exact J0 (by decide) h
theorem y9t(hu:A.units+1<cLine)(I:Inv X pins σ H s)(g:y7j H a y (some v))(ry:x2p y u)(h:∀ w' s',Inv X pins σ H s'->x2p v w'->Q w' s') :
  wpAny (model X.prog X.w) A (getItem (.ref a) u) Q E s:=by
 rcases g with⟨kvs,k,e,ey,l⟩|⟨kvs,k,b,e,ey,eb,l⟩
 ·subst ey
  obtain⟨z,hd,vs,rel,dd⟩:=z09 I.hok e
  obtain⟨w',hw,rw'⟩:=y7f.some_of (v:=v) (o:=valueAt vs k) (by rw[l];exact rel.val k)
  exact wpAny_getItem_of (z02 ry) dd.mapOf hw (h w' _ (I.tok _) rw')
 ·subst ey
  cases (show u=Value.ref b from ry)
  obtain⟨z,hd,xs,rel,dd⟩:=y9l I.hok e
  obtain⟨w',hw,rw'⟩:=y7f.some_of (v:=v) (o:=(atKey xs k).map (·.2)) (by rw[l];exact rel.val k)
  obtain⟨p,hp,hp2⟩:=Qu.mp hw
  refine wpAny_getItem_heap (YH hu) (y5m I.hok eb) dd hp ?_
  rw[hp2]
  exact h w' _ (I.tok _) rw'
theorem y59{t':Nat}{ob:HO}(I:Inv X pins σ H s)(mu:Mut (H a))(hs:Heap.SameBut a s.heap h')(he:∃ q,h'.get? a=some q)(new:x1q X.prog X.w (upd H a ob) h' a ob) :
  Inv X pins σ (upd H a ob) { s with heap:=h',toks:=t' }:=
 I.write (x:=a) (e:=a) mu (.inl rfl) (fun b q hb z=>(hs.2 b hb).trans z) he new
theorem z4f{kvs:List (Key×V)}{vs:List (Key×Value)}(z:kvs.length<=sizeLine)(hd:(a==sysModules)=false)(rel:KV kvs vs)(dd:h'.DictOf (x1d P w) a vs) :
  x1q P w H' h' a (.dK kvs):=⟨z,hd,vs,rel,dd⟩
theorem y9i{Q:Unit->Shared->Prop}(hu:A.units+1<cLine)(I:Inv X pins σ H s)(g:z1l H a y v H')(ry:x2p y u)(rv:x2p v r)(h:∀ s',Inv X pins σ H' s'->Q () s') :
  wpAny (model X.prog X.w) A (setItem (.ref a) u r) Q E s:=by
 rcases g with⟨kvs,k,e,ey,l,eH⟩|⟨kvs,k,b,e,ey,eb,l,eH⟩
 ·subst ey eH
  obtain⟨z,hd,vs,rel,dd⟩:=z30 I.hok e
  have hz:vs.length<=sizeLine:=by rw[<- rel.length];exact z
  have hl:(y21 kvs k v).length<=sizeLine:=by have:=x6h kvs k v;omega
  refine wpAny_setItem_pairs (hsz:=hz) (z02 ry) dd fun h' dd' hs=>h _ ?_
  have he:∃ q,h'.get? a=some q:=let ⟨q,_,_,hq,_⟩:=dd';⟨q,hq⟩
  exact y59 I (by rw[e];exact True.intro) hs he (z4f hl hd (rel.put k rv) dd')
 ·subst ey eH
  cases (show u=Value.ref b from ry)
  obtain⟨z,hd,xs,rel,dd⟩:=z8b I.hok e
  have hz:xs.length<=sizeLine:=by rw[<- Y6 rel];exact z
  have hl:(y21 kvs k v).length<=sizeLine:=by have:=x6h kvs k v;omega
  refine wpAny_setItem_heap (hsz:=hz) (YH hu) (y5m I.hok eb) dd fun h' dd' hs=>h _ ?_
  obtain⟨q,es,ep,hq,h2,h3,h4,_,h5⟩:=dd'
  refine y59 I (by rw[e];exact True.intro) hs ⟨q,hq⟩ ⟨hl,hd,_,(rel.put k eb rv).keeps fun c ys ec=>?_,q,es,ep,hq,h2,h3,h4,h5⟩
  rw[x0e (j2s ec e (fun z=>nomatch z))]
  exact ec
end
def j2z (i:Expr):Prop:=∀ ov iv,subscripted i false ov iv=operate [ov,iv] (getItem ov iv)
theorem z7p{E:Value->Shared->Prop}{value slice:Expr}{T id:String}
  (hl:typeLookup (.type T) "__getitem__" = pure (some (.builtin id))) (hs:j2z slice)
  (h:wpAny (model prog w) A (eval value env) (fun o s₁=>wpAny (model prog w) A (eval slice env) (fun i s₂=>s₂.TypeIs o T/\wpAny (model prog w) A (getItem o i) Q E s₂) E s₁) E s) :
  wpAny (model prog w) A (eval (.Subscript value slice pos) env) Q E s:=by
 refine Subscript_ (ZE h (fun o s₁ h₁=>ZE h₁ (fun i s₂ h₂=>?_) fun _ _ x=>x) fun _ _ x=>x)
 obtain⟨hT,h₂⟩:=h₂
 unfold subscriptTail
 refine wpAny_bind ?_
 rw[getitemInPython_of_ne hT.not_modules]
 refine wpAny_bind (Vy hT hl ?_)
 have fin:wpAny (model prog w) A (subscripted slice false o i) (fun r s₃=>wpAny (model prog w) A (letTemporaryGo value o r >>= fun _=>pure r) Q E s₃) E s₂:=by
  rw[hs o i]
  exact wpAny_operating (ZE h₂ (fun r s₃ h₃=>wpAny_bind (wpAny_letTemporaryGo (Qd h₃))) fun _ _ x=>x)
 first
  | exact Qd (wpAny_bind fin)
  | exact wpAny_bind (Qd (wpAny_bind fin))
  | exact wpAny_bind fin
theorem y4q{y:V}(I:Inv X pins σ H s)(g:y7j H a y o):s.TypeIs (.ref a) "dict":=by
 rcases g with⟨kvs,k,e,_,_⟩|⟨kvs,k,b,e,_,_,_⟩
 ·obtain⟨_,_,vs,_,dd⟩:=z09 I.hok e
  exact dd.typeIs
 ·obtain⟨_,_,xs,_,dd⟩:=y9l I.hok e
  exact dd.typeIs
def j1p (td ty:TE):TE:=fun σ H Q=>td σ H fun x H1=>ty σ H1 fun y H2=>∃ a v,x=.ref a/\y7j H2 a y (some v)/\Q v H2
def j2b (td ty tv:TE):TS:=fun D σ H=>tv σ H fun v H1=>td σ H1 fun x H2=>ty σ H2 fun y H3=>∃ a H4,x=.ref a/\z1l H3 a y v H4/\D.nx σ H4
section
variable {X:Cx}{o i e value:Expr}{pos pos' tpos:Pos}{td ty tv:TE}
theorem z4w(hu:X.A.units+1<cLine)(ho:PE X o td)(hi:PE X i ty)(hs:j2z i):PE X (.Subscript o i pos) (j1p td ty):=by
 intro pins s σ H Q I h
 refine z7p PySem.F.slot_dict_getitem.lookup hs (thn (ho pins s σ H _ I h) fun u s1 ⟨x,H1,I1,rx,q1⟩=>thn (hi pins s1 σ H1 _ I1 q1) fun iv s2 hh0=>?_)
 obtain⟨y,H2,I2,ry,a,v,ex,g,q2⟩:=hh0
 subst ex
 obtain rfl:u=Value.ref a:=rx
 exact⟨y4q I2 g,y9t hu I2 g ry fun w' s3 I3 rw'=>⟨v,H2,I3,rw',q2⟩⟩
theorem z6x(hu:X.A.units+1<cLine)(ho:PE X o td)(hi:PE X i ty)(hv:PE X value tv)(hs:swapsWith value (some (.Subscript o i pos')) pos.line X.env=pure false) :
  PS X (.Assign [.Subscript o i pos'] value pos) (j2b td ty tv):=by
 intro pins s σ H D I h
 refine wpAny_Assign_Subscript (thn (hv pins s σ H _ I h) fun r s1 ⟨v,H1,I1,rv,q1⟩=>thn (ho pins s1 σ H1 _ I1 q1) fun u s2 ⟨x,H2,I2,rx,q2⟩=>thn (hi pins s2 σ H2 _ I2 q2) fun iv s3 ⟨y,H3,I3,ry,a,H4,ex,g,q3⟩=>?_) hs
 subst ex
 obtain rfl:u=Value.ref a:=rx
 exact y9i hu I3 g ry rv fun s4 I4=>⟨σ,H4,I4,q3⟩
end
theorem y6d(h:Heap)(hb:sysModules<h.objs.size):x1q P w H (h.push { cls:=.type "dict",data:=.dict #[] }) h.objs.size (.dK []):=
 ⟨Zb _,ZX.mpr (Zi (QM hb)),[],.nil,Heap.DictOf.new h⟩
theorem z1j(h:Heap)(hb:sysModules<h.objs.size):x1q P w H (h.push { cls:=.type "dict",data:=.dict #[] }) h.objs.size (.dT []):=
 ⟨Zb _,ZX.mpr (Zi (QM hb)),[],.nil,_,#[],0,Qo _ rfl,⟨rfl,rfl,rfl⟩,rfl,rfl,Jp⟩
def z8k:TE:=fun _ H Q=>∀ p,H p=none->Q (.ref p) (upd H p (.dK []))
def j0g:TE:=fun _ H Q=>∀ p,H p=none->Q (.ref p) (upd H p (.dT []))
section
variable {X:Cx}{pos:Pos}
theorem z3p:PE X (.Dict [] [] pos) z8k:=fun pins s σ H Q I h=>
 wpAny_Dict_empty ⟨.ref s.heap.objs.size,_,I.laid (a:=s.heap.objs.size) (o:=.dK []) (t':=s.toks) (fun _ _ q=>Qb _ q) (Qi _) (y6d s.heap I.big),rfl,h _ (I.hok.fresh (Qi _))⟩
theorem z1n:PE X (.Dict [] [] pos) j0g:=fun pins s σ H Q I h=>
 wpAny_Dict_empty ⟨.ref s.heap.objs.size,_,I.laid (a:=s.heap.objs.size) (o:=.dT []) (t':=s.toks) (fun _ _ q=>Qb _ q) (Qi _) (z1j s.heap I.big),rfl,h _ (I.hok.fresh (Qi _))⟩
end
def y9j:List (TE×TE)->St->Hp->(List (V×V)->Hp->Prop)->Prop
 | [],_,H,Q=>Q [] H
 | (tk,tv)::r,σ,H,Q=>tk σ H fun x H1=>tv σ H1 fun y H2=>y9j r σ H2 fun ps H3=>Q ((x,y)::ps) H3
abbrev VV:List (V×V)->List (Value×Value)->Prop:=Paired fun p q=>x2p p.1 q.1/\x2p p.2 q.2
def PPs (X:Cx)(pos:Pos)(keys:List (Option Expr))(values:List Expr)(trs:List (TE×TE)):Prop:=
 ∀ (pins:List (Addr×Obj)) (s:Shared) (σ:St) (H:Hp) (Q:List (V×V)->Hp->Prop),Inv X pins σ H s->y9j trs σ H Q->
  wpAny (model X.prog X.w) X.A (evalPairs (pairTrees keys values X.env pos)) (fun vs s'=>∃ ps H',Inv X pins σ H' s'/\VV ps vs/\Q ps H') X.xe s
theorem z7n:PPs X pos [] [] []:=fun pins s σ H Q I h=>pairTrees_nil_walk ⟨[],H,I,.nil,h⟩
theorem y5o{k v:Expr}{ks:List (Option Expr)}{vs:List Expr}{tk tv:TE}(hk:PE X k tk)(hv:PE X v tv)(hr:PPs X pos ks vs trs) :
  PPs X pos (some k::ks) (v::vs) ((tk,tv)::trs):=fun pins s σ H Q I h=>
 pairTrees_cons_walk (thn (hk pins s σ H _ I h) fun u s1 ⟨x,H1,I1,rx,q1⟩=>thn (hv pins s1 σ H1 _ I1 q1) fun w2 s2 ⟨y,H2,I2,ry,q2⟩=>
  thn (hr pins s2 σ H2 _ I2 q2) fun ws s3 ⟨ps,H3,I3,rel,q3⟩=>⟨(x,y)::ps,H3,I3,.cons ⟨rx,ry⟩ rel,q3⟩)
def x9o (kvs more:List (Key×V)):List (Key×V):=more.foldl (fun acc kv=>y21 acc kv.1 kv.2) kvs
theorem KV.merge:∀ {more:List (Key×V)} {rs:List (Key×Value)} {kvs:List (Key×V)} {vs:List (Key×Value)},KV more rs->KV kvs vs->KV (x9o kvs more) (merged vs rs):=by
 intro more rs kvs vs r
 unfold KV at r
 induction r generalizing kvs vs with
 | nil=>intro q;exact q
 | @cons p q ps qs h t ih=>
  intro r0
  have e:KV (y21 kvs p.1 p.2) (stored vs q.1 q.2):=by
   have:=r0.put p.1 h.2
   rw[<- h.1];exact this
  exact ih e
theorem x6q:∀ (more kvs:List (Key×V)),(x9o kvs more).length<=kvs.length+more.length
 | [],kvs=>by show kvs.length<=kvs.length+0;omega
 | p::r,kvs=>by
  have h1:=x6q r (y21 kvs p.1 p.2)
  have h2:=x6h kvs p.1 p.2
  show(x9o (y21 kvs p.1 p.2) r).length<=_
  rw[QH];omega
theorem y13{P:Program}{w:World}:∀ {kvs:List (Key×V)} {ws:List (Value×Value)},VV (kvs.map fun kv=>(kV kv.1,kv.2)) ws->∃ rs,Carries (x1d P w) ws rs/\KV kvs rs
 | [],_,r=>by rw[VW]at r;cases r;exact⟨[],True.intro,.nil⟩
 | p::kvs,_,r=>by
  rw[Qx]at r
  cases r with
  | @cons a b as bs h t=>
   obtain⟨rs,c,q⟩:=y13 (P:=P) (w:=w) t
   obtain⟨b1,b2⟩:=b
   exact⟨(p.1,b2)::rs,⟨z02 h.1,rfl,c⟩,.cons ⟨rfl,h.2⟩ q⟩
def j1s (trs:List (TE×TE)):TE:=fun σ H Q=>∀ p,H p=none->y9j trs σ (upd H p (.dK [])) fun ps H2=>H2 p=some (.dK [])/\∃ kvs:List (Key×V),ps=kvs.map (fun kv=>(kV kv.1,kv.2))/\kvs.length<=15/\Q (.ref p) (upd H2 p (.dK (x9o [] kvs)))
theorem z50{keys:List (Option Expr)}{values:List Expr}(h:PPs X pos keys values trs)(hall:keys.all (·.isSome)=true)(hl:keys.length=values.length)(h0:keys ≠ [])
  (h15:keys.length<=15):PE X (.Dict keys values pos) (j1s trs):=by
 intro pins s σ H Q I q
 have hn:=I.hok.fresh (Qi s.heap.objs.size)
 have I1:=I.laid (a:=s.heap.objs.size) (o:=.dK []) (h':=s.heap.push { cls:=.type "dict",data:=.dict #[] }) (t':=s.toks) (fun _ _ q=>Qb _ q) (Qi _) (y6d s.heap I.big)
 refine wpAny_Dict_walk (knd:=x1d X.prog X.w) hall hl h0 h15 (thn (h pins _ σ _ _ I1 (q _ hn)) fun ws s2 hh0=>?_)
 obtain⟨ps,H2,I2,rel,e,kvs,ep,lk,q2⟩:=hh0
 subst ep
 obtain⟨rs,c,rk⟩:=y13 (P:=X.prog) (w:=X.w) rel
 obtain⟨z,hd,vs0,r0,dd⟩:=z30 I2.hok e
 cases r0
 refine⟨rs,c,dd,fun h' dd' hs=>⟨.ref s.heap.objs.size,_,?_,rfl,q2⟩⟩
 have hz:(x9o [] kvs).length<=sizeLine:=by
  have h1:=x6q kvs []
  rw[Z6]at h1
  rw[Jb];omega
 have he:∃ q,h'.get? s.heap.objs.size=some q:=let ⟨q,_,_,hq,_⟩:=dd';⟨q,hq⟩
 exact y59 I2 (by rw[e];exact True.intro) hs he (z4f hz hd (rk.merge .nil) dd')
structure M2 (X:Cx) (o:Expr) (m:Str) (apos:Pos) (e f:Expr) (cpos:Pos):Prop where
 base:attributeBase o m X.env (eval o X.env)=eval o X.env
 few:((backTo cpos (starEach [e,f] X.env)).all (fun x=>!x.1)&&(backToKw cpos (keywordEach [] X.env)).all (fun x=>x.1.isSome)
  && decide (([e,f]:List Expr).length+([]:List Keyword).length+(if([]:List Keyword).isEmpty then 0 else 1)<30))=true
 line:(apos.endLine==cpos.line)=true
 trees:backTo cpos (starEach [e,f] X.env)=[(false,eval e X.env),(false,eval f X.env)]
def IsD (H:Hp)(a:Addr):Prop:=(∃ kvs,Rd H a (.dK kvs))\/∃ kvs,Rd H a (.dT kvs)
theorem z8i(I:Inv X pins σ H s)(d:IsD H a) :
  s.TypeIs (.ref a) "dict" /\ (∀ b,Value.ref a=.ref b->∃ ob,s.heap.get? b=some ob/\ob.dict=none)/\(a==sysModules)=false:=by
 rcases d with⟨kvs,e⟩|⟨kvs,e⟩
 ·obtain⟨_,hd,vs,_,dd⟩:=z09 I.hok e
  refine⟨dd.typeIs,fun b q=>?_,hd⟩
  cases q
  obtain⟨ob,_,_,h1,h2,_⟩:=dd
  exact⟨ob,h1,h2.2.1⟩
 ·obtain⟨_,hd,xs,_,dd⟩:=y9l I.hok e
  refine⟨dd.typeIs,fun b q=>?_,hd⟩
  cases q
  obtain⟨ob,_,_,h1,h2,_⟩:=dd
  exact⟨ob,h1,h2.2.1⟩
section
variable {X:Cx}{pins:List (Addr×Obj)}{σ:St}{H:Hp}{s:Shared}{a:Addr}{y d:V}{u r:Value}{o:Option V}{A:Around}{E:Value->Shared->Prop}
theorem j0d(hu:A.units+1<cLine)(I:Inv X pins σ H s)(g:y7j H a y o)(ry:x2p y u)(rd:x2p d r)(h:∀ w' s',Inv X pins σ H s'->x2p (o.getD d) w'->Q w' s') :
  wpAny (model X.prog X.w) A (call (.builtin "dict.get") [.ref a,u,r]) Q E s:=by
 rcases g with⟨kvs,k,e,ey,l⟩|⟨kvs,k,b,e,ey,eb,l⟩
 ·subst ey
  obtain⟨z,hd,vs,rel,dd⟩:=z09 I.hok e
  refine call_meetsIn Yd dd.typeIs Vr (Vh _ _ _) (meets_dict_get_default (x1d X.prog X.w) a (z02 ry) hd r) ⟨_,dd.mapOf,h _ _ (I.tok _) ?_⟩
  rw[l]
  exact(rel.val k).getD rd
 ·subst ey
  cases (show u=Value.ref b from ry)
  obtain⟨z,hd,xs,rel,dd⟩:=y9l I.hok e
  refine call_meetsIn Yd dd.typeIs Vr (Vh _ _ _) (meetsH_dict_get_default (tupleKind (x1d X.prog X.w)) a b hd r) ⟨YH hu,k,xs,y5m I.hok eb,dd,h _ _ (I.tok _) ?_⟩
  rw[l]
  exact(rel.val k).getD rd
end
def z96 (td ty tx:TE):TE:=fun σ H Q=>td σ H fun x H1=>∃ a,x=.ref a/\IsD H1 a/\ty σ H1 fun y H2=>tx σ H2 fun z H3=>∃ o,y7j H3 a y o/\Q (o.getD z) H3
section
variable {X:Cx}{o e f:Expr}{apos cpos:Pos}{td ty tx:TE}
theorem y61(hu:X.A.units+1<cLine)(ho:PE X o td)(he:PE X e ty)(hf:PE X f tx)(m:M2 X o "get" apos e f cpos):PE X (.Call (.Attribute o "get" apos) [e,f] [] cpos) (z96 td ty tx):=by
 intro pins s σ H Q I h
 refine wpAny_Call_method m.base m.few m.line Vi Yd PySem.F.type_dict_get (thn (ho pins s σ H _ I h) fun u s1 hh0=>?_)
 obtain⟨x,H1,I1,rx,a,ex,d,q1⟩:=hh0
 subst ex
 obtain rfl:u=Value.ref a:=rx
 obtain⟨t1,t2,_⟩:=z8i I1 d
 refine⟨t1,t2,?_⟩
 rw[m.trees]
 refine Calls.callWith_builtin rfl (Calls.evalArgs_plain (YF (thn (he pins s1 σ H1 _ I1 q1) fun iv s2 ⟨y,H2,I2,ry,q2⟩=>
  YF (thn (hf pins s2 σ H2 _ I2 q2) fun fv s3 ⟨z,H3,I3,rz,ov,g,q3⟩=>Calls.spliced_nil ?_))))
 exact j0d hu I3 g ry rz fun w' s4 I4 rw'=>⟨_,H3,I4,rw',q3⟩
end
theorem y3j{R:Result->Shared->Prop}{target:Expr}{it acc:Value}(I:Nat->Shared->Prop)
  (turn:∀ n s,I n s->wpAny (model prog w) A (pyNext it) (fun r s₁=>match r with
    | none=>R (.ok .next) s₁
    | some v=>wpAny (model prog w) A (letOwnedTupleGo target it v) (fun _ s₁'=>wpAny (model prog w) A (assign target env v) (fun _ s₂=>
      wpAny (model prog w) A (forIn ifs true fun c r=>if r=true then do let ok <- isTrue c env (eval c env);pure (ForInStep.yield ok)else pure (ForInStep.yield r)) (fun ok s₃=>
       if ok=true then wpAny (model prog w) A (eval elt env) (fun x s₄=>
        wpAny (model prog w) A (call (.builtin "list.append") [acc,x]) (fun _ s₅=>∃ m,m<n/\I m s₅) (fun _ _=>False) s₄) (fun _ _=>False) s₃
       else ∃ m,m<n/\I m s₃) (fun _ _=>False) s₂) (fun _ _=>False) s₁') (fun _ _=>False) s₁) (fun _ _=>False) s)
  (n:Nat) (h:I n s):codeAny (model prog w) A (.compLoop (.ListComp elt [⟨target,iter,ifs,0⟩] scope pos) 0 it acc env) R s:=by
 refine codeAny_loop rfl I (fun n s hI=>?_) n h
 show wpAny _ A ((compTurn (.ListComp elt [⟨target,iter,ifs,0⟩] scope pos) 0 it acc env).onRaise (fun x=>do noteFrame x env;theTreesLotGoes x)) _ _ s
 refine wpAny_noted ?_
 rw[compTurn_list]
 refine wpAny_bind (wpAny_standAt (wpAny_bind (ZE (turn n s hI) (fun r s₁ h₁=>?_) fun _ _ h'=>h'.elim)))
 cases r with
 | none=>exact Qd h₁
 | some v=>
  refine wpAny_bind (ZE h₁ (fun _ s₁' h₁'=>?_) fun _ _ h'=>h'.elim)
  refine wpAny_bind (ZE h₁' (fun _ s₂ h₂=>wpAny_bind (ZE h₂ (fun ok s₃ h₃=>?_) fun _ _ h'=>h'.elim)) fun _ _ h'=>h'.elim)
  cases ok with
  | false=>exact Qd ⟨rfl,h₃⟩
  | true=>
   exact wpAny_bind (wpAny_bind (ZE h₃ (fun x s₄ h₄=>wpAny_bind (ZE h₄ (fun _ s₅ h₅=>Qd (Qd ⟨rfl,h₅⟩)) fun _ _ h'=>h'.elim)) fun _ _ h'=>h'.elim))
theorem y53{M:Model}{A:Around}{E:Value->Shared->Prop}{globals:Addr}{cl:List (Str×Addr)}{outer:Env}{Q:Env->Shared->Prop}
  (hQ:Q (newEnv scope s.heap.objs.size globals (cellsFrom (s.heap.objs.size+1) scope.names cl) qual none .none (some outer) builtinsNs)
    { s with heap:=pushCells (s.heap.push { cls:=.type "dict",data:=.dict #[] }) scope.names }) :
  wpAny M A (newFunctionEnv scope globals cl [] qual none .none (some outer)) Q E s:=by
 simp only[newFunctionEnv,Option.isSome_some,ZD]
 refine wpAny_bind (wpAny_alloc ?_)
 refine wpAny_bind (wpAny_layCells _ (fun name kind cells=>by cases hkc:kind==NameKind.cell<;>simp[hkc]) _ _ _ _ ?_)
 rw[show({ s with heap:=s.heap.push { cls:=.type "dict",data:=.dict #[] } }:Shared).heap.objs.size=s.heap.objs.size+1 from Zt ..]
 refine wpAny_bind ?_
 rw[VI]
 exact Qd (Qd hQ)
def x1n (cells:List (Str×Addr)):List (Str×NameKind)->List (Str×Addr)->List (Str×Addr)
 | [],acc=>acc
 | (n,k)::r,acc=>if k == .free then(match cells.lookup n with
   | some c=>x1n cells r ((n,c)::acc)
   | none=>x1n cells r acc)else x1n cells r acc
theorem x7n(h:∀ y∈scope.names,y.2=.free->∃ c,env.cells.lookup y.1=some c):closureFor scope env=pure (x1n env.cells scope.names []):=by
 unfold closureFor
 have key:∀ (names:List (Str×NameKind)) (acc:List (Str×Addr)),(∀ y∈names,y.2=.free->∃ c,env.cells.lookup y.1=some c)->
   (forIn names acc (fun(x:Str×NameKind) (r:List (Str×Addr))=>(match x with
     | (name,kind)=>if(kind==NameKind.free)=true then do
       let c <- cellOf env name
       pure (ForInStep.yield ((name,c)::r))
      else pure (ForInStep.yield r):Sem (ForInStep (List (Str×Addr))))))=(pure (x1n env.cells names acc):Sem (List (Str×Addr))):=by
  intro names
  induction names with
  | nil=>intro acc _;rfl
  | cons y r ih=>
   intro acc hh
   obtain⟨n,kd⟩:=y
   rw[Vz]
   unfold x1n
   by_cases hk:(kd==NameKind.free)=true
   ·obtain⟨c,hc⟩:=hh (n,kd) Qf (by simpa using hk)
    have hc':env.cells.lookup n=some c:=hc
    simp only[hk,ZD,hc']
    have e:cellOf env n=pure c:=by unfold cellOf;rw[hc']
    rw[e]
    exact ih ((n,c)::acc) fun z hz=>hh z (Qe _ hz)
   ·simp only[hk]
    exact ih acc fun z hz=>hh z (Qe _ hz)
 exact(ZL (fun m=>m >>= fun cs=>(pure cs:Sem (List (Str×Addr)))) (key scope.names [] h)).trans rfl
theorem x4r:∀ {names:List (Str×NameKind)} {acc:List (Str×Addr)},(∀ y c,(y,c)∈acc->cells.lookup y=some c)->∀ y c,(y,c)∈x1n cells names acc->cells.lookup y=some c
 | [],_,h,y,c,m=>h y c m
 | (n,k)::r,acc,h,y,c,m=>by
  unfold x1n at m
  split at m
  ·split at m
   ·rename_i c' e
    refine x4r (acc:=(n,c')::acc) (fun z d hz=>?_) y c m
    rcases Qq.mp hz with q|q
    ·cases q;exact e
    ·exact h z d q
   ·exact x4r h y c m
  ·exact x4r h y c m
theorem x4w:∀ {names:List (Str×NameKind)} {acc:List (Str×Addr)} {y:Str},(acc.lookup y).isSome=true->((x1n cells names acc).lookup y).isSome=true
 | [],_,_,h=>h
 | (n,k)::r,acc,y,h=>by
  unfold x1n
  split
  ·split
   ·refine x4w ?_
    rw[Zo]
    split
    ·rfl
    ·exact h
   ·exact x4w h
  ·exact x4w h
theorem x3w(hc:cells.lookup y=some c):∀ {names:List (Str×NameKind)} {acc:List (Str×Addr)},(y,NameKind.free)∈names->((x1n cells names acc).lookup y).isSome=true
 | (n,k)::r,acc,h=>by
  unfold x1n
  rcases Qq.mp h with q|q
  ·cases q
   simp only[hc]
   rw[Qj (by rfl)]
   refine x4w ?_
   rw[Zo,Z0]
   rfl
  ·split
   ·split
    ·exact x3w hc q
    ·exact x3w hc q
   ·exact x3w hc q
theorem x4p:∀ {names:List (Str×NameKind)} {h:Heap} {acc:List (Str×Addr)} {y:Str} {c:Addr},(y,c)∈cellsFrom h.objs.size names acc->(y,c)∈acc\/(h.objs.size<=c/\(pushCells h names).IsCell c none)
 | [],_,_,_,_,m=>.inl m
 | (n,k)::r,h,acc,y,c,m=>by
  unfold cellsFrom at m
  unfold pushCells
  split at m
  ·rename_i hk
   rw[Qj hk]
   have m':(y,c)∈cellsFrom (h.push { cls:=.type "cell",data:=.cell none }).objs.size r ((n,h.objs.size)::acc):=by rw[Zt];exact m
   rcases x4p m' with q|⟨q1,q2⟩
   ·rcases Qq.mp q with e|q
    ·cases e
     refine .inr ⟨Qi _,_,JM _ _ _ _ (Qo _ rfl),rfl⟩
    ·exact .inl q
   ·rw[Zt]at q1
    exact .inr ⟨by omega,q2⟩
  ·rename_i hk
   rw[Qk hk]
   exact x4p m
theorem x4s:∀ {names:List (Str×NameKind)} {n:Nat} {acc:List (Str×Addr)},(∀ y c,(y,c)∈acc->c<n)->(∀ x y c,(x,c)∈acc->(y,c)∈acc->x=y)->∀ x y c,(x,c)∈cellsFrom n names acc->(y,c)∈cellsFrom n names acc->x=y
 | [],_,_,_,h=>h
 | (nm,k)::r,n,acc,hlt,h=>by
  unfold cellsFrom
  split
  ·refine x4s (n:=n+1) (acc:=(nm,n)::acc) (fun y c m=>?_) (fun x y c m1 m2=>?_)
   ·rcases Qq.mp m with e|m
    ·cases e;exact Zv _
    ·exact Zr (hlt y c m)
   ·rcases Qq.mp m1 with e1|m1<;>rcases Qq.mp m2 with e2|m2
    ·cases e1;cases e2;rfl
    ·cases e1;exact absurd (hlt y _ m2) (QL _)
    ·cases e2;exact absurd (hlt x _ m1) (QL _)
    ·exact h x y c m1 m2
  ·exact x4s hlt h
theorem x4u:∀ {names:List (Str×NameKind)} {n:Nat} {acc:List (Str×Addr)},lo<=n->(∀ c,acc.lookup y=some c->lo<=c)->∀ c,(cellsFrom n names acc).lookup y=some c->lo<=c
 | [],_,_,_,h=>h
 | (nm,k)::r,n,acc,hn,h=>by
  unfold cellsFrom
  split
  ·refine x4u (n:=n+1) (by omega) fun c e=>?_
   rw[Zo]at e
   split at e
   ·cases e;exact hn
   ·exact h c e
  ·exact x4u hn h
theorem x55:∀ {names:List (Str×NameKind)} {n:Nat} {acc:List (Str×Addr)},lo<=n->(y,NameKind.cell)∈names->∀ c,(cellsFrom n names acc).lookup y=some c->lo<=c
 | (nm,k)::r,n,acc,hn,h=>by
  unfold cellsFrom
  rcases Qq.mp h with q|q
  ·cases q
   rw[Qj (by rfl)]
   refine x4u (n:=n+1) (by omega) fun c e=>?_
   rw[Zo,Z0]at e
   cases e;exact hn
  ·split
   ·exact x55 (n:=n+1) (by omega) q
   ·exact x55 hn q
theorem x3q:∀ {names:List (Str×NameKind)} {n:Nat} {acc:List (Str×Addr)},(y,NameKind.cell) ∉ names->(cellsFrom n names acc).lookup y=acc.lookup y
 | [],_,_,_=>rfl
 | (nm,k)::r,n,acc,h=>by
  unfold cellsFrom
  split
  ·rename_i hk
   rw[x3q (fun z=>h (Qe _ z)),Zo]
   have hne:(y==nm)=false:=by
    cases e:y==nm with
    | false=>rfl
    | true=>
     have e1:y=nm:=Jh.mp e
     have e2:k=NameKind.cell:=by simpa using hk
     exact absurd (by rw[e1,<- e2];exact Qf) h
   rw[hne]
  ·exact x3q fun z=>h (Qe _ z)
def y35 (env:Env)(y:Str)(k:NameKind):NameKind:=if(k==NameKind.free&&env.scope.kind == .function&&env.kindOf y==some .cell)then .cell else k
theorem x4b{env:Env}{y:Str}:∀ (names:List (Str×NameKind)),(names.map fun(n,k)=>if(k==NameKind.free&&env.scope.kind == .function&&env.kindOf n==some .cell)then(n,NameKind.cell)else(n,k)).lookup y=(names.lookup y).map (y35 env y)
 | []=>rfl
 | (n,k)::r=>by
  have ih:=x4b (env:=env) (y:=y) r
  show List.lookup y ((if(k==NameKind.free&&env.scope.kind == .function&&env.kindOf n==some .cell)=true then(n,NameKind.cell)else(n,k))::_)=_
  cases hx:y==n with
  | true=>
   have e:=Jh.mp hx
   subst e
   rw[Zo,Zo]
   by_cases hc:(k==NameKind.free&&env.scope.kind == .function&&env.kindOf y==some .cell)=true
   ·simp only[y35,hc,ZD,Z0,Z7]
   ·simp only[y35,hc,Z0,Z7]
    simp
  | false=>
   by_cases hc:(k==NameKind.free&&env.scope.kind == .function&&env.kindOf n==some .cell)=true
   ·rw[Qj hc,Zo,Zo];simp only[hx];exact ih
   ·rw[Qk hc,Zo,Zo];simp only[hx];exact ih
theorem y2v{l:List (Str×NameKind)}(hn:(l.map (·.1)).Nodup){k:NameKind}(h:(y,k)∈l):l.lookup y=some k:=by
 induction l with
 | nil=>cases h
 | cons p r ih=>
  rw[Zo]
  rcases Qq.mp h with e|h
  ·rw[<- e,Z0]
  ·have hne:y≠p.1:=fun e=>by
    have:=(QW.mp hn).1
    exact this (by show p.1∈_;rw[<- e];exact Qp.mpr ⟨(y,k),h,rfl⟩)
   have:(y==p.1)=false:=by simpa using hne
   rw[this]
   exact ih (QW.mp hn).2 h
def y9k (scope:Scope)(env:Env)(C:Addr):Env:=
 { newEnv scope C env.globals (cellsFrom (C+1) scope.names (x1n env.cells scope.names [])) env.qual none .none (some env) builtinsNs with scope:=relabel scope env }
def x27 (X:Cx)(N':List Str)(scope:Scope)(C:Addr)(s:Shared)(H:Hp)(fp:List Addr):Cx where
 prog:=X.prog
 w:=X.w
 K:=X.K
 mg:=X.mg
 base:=X.base
 A:=X.A
 N:=N'
 s₀:=s
 H₀:=H
 env:=y9k scope X.env C
 outer:=X.stack
 stack:=X.stack
 ex:=fp
 fn:=fun y=>scope.names.lookup y==some .cell
 calm:=X.calm
 pn:=[]
 xe:=fun _ _=>False
structure CompOk (X:Cx) (k:Nat) (N':List Str) (scope:Scope):Prop where
 kind:scope.kind=.function
 names:(scope.names.map (·.1)).Nodup
 len:N'.length=X.N.length+k
 frees:(scope.names.all fun y=>y.2 != .free||X.env.kindOf y.1==some .cell||X.env.kindOf y.1==some .free)=true
 outs:((N'.zip X.N).all fun p=>(p.1==p.2&&scope.names.lookup p.1==some .free)||scope.names.lookup p.1==none||scope.names.lookup p.1==some .globalImplicit)=true
theorem CompOk.free{k:Nat}(S:CompOk X k N' scope)(h:(y,NameKind.free)∈scope.names):X.env.kindOf y=some .cell\/X.env.kindOf y=some .free:=by
 have:=JB.mp S.frees (y,NameKind.free) h
 simp only[Bool.or_eq_true,bne_iff_ne,ne_eq,Jh]at this
 rcases this with(h1|h1)|h1
 ·exact absurd trivial h1
 ·exact .inl h1
 ·exact .inr h1
theorem CompOk.out{k:Nat}(S:CompOk X k N' scope)(hi':i<X.N.length)(h:N'[i]? = some y)(hv:Vis (relabel scope X.env) y):X.N[i]? = some y/\scope.names.lookup y=some .free:=by
 have e2:X.N[i]? = some X.N[i]:=by simp[hi']
 have m:(y,X.N[i])∈N'.zip X.N:=Qy (i:=i) (by rw[YU];exact⟨h,e2⟩)
 have:=JB.mp S.outs _ m
 simp only[Bool.or_eq_true,Yg,Jh]at this
 have hl:(relabel scope X.env).names.lookup y=(scope.names.lookup y).map (y35 X.env y):=x4b _
 rcases this with(⟨h1,h2⟩|h1)|h1
 ·exact⟨by rw[e2,<- h1],h2⟩
 ·rw[h1]at hl
  rcases hv with z|z|z<;>(rw[hl]at z;cases z)
 ·rw[h1]at hl
  have hr:y35 X.env y .globalImplicit=.globalImplicit:=rfl
  rw[Z7,hr]at hl
  rcases hv with z|z|z<;>(rw[hl]at z;cases z)
theorem Un.updNew{fs ex:List Addr}{D:Addr}{o:HO}(u:Un fs ex H H' h h')(hok:HOk P w H h)(hD:h.objs.size<=D):Un fs ex H (upd H' D o) h h':=by
 have ne:∀ b ob,h.get? b=some ob->b≠D:=fun b ob e z=>absurd (Qv (Qm e) hD) (by rw[z];exact QL _)
 have ne':∀ b x,H b=some x->b≠D:=fun b x e z=>absurd (Qv (hok.lt e) hD) (by rw[z];exact QL _)
 refine⟨u.keep,u.slot,fun b ob e n hx=>?_,u.there,fun b xs e=>?_,fun b ob x e=>?_,fun b ps e=>?_⟩
 ·rw[x0e (ne b ob e)];exact u.free b ob e n hx
 ·rw[x0e (ne' b _ e)];exact u.tups b xs e
 ·rw[x0e (ne' b _ e)];exact u.frzs b ob x e
 ·rw[x0e (ne' b _ e)];exact u.tbls b ps e
theorem HOk.add{D:Addr}{o:HO}(x:HOk P w H h)(hn:H D=none)(new:x1q P w (upd H D o) h D o):HOk P w (upd H D o) h:=fun b u e=>by
 by_cases hb:b=D
 ·subst hb;rw[x0y]at e;cases e;exact new
 ·rw[x0e hb]at e
  exact(x b u e).stay (fun c v _ q=>q) (fun c q=>by rw[x0e (x0r q hn)];exact q) fun c xs q=>by rw[x0e (x0r q hn)];exact q
def PTs (X:Cx)(ifs:List Expr)(t:TT):Prop:=
 ∀ (pins:List (Addr×Obj)) (s:Shared) (σ:St) (H:Hp) (Q:Bool->Hp->Prop),Inv X pins σ H s->t σ H Q->
  wpAny (model X.prog X.w) X.A (forIn ifs true fun c r=>if r=true then do let ok <- isTrue c X.env (eval c X.env);pure (ForInStep.yield ok)else pure (ForInStep.yield r)) (TP X pins σ Q) X.xe s
def j3l:TT:=fun _ H Q=>Q true H
theorem z7f:PTs X [] j3l:=fun pins s σ H Q I h=>wpAny_tests_nil ⟨H,I,h⟩
theorem z68{c:Expr}{t:TT}(h:PT X c t):PTs X [c] t:=fun pins s σ H Q I q=>wpAny_tests_one (h pins s σ H Q I q)
def z9v (k:Nat)(g:TG)(tt:TT)(te:TE)(σ:St)(J:It)(H:Hp)(Fin:List V->Hp->Prop):Prop:=
 ∃ W:Nat->Nat->List V->Hp->Prop,(∃ m,W 0 m [] H)/\∀ i m ys H2,W i m ys H2->ys.length<=sizeLine /\
  ((J.stop i H2/\Fin ys H2)\/(J.go i H2/\ys.length<sizeLine/\∀ x H3,J.yld i H2 x H3->g x (σ++List.replicate k none) H3 fun σ4 H4=>(∃ τ,σ4=σ++τ/\τ.length=k) /\
    tt σ4 H4 fun b H5=>if b=true then te σ4 H5 fun v H6=>∃ m',m'<m/\W (i+1) m' (ys++[v]) H6 else ∃ m',m'<m/\W (i+1) m' ys H5))
def z2u (k:Nat)(wi:TI)(g:TG)(tt:TT)(te:TE):TE:=fun σ H Q=>wi σ H fun J H1=>z9v k g tt te σ J H1 fun ys H2=>∀ p,H2 p=none->Q (.ref p) (upd H2 p (.lst ys))
def lsO (us:List Value)(n:Nat):Obj:={ cls:=.type "list",data:=.seq us.toArray n }
theorem z8v{τ:St}(I:Inv X pins (σ++τ) H s):Inv X pins (σ++List.replicate τ.length none) H s:=
 I.weak (by simp) fun i v e=>by
  by_cases hi:i<σ.length
  ·rw[QS hi]at e ⊢
   exact e
  ·rw[Zm (by omega),ZS]at e
   split at e<;>cases e
section
variable {X:Cx}{k:Nat}{N':List Str}{scope:Scope}{pins:List (Addr×Obj)}{σ:St}{H2:Hp}{s2:Shared}{fp:List Addr}
abbrev x7j (scope:Scope)(s2:Shared):Heap:=pushCells ((s2.heap.push (lsO [] 0)).push { cls:=.type "dict",data:=.dict #[] }) scope.names
theorem z3w(S:CompOk X k N' scope)(I2:Inv X pins σ H2 s2)(f2:∀ b∈fp,z0z X pins H2 b)(hfp:∀ b∈fp,b<s2.heap.objs.size) :
  Inv (x27 X N' scope (s2.heap.objs.size+1) s2 H2 fp) [(s2.heap.objs.size,lsO [] 0)] (σ++List.replicate k none) H2 { s2 with heap:=x7j scope s2 }:=by
 have e1:(s2.heap.push (lsO [] 0)).objs.size=s2.heap.objs.size+1:=Zt ..
 have e2:((s2.heap.push (lsO [] 0)).push { cls:=.type "dict",data:=.dict #[] }).objs.size=s2.heap.objs.size+1+1:=by rw[Zt,e1]
 have keep:∀ b o,s2.heap.get? b=some o->(x7j scope s2).get? b=some o:=fun b o e=>JM _ _ b o (Qb _ (Qb _ e))
 have hsub:∀ y c,(y,c)∈x1n X.env.cells scope.names []->X.env.cells.lookup y=some c:=x4r (fun _ _ m=>nomatch m)
 have cmem:∀ y c,(y,c)∈cellsFrom (s2.heap.objs.size+1+1) scope.names (x1n X.env.cells scope.names [])->X.env.cells.lookup y=some c\/(s2.heap.objs.size+1+1<=c/\(x7j scope s2).IsCell c none):=fun y c m=>by
  have m':(y,c)∈cellsFrom ((s2.heap.push (lsO [] 0)).push { cls:=.type "dict",data:=.dict #[] }).objs.size scope.names (x1n X.env.cells scope.names []):=by rw[e2];exact m
  rcases x4p m' with q|⟨q1,q2⟩
  ·exact .inl (hsub y c q)
  ·rw[e2]at q1;exact .inr ⟨q1,q2⟩
 have clt:∀ y c,X.env.cells.lookup y=some c->c<s2.heap.objs.size:=fun y c e=>by obtain⟨v,z⟩:=I2.cell y c e;exact z.lt
 have hl:∀ y,(relabel scope X.env).names.lookup y=(scope.names.lookup y).map (y35 X.env y):=fun y=>x4b _
 have ok:(x27 X N' scope (s2.heap.objs.size+1) s2 H2 fp).Ok:=by
  refine⟨I2.ok.mod,S.kind,I2.ok.glob,I2.ok.blt,JT _,fun x y c h1 h2=>?_,fun x hx=>?_,fun x c hf h=>?_,I2.ok.hd,I2.ok.frames,.inl rfl,fun b hb=>⟨?_,fun x c h z=>?_⟩,I2.bs,QU I2.ok.bsz I2.sz,fun b o e hb=>?_,fun b hb z=>?_,I2.stack,I2.stkFree⟩
  ·refine x4s (n:=s2.heap.objs.size+1+1) (names:=scope.names) (acc:=x1n X.env.cells scope.names []) (fun y c m=>?_) (fun x y c m1 m2=>?_) x y c (QO h1) (QO h2)
   ·exact Qv (clt y c (hsub y c m)) (by omega)
   ·exact I2.ok.inj x y c (hsub x c m1) (hsub y c m2)
  ·have hx':(relabel scope X.env).names.lookup x=some .cell\/(relabel scope X.env).names.lookup x=some .free:=hx
   rw[hl x]at hx'
   have:scope.names.lookup x=some .cell\/scope.names.lookup x=some .free:=by
    cases e:scope.names.lookup x with
    | none=>rw[e]at hx';rcases hx' with z|z<;>cases z
    | some kd=>
     rw[e,Z7]at hx'
     cases kd<;>first
      | exact .inl rfl
      | exact .inr rfl
      | (rcases hx' with z|z<;>(have z':=QC z;unfold y35 at z';simp at z'))
   rcases this with q|q
   ·exact Jg.mp (Jr scope.names (s2.heap.objs.size+1+1) _ (.inl q))
   ·have qm:=QO q
    have hk:=S.free qm
    obtain⟨c,hc⟩:=I2.ok.has x hk
    exact Jg.mp (Jr scope.names (s2.heap.objs.size+1+1) _ (.inr (x3w hc qm)))
  ·have hf':(scope.names.lookup x==some .cell)=true:=hf
   have:=x55 (lo:=s2.heap.objs.size) (n:=s2.heap.objs.size+1+1) (acc:=x1n X.env.cells scope.names []) (by omega) (QO (Jh.mp hf')) c h
   exact this
  ·have:=hfp b hb
   show b≠s2.heap.objs.size+1
   exact QM (Qv this (JT _))
  ·have q:=hfp b hb
   rcases cmem x c (QO h)with w|⟨w,_⟩
   ·exact(f2 b hb).2.2.2.2.1 x c w z
   ·subst z;exact absurd (Qv q (QU (by omega) w)) (QL _)
  ·rcases(f2 b hb).2.2.2.1 with z|z
   ·exact I2.ok.noex b o e z
   ·have:=Qm e
    have:=I2.ok.bsz
    exact absurd (Qv (Qm e) (QU I2.ok.bsz z)) (QL _)
  ·rcases Qq.mp (I2.stkSub b z)with q|q
   ·exact(f2 b hb).2.1 q
   ·exact(f2 b hb).2.2.1 q
 obtain⟨m,hn,hloc⟩:=id I2.loc
 refine⟨ok,rfl,I2.bare,Un.kept keep,⟨fun _=>none,?_,fun i y v h1 h2 h3=>?_⟩,fun y c h=>?_,I2.hok.fresh (JT _),fun y c h=>?_,fun p hp=>?_,I2.hok.kept keep,?_⟩
 ·have:=(Heap.Ns.new (s2.heap.push (lsO [] 0)) (.type "dict")).keeps (JM scope.names _)
  rw[e1]at this
  exact this
 ·by_cases hi:i<σ.length
  ·have h3':Vis (relabel scope X.env) y:=h3
   obtain⟨o1,o2⟩:=S.out (by rw[<- I2.len];exact hi) h1 h3'
   have hk:=S.free (QO o2)
   have hs:σ[i]? = some (some v):=by
    rw[QS hi]at h2
    exact h2
   obtain⟨u,r,l⟩:=hloc i y v o1 hs (.inr hk)
   refine⟨u,r,?_⟩
   rcases l with⟨l,_⟩|⟨_,c,hc,hcell⟩
   ·rcases hk with z|z<;>(rw[l]at z;cases z)
   ·refine .inr ⟨?_,c,?_,hcell.keeps keep⟩
    ·show(relabel scope X.env).names.lookup y=some .cell\/(relabel scope X.env).names.lookup y=some .free
     rw[hl y,o2,Z7]
     unfold y35
     split
     ·exact .inl rfl
     ·exact .inr rfl
    ·show(cellsFrom (s2.heap.objs.size+1+1) scope.names (x1n X.env.cells scope.names [])).lookup y=some c
     rw[x3q (fun z=>by have:=y2v S.names z;rw[o2]at this;cases this)]
     obtain⟨c',hc'⟩:=Jg.mp (x3w (acc:=[]) hc (QO o2))
     have:=hsub y c' (QO hc')
     rw[hc]at this;cases this
     exact hc'
  ·rw[Zm (by omega),ZS]at h2
   split at h2<;>cases h2
 ·rcases cmem y c (QO h)with w|⟨_,w⟩
  ·obtain⟨v,z⟩:=I2.cell y c w
   exact⟨v,z.keeps keep⟩
  ·exact⟨_,w⟩
 ·rcases cmem y c (QO h)with w|⟨w,_⟩
  ·exact I2.freeC y c w
  ·exact I2.hok.fresh (by omega)
 ·have e:p=(s2.heap.objs.size,lsO [] 0):=by
   have:p ∈ [(s2.heap.objs.size,lsO [] 0)]:=hp
   simpa using this
  subst e
  refine⟨JM _ _ _ _ (Qb _ (Qo _ rfl)),I2.hok.fresh (Qi _),?_,fun z=>?_,fun v z=>nomatch z⟩
  ·show s2.heap.objs.size≠s2.heap.objs.size+1
   omega
  ·have z':s2.heap.objs.size∈frs X.stack:=z
   rcases Qq.mp (I2.stkSub _ z')with q|q
   ·exact absurd I2.lt (by rw[<- q];exact QL _)
   ·exact I2.nofs (Qi _) q
 ·rw[Qw,Zy,I2.len]
  exact S.len.symm
theorem z20{us:List Value}{ys:List V}{s':Shared}{σ':St}(I2:Inv X pins σ H2 s2)(f2:∀ b∈fp,z0z X pins H2 b)
  (I3:Inv (x27 X N' scope C s2 H2 fp) [(s2.heap.objs.size,lsO us n)] σ' H' s') (r:x1w ys us) (hz:ys.length<=sizeLine):Inv X pins σ (upd H' s2.heap.objs.size (.lst ys)) s':=by
 obtain⟨e,hn,_⟩:=I3.pin (s2.heap.objs.size,lsO us n) (Qr _ (Q6.mpr rfl))
 have u:Un (frs X.stack) fp H2 H' s2.heap s'.heap:=I3.base
 exact I2.call' (ch:=fp) I3.os (u.updNew I2.hok (Qi _)) (I3.hok.add hn ⟨hz,us,n,r,e⟩) I3.bare fun b hb=>⟨(f2 b hb).2.2.2.1,(f2 b hb).2.1,(f2 b hb).2.2.2.2⟩
end
theorem y63{k:Nat}{H2:Hp}{s2:Shared}{fp:List Addr}{tg:Expr}{it:Addr}{tn:Nat->Heap->Prop}{J:It}{g:TG}{tt:TT}{te:TE}{Fin:List V->Hp->Prop}{E:Value->Shared->Prop}{RR:Value->Addr->Result->Shared->Prop}
  (hc:X.calm=true) (S:CompOk X k N' scope) (hg:∀ C s H fp,PG (x27 X N' scope C s H fp) tg g) (ht:∀ C s H fp,PTs (x27 X N' scope C s H fp) ifs tt) (he:∀ C s H fp,PE (x27 X N' scope C s H fp) elt te)
  (I2:Inv X pins σ H2 s2) (T:Turn X.prog X.w X.K tg J fp it tn) (st2:tn 0 s2.heap) (f2:∀ b∈fp,z0z X pins H2 b) (R:z9v k g tt te σ J H2 Fin)
  (hRR:∀ C ys H' s' m',Inv X pins σ (upd H' s2.heap.objs.size (.lst ys)) s'->s'.heap.Ns C m'->H' s2.heap.objs.size=none->upd H' s2.heap.objs.size (.lst ys) C=none->C≠X.env.locals->X.s₀.heap.objs.size<=C->s2.heap.objs.size<C->
    Fin ys H'->RR (.ref s2.heap.objs.size) C (.ok .next) s') :
  wpAny (model X.prog X.w) X.A (newList []) (fun acc s₃=>wpAny (model X.prog X.w) X.A (newFunctionEnv scope X.env.globals (x1n X.env.cells scope.names []) [] X.env.qual none .none (some X.env)) (fun cenv s₄=>
   codeAny (model X.prog X.w) X.A (.compStart (.ListComp elt [⟨tg,iter,ifs,0⟩] scope pos) 0 (.ref it) acc { cenv with scope:=relabel scope X.env }) (RR acc cenv.locals) s₄) E s₃) E s2:=by
 refine Q0 (y53 ?_)
 have e1:(s2.heap.push (lsO [] 0)).objs.size=s2.heap.objs.size+1:=Zt ..
 have hfp:∀ b∈fp,b<s2.heap.objs.size:=fun b hb=>by obtain⟨o,e,_⟩:=T.obj _ _ st2 b hb;exact Qm e
 obtain⟨W,⟨m0,w0⟩,turn⟩:=R
 have I3:=z3w S I2 f2 hfp
 have st3:tn 0 (x7j scope s2):=T.keep _ _ _ st2 fun b hb o e=>JM _ _ b o (Qb _ (Qb _ e))
 have hDC:s2.heap.objs.size≠s2.heap.objs.size+1:=by omega
 -- what stays true of the iterator's objects
 have stat:∀ {H':Hp} {us:List Value} {n:Nat},(∀ b∈fp,H' b=none)->∀ b∈fp,z0z (x27 X N' scope (s2.heap.objs.size+1) s2 H2 fp) [(s2.heap.objs.size,lsO us n)] H' b:=fun {H' us n} hn b hb=>by
  have q:=I3.ok.exf b hb
  refine⟨hn b hb,q.1,I3.ok.exfs b hb,.inl hb,q.2,fun p hp z=>?_⟩
  have hp':p ∈ [(s2.heap.objs.size,lsO us n)]:=hp
  have e:p=(s2.heap.objs.size,lsO us n):=by simpa using hp'
  subst e
  have:=hfp b hb
  have z':s2.heap.objs.size=b:=z
  exact absurd this (by rw[z'];exact QL _)
 have loop:∀ it',it'=Value.ref it->codeAny (model X.prog X.w) X.A (.compLoop (.ListComp elt [⟨tg,iter,ifs,0⟩] scope pos) 0 it' (.ref s2.heap.objs.size) (y9k scope X.env (s2.heap.objs.size+1))) (RR (.ref s2.heap.objs.size) (s2.heap.objs.size+1)) { s2 with heap:=x7j scope s2 }:=by
  rintro _ rfl
  refine y3j (fun n s'=>∃ i ys us cnt H',Inv (x27 X N' scope (s2.heap.objs.size+1) s2 H2 fp) [(s2.heap.objs.size,lsO us cnt)] (σ++List.replicate k none) H' s'/\tn i s'.heap/\(∀ b∈fp,H' b=none)/\x1w ys us/\W i n ys H') ?_ m0
   ⟨0,[],[],0,H2,I3,st3,fun b hb=>(f2 b hb).1,.nil,w0⟩
  rintro n s3 ⟨i,ys,us,cnt,H3,J3,st,fr,r3,w3⟩
  obtain⟨hz,hw⟩:=turn i n ys H3 w3
  rcases hw with⟨stop,fin⟩|⟨go,hlt,step⟩
  ·refine thn (T.done (x27 X N' scope (s2.heap.objs.size+1) s2 H2 fp) rfl rfl rfl hc i _ s3 _ H3 _ J3 (stat fr) st stop) fun rr s4 ⟨hr,I4⟩=>?_
   subst hr
   obtain⟨m',hn',_⟩:=id I4.loc
   obtain⟨eD,nD,_⟩:=I4.pin (s2.heap.objs.size,lsO us cnt) (Qr _ (Q6.mpr rfl))
   refine hRR (s2.heap.objs.size+1) ys H3 s4 m' (z20 I2 f2 I4 r3 hz) hn' nD ?_ ?_ ?_ (Zv _) fin
   ·rw[x0e (Zi hDC)];exact I4.free
   ·exact Zi (QM (Qv I2.lt (JT _)))
   ·have:=I2.sz;omega
  ·refine thn (T.item (x27 X N' scope (s2.heap.objs.size+1) s2 H2 fp) rfl rfl rfl hc i _ s3 _ H3 _ J3 (stat fr) st go) fun rr s4 ⟨u,hr,h4⟩=>?_
   subst hr
   refine thn h4 fun _ s5 hh0=>?_
   obtain⟨x,H5,I5,r5,y5,st5,fr5⟩:=hh0
   have I5':=I5.pinned (stat fr5) (T.obj _ _ st5)
   refine thn (hg _ _ _ _ _ s5 _ H5 x u _ I5' r5 (step x H5 y5)) fun _ s6 ⟨σ6,H6,I6,⟨τ,e6,l6⟩,q6⟩=>?_
   subst e6
   refine thn (ht _ _ _ _ _ s6 _ H6 _ I6 q6) fun ok s7 hh0=>?_
   obtain⟨H7,I7,q7⟩:=hh0
   have kept:∀ {s':Shared} {H':Hp} {σ':St},Inv (x27 X N' scope (s2.heap.objs.size+1) s2 H2 fp) ([(s2.heap.objs.size,lsO us cnt)]++x8o fp s5.heap) σ' H' s'->tn (i+1) s'.heap/\∀ b∈fp,H' b=none:=fun {s' H' σ'} I'=>by
    refine⟨T.keep _ _ _ st5 fun b hb o e=>(I'.pin (b,o) (Qr _ (Qr _ (x5s hb e)))).1,fun b hb=>?_⟩
    obtain⟨o,e,d⟩:=T.obj _ _ st5 b hb
    exact(I'.pin (b,o) (Qr _ (Qr _ (x5s hb e)))).2.1
   cases ok with
   | false=>
    rw[Qk (by decide)]at q7 ⊢
    obtain⟨m',hm,w7⟩:=q7
    have:=z8v I7.unpinned
    rw[l6]at this
    exact⟨m',hm,i+1,ys,us,cnt,H7,this,(kept I7).1,(kept I7).2,r3,w7⟩
   | true=>
    rw[Qj rfl]at q7 ⊢
    refine thn (he _ _ _ _ _ s7 _ H7 _ I7 q7) fun u8 s8 hh0=>?_
    obtain⟨v,H8,I8,r8,m',hm,w8⟩:=hh0
    obtain⟨eD,nD,neD,nfD,dD⟩:=I8.pin (s2.heap.objs.size,lsO us cnt) (Qr _ (Q9 _ (Q6.mpr rfl)))
    refine append_at eD (fun h9 hs9 hD9=>?_) (hsz:=by rw[Qn,<- r3.length];exact ZP hlt)
    have Ia:=I8.pins_of (pins':=x8o fp s5.heap) fun p hp=>I8.pin p (Qr _ (Qr _ hp))
    have nfp:∀ p∈x8o fp s5.heap,p.1≠s2.heap.objs.size:=fun p hp z=>by
     have:=hfp p.1 (y30 hp).1
     exact absurd this (by rw[z];exact QL _)
    have Ib:=Ia.turned (h':=h9) (t':=s8.toks) (it:=s2.heap.objs.size) (fun b o hb e=>hs9.extBut b o hb e) nD neD (.inr (Qi _)) (fun y c h z=>by
      obtain⟨vv,o,ho,hd⟩:=I8.cell y c h
      rw[z,eD]at ho
      cases ho
      cases hd) (fun p hp=>nfp p (by
      have hp':p ∈ []++x8o fp s5.heap:=hp
      simpa using hp'))
    have Ic:=Ib.pins_of (pins':=[(s2.heap.objs.size,lsO (us++[u8]) (cnt+1))]) fun p hp=>by
     have e:p=(s2.heap.objs.size,lsO (us++[u8]) (cnt+1)):=by simpa using hp
     subst e
     refine⟨?_,nD,neD,nfD,fun v z=>nomatch z⟩
     show h9.get? s2.heap.objs.size=_
     rw[hD9]
     unfold lsO
     simp
    have Id:=z8v Ic
    rw[l6]at Id
    have kp:=kept I8
    refine⟨m',hm,i+1,ys++[v],us++[u8],cnt+1,H8,Id,T.keep _ _ _ kp.1 fun b hb o e=>hs9.extBut b o (fun z=>by
     have:=hfp b hb
     have z':b=s2.heap.objs.size:=z
     exact absurd this (by rw[z'];exact QL _)) e,kp.2,x1w.append r3 (.cons r8 .nil),w8⟩
 have hC:(s2.heap.push { cls:=.type "list",dict:=none,data:=.seq ([]:List Value).toArray }).objs.size=s2.heap.objs.size+1:=Zt ..
 have fin:=codeAny_compStart_list (loop _ rfl) (T.self X.A 0 _ _ _ st3 (loop _ rfl))
 dsimp only at fin ⊢
 rw[hC]
 exact fin
theorem CompOk.locs{k:Nat}(S:CompOk X k N' scope):∀ y∈scope.names,y.2=.local->scope.names.lookup y.1=some .local:=fun y hy e=>by
 obtain⟨n,kd⟩:=y
 have e':kd=.local:=e
 subst e'
 exact y2v S.names hy
theorem x86{m:Str->Option Value}{v:Option Value}(hn:h.Ns C m)(hc:h.IsCell c v):c≠C:=fun z=>by
 obtain⟨o,es,ep,ho,hd,_⟩:=hn
 obtain⟨o',ho',hd'⟩:=hc
 rw[z,ho]at ho'
 cases ho'
 rw[hd]at hd'
 cases hd'
section
variable {X:Cx}{k:Nat}{N':List Str}{scope:Scope}{elt tg iter:Expr}{ifs:List Expr}{pos:Pos}{wi:TI}{g:TG}{tt:TT}{te:TE}
theorem z7h(hc:X.calm=true)(S:CompOk X k N' scope)(hi:PI X tg iter wi)(hg:∀ C s H fp,PG (x27 X N' scope C s H fp) tg g)(ht:∀ C s H fp,PTs (x27 X N' scope C s H fp) ifs tt)(he:∀ C s H fp,PE (x27 X N' scope C s H fp) elt te)
  (hs:∀ x,foldedSetIterable iter X.env x=pure x:=by intro _;rfl):PE X (.ListComp elt [⟨tg,iter,ifs,0⟩] scope pos) (z2u k wi g tt te):=by
 intro pins s σ H Q I h
 rw[eval_ListComp]
 refine wpAny_comprehension_free (use:=none) rfl hs (x7n fun y hy e=>?_) S.kind S.locs (thn (hi pins s σ H _ I h) fun v s1 h1=>thn h1 fun itv s2 h2=>?_)
 ·obtain⟨n,kd⟩:=y
  have e':kd=.free:=e
  subst e'
  exact I.ok.has n (S.free hy)
 ·obtain⟨it,fp,tn,J,H2,e,I2,T,st2,f2,R⟩:=h2
  subst e
  refine y63 hc S hg ht he I2 T st2 f2 R ?_
  intro C ys H' s' m' I' hn hD hCn hCL hCs hCD fin
  refine⟨m',hn,fun h' hs'=>⟨.ref s2.heap.objs.size,_,I'.turned (h':=h') (t':=s'.toks) (it:=C) (fun b o hb e=>hs'.extBut b o hb e) hCn hCL (.inr hCs) (fun x c h=>?_) (fun p hp z=>?_),rfl,fin _ hD⟩⟩
  ·obtain⟨v,q⟩:=I'.cell x c h
   exact x86 hn q
  ·have:=Qm (I2.pin p hp).1
   exact absurd (J0 this hCD) (by rw[z];exact QL _)
theorem z5g{py spos:Pos}(hN:X.N.Nodup)(hy:X.N[i]? = some y)(hx:Loc X.env.scope y)(hsw:swapsWith (.ListComp elt [⟨tg,iter,ifs,0⟩] scope pos) (some (.Name y py)) spos.line X.env=pure true)
  (hc:X.calm=true) (S:CompOk X k N' scope) (hi:PI X tg iter wi) (hg:∀ C s H fp,PG (x27 X N' scope C s H fp) tg g) (ht:∀ C s H fp,PTs (x27 X N' scope C s H fp) ifs tt) (he:∀ C s H fp,PE (x27 X N' scope C s H fp) elt te)
  (hs:∀ x,foldedSetIterable iter X.env x=pure x:=by intro _;rfl) (hf:X.fn y=true\/X.env.scope.names.lookup y=some .local:=by first|exact .inl rfl|exact .inr rfl|assumption) :
  PS X (.Assign [.Name y py] (.ListComp elt [⟨tg,iter,ifs,0⟩] scope pos) spos) (j2o (z2u k wi g tt te) (z77 i)):=by
 intro pins s σ H D I h
 rw[exec_Assign_Name_used _ _ _ _ hsw]
 refine wpAny_bind (wpAny_standAt (wpAny_bind ?_))
 show wpAny _ X.A (do let _ <- comprehension (.ListComp elt [⟨tg,iter,ifs,0⟩] scope pos) scope X.env _ (newList []) false (eval iter X.env) (some (assign (.Name y py) X.env))) _ _ s
 refine wpAny_bind (ZE (wpAny_comprehension_free (use:=some (assign (.Name y py) X.env)) (Q:=fun _ s'=>SP X pins D .next s') rfl hs (x7n fun z hz e=>?_) S.kind S.locs
  (thn (hi pins s σ H _ I h) fun v s1 h1=>thn h1 fun itv s2 h2=>?_)) (fun _ s' hq=>Qd (Qd hq)) fun _ _ e=>e)
 ·obtain⟨n,kd⟩:=z
  have e':kd=.free:=e
  subst e'
  exact I.ok.has n (S.free hz)
 ·obtain⟨it,fp,tn,J,H2,e,I2,T,st2,f2,R⟩:=h2
  subst e
  refine y63 hc S hg ht he I2 T st2 f2 R ?_
  intro C ys H' s' m' I' hn hD hCn hCL hCs hCD fin
  show wpAny _ X.A (assign (.Name y py) X.env (.ref s2.heap.objs.size)) _ _ _
  refine wpAny_assign_Name (y3l I' hN hy hx (v:=.ref s2.heap.objs.size) rfl (fun s'' I'' ⟨a,sb,ha⟩=>?_) hf)
  have hCa:C≠a:=fun z=>by
   rcases ha with q|q
   ·exact hCL (z.trans q)
   ·obtain⟨v,w⟩:=I'.cell y a q
    exact x86 hn w z.symm
  have hn2:=hn.sameBut sb hCa
  refine⟨m',hn2,fun h' hs'=>⟨_,_,I''.turned (h':=h') (t':=s''.toks) (it:=C) (fun b o hb e=>hs'.extBut b o hb e) hCn hCL (.inr hCs) (fun x c h=>?_) (fun p hp z=>?_),fin _ hD⟩⟩
  ·obtain⟨v,q⟩:=I''.cell x c h
   exact x86 hn2 q
  ·have:=Qm (I2.pin p hp).1
   exact absurd (J0 this hCD) (by rw[z];exact QL _)
end
end L2
namespace L3
open PySem PySem.Spec PyProof.Rows PySem.W L2
variable {M:Model}{R:Result->Shared->Prop}{h:Heap}
section
variable {prog:Program}{w:World}{A:Around}{E:Value->Shared->Prop}{s:Shared}{K:Frag}{x C:Addr}{ox:Obj}
structure XAt (h:Heap) (x:Addr) (ox:Obj) (C:Addr):Prop where
 at_:h.get? x=some ox
 cls:ox.cls=.ref C
theorem XAt.type(I:XAt h x ox C):Looks M h (typeOf (.ref x)) (.ref C):=I.cls ▸ (Looks.ld I.at_).andThen .now
structure XCls (K:Frag) (C:Addr):Prop where
 ci:(clsIn K C).isSome=true
 ga:findIn K (.ref C) "__getattribute__" = some (some (.builtin "BaseException.__getattribute__"))
 gt:findIn K (.ref C) "__getattr__" = some none
 cl:findIn K (.ref C) "__class__" = some (some (.builtin "object.__class__"))
 cg:specialIn K (.builtin "object.__class__") "__get__" = some (some (.builtin "getset_descriptor.__get__"))
 ct:takesIn K (.builtin "object.__class__")=some true
 mo:mroIn K C (.type "object")=some true
 mb:mroIn K C (.type "BaseException")=some true
theorem z6h(X:K.In h)(I:XAt h x ox C)(XC:XCls K C):Looks M h (Builtin.ObjectAttr.find (.ref x) (.ref C) "__class__") (.bind (.builtin "getset_descriptor.__get__") (.builtin "object.__class__")):=by
 have L1:=looks_findIn (M:=M) X XC.cl
 have L2:Looks M h (Builtin.ObjectAttr.getOf (some (.builtin "object.__class__"))) _:=looks_specialIn (M:=M) X XC.cg
 have L3:=looks_takesIn (M:=M) X XC.ct
 exact L1.andThen (L2.andThen ((show Looks M h (Builtin.ObjectAttr.dataDescriptor? (some (.builtin "object.__class__")) (some (.builtin "getset_descriptor.__get__"))) (some ((.builtin "getset_descriptor.__get__"),(.builtin "object.__class__")))from L3.andThen .now).andThen (Looks.tag .now)))
theorem y48{tp:Value}(X:K.In s.heap)(I:XAt s.heap x ox C)(hm:mroIn K C (.type "object")=some true)
  (h:R (.ok (.ret (.ref C))) s):codeAny (model prog w) A (.call (.builtin "getset_descriptor.__get__") ⟨[.builtin "object.__class__",.ref x,tp],[]⟩) R s:=by
 obtain⟨hh,g,dr,t,os⟩:=s
 have L0:=I.type (M:=model prog w)
 have L1:=looks_mroIn (M:=model prog w) X hm
 refine Jd KF.slot_gs.plain KF.entry_gs (KF.slot_gs.check _ _ _ _ _ _ _ _ KF.type_class (KF.args_gs _ _ _) ?_)
 unfold Builtin.«getset_descriptor.__get__» Builtin.Getset_descriptor.descrGet
 rw[dga_obj]
 refine wpAny_bind (Qd ?_)
 unfold Builtin.Getset_descriptor.descrGetter Builtin.Getset_descriptor.descrCheckInstance Builtin.Getset_descriptor.descrNameAndClass isInstance
 simp only[KF.owner_class]
 repeat lk
 refine⟨YI _ (by decide +kernel),ZW KF.entry_class ?_⟩
 unfold Builtin.«object.__class__» shownTypeOf
 repeat lk
 exact h
theorem z38{nameV:Value}{Q:Unit->Shared->Prop}(X:K.In s.heap)(I:XAt s.heap x ox C)(XC:XCls K C)(hq:Q () s):wpAny M A (checkBuiltinCall "BaseException.__getattribute__" ⟨[.ref x,nameV],[]⟩) Q E s:=by
 obtain⟨hh,g,d,t,os⟩:=s
 have L0:=I.type (M:=M)
 have L1:=looks_mroIn (M:=M) X XC.mb
 have hk:builtinKind "BaseException.__getattribute__" = some .slot:=by decide +kernel
 have hsplit:splitId "BaseException.__getattribute__" = some ("BaseException","__getattribute__"):=by decide +kernel
 have ha:=PySem.F.args_bexc_ga (.ref x) nameV
 simp only[checkBuiltinCall,hk,hsplit]
 unfold isInstance
 repeat lk
 exact hq
theorem j1l{tk:Tok}(X:K.In s.heap)(I:XAt s.heap x ox C)(XC:XCls K C)(h:R (.ok (.ret (.ref C))) s) :
  codeAny (model prog w) A (.call (.builtin "BaseException.__getattribute__") ⟨[.ref x,.str "__class__" tk],[]⟩) R s:=by
 refine Jd YJ.ga.plain PySem.F.entry_bexc_ga (z38 X I XC ?_)
 obtain⟨hh,g,d,t,os⟩:=s
 have L0:=I.type (M:=model prog w)
 have L1:=z6h (M:=model prog w) X I XC
 show wpAny _ _ (Builtin.«object.__getattribute__» ⟨[.ref x,.str "__class__" tk],[]⟩) _ _ _
 refine wpAny_bind (Qd ?_)
 refine wpAny_bind (Qd ?_)
 refine wpAny_bind (L0.at (wpAny_bind (L1.at ?_)))
 show wpAny _ _ (holding [.builtin "object.__class__"] (call (.builtin "getset_descriptor.__get__") [.builtin "object.__class__",.ref x,.ref C]) >>= ret) _ _ _
 exact wpAny_bind (Za (wpAny_call (y48 X I XC.mo (Qd h))))
theorem z29{Q:Option Value->Shared->Prop}(X:K.In s.heap)(I:XAt s.heap x ox C)(XC:XCls K C)(h:Q (some (.ref C)) { s with toks:=s.toks+1 }):wpAny (model prog w) A (getAttr? (.ref x) "__class__") Q E s:=by
 obtain⟨hh,g,d,t,os⟩:=s
 have L0:=I.type (M:=model prog w)
 have L1:=looks_findIn (M:=model prog w) X XC.ga
 have L2:=looks_findIn (M:=model prog w) X XC.gt
 have f3:=YJ.ga.bind (.ref x)
 unfold getAttr? getAttrBy? getAttrBy
 refine wpAny_bind (wpAny_mkText (wpAny_bind (Ji (Za (wpAny_bind (L0.at (wpAny_bind (L1.at ?_))))))))
 show wpAny _ _ (getAttrByItsOwn _ _ _ _ _ _) _ _ _
 unfold getAttrByItsOwn
 refine wpAny_bind (L2.at ?_)
 refine wpAny_bind (Ji (Za ?_))
 show wpAny _ _ (boundAndCalled _ _ _) _ _ _
 unfold boundAndCalled
 rw[f3]
 refine wpAny_bind (Qd ?_)
 show wpAny _ _ (call (.builtin "BaseException.__getattribute__") [.ref x,.str "__class__" t]) _ _ _
 refine wpAny_call (j1l (s:=⟨hh,g,d,t+1,os⟩) X I XC ?_)
 exact handed_on rfl (Qd h)
theorem y3f{D:Addr}(X:K.In h)(e:(clsIn K D).isSome=true):Looks M h (isType (.ref D)) true:=by
 unfold clsIn at e
 split at e
 ·rename_i c' d' cd' sl' ho
  intro A' Q' E' s' k q
  unfold isType loadHead
  exact wpAny_bind (wpAny_loadPart (k _ _ (X _ _ ho)) (Qd q))
 ·cases e
theorem y87{c:Value}{dep:Int}{tk:Tok}{Q:Fin->Shared->Prop}(X:K.In s.heap)(I:XAt s.heap x ox C)(XC:XCls K C)(hty:Looks (model prog w) s.heap (typeOf c) (.type "type"))(his:Looks (model prog w) s.heap (isType c) true)
  (hne:(Value.ref C==c)=false) (hsub:Looks (model prog w) s.heap (isSubtype (.ref C) c) false) (h:Q (.done (.ret (.bool false))) { s with toks:=s.toks+1 }) :
  wpAny (model prog w) A (Builtin.«isinstance.nested» ⟨[.ref x,c,.int dep tk],[]⟩) Q E s:=by
 have hisD:=y3f (M:=model prog w) X XC.ci
 obtain⟨h0,g,d,tt,os⟩:=s
 have L0:=I.type (M:=model prog w)
 have LI:Looks (model prog w) h0 (isInstance (.ref x) c) false:=L0.andThen hsub
 unfold Builtin.«isinstance.nested»
 refine wpAny_bind (L0.at ?_)
 rw[Qk (fun q=>by rw[hne]at q;exact Bool.noConfusion q)]
 refine wpAny_bind (hty.at ?_)
 rw[Qj (by decide)]
 k_delta "plainIsInstance"
 refine wpAny_bind (wpAny_bind (his.at ?_))
 simp only[Jj,Qt,Zn]
 refine wpAny_bind (LI.at ?_)
 simp only[Qt,Zn]
 refine wpAny_bind (z29 X I XC ?_)
 refine wpAny_bind (hisD.at ?_)
 simp only[Jj,Qt,Zn]
 refine wpAny_bind (Vs ?_)
 refine hsub.at ?_
 first
  | exact Qd h
  | exact Qd (Qd h)
  | exact wpAny_bind (Qd (Qd h))
theorem z88{T:String}{Q:Value->Shared->Prop}(X:K.In s.heap)(I:XAt s.heap x ox C)(XC:XCls K C)(hty:typeOf (.type T)=pure (.type "type"))(e:subIn K (.ref C) (.type T)=some false)(h:Q (.bool false) { s with toks:=s.toks+1 }):wpAny (model prog w) A (call (.builtin "isinstance") [.ref x,.type T]) Q E s:=
 call_isinstance (S:=fun _ R s=>(K.In s.heap/\XAt s.heap x ox C)/\R (.ok (.ret (.bool false))) { s with toks:=s.toks+1 })
  (fun _ _ _ _ _ hs=>isinstance_outer (y87 hs.1.1 hs.1.2 XC (Looks.of_pure hty) (Looks.of_pure rfl) (Bool.eq_false_iff.mpr fun q=>by cases Jh.mp q) (looks_subIn hs.1.1 e) hs.2) (by intro q;cases q)) ⟨⟨X,I⟩,h⟩
end
def bmV:List Value:=[.type "ValueError",.type "Exception",.type "BaseException",.type "object"]
structure XKls (K:Frag) (nm:Str) (C:Addr):Prop where
 ns:nsIn K mainGlobals nm=some (some (.ref C))
 xc:XCls K C
 ex:excIn K C bmV "ValueError.__new__" = true
 ve:subIn K (.ref C) (.type "ValueError")=some true
 no:∀ T ∈ ["int","bool","tuple","list","str"],subIn K (.ref C) (.type T)=some false
def XO (K:Frag)(nm:Str)(ob:Obj):Prop:=∃ C,ob.cls=.ref C/\XKls K nm C
end L3
namespace L3
open PySem PySem.Spec PyProof.Rows L2
variable {A:Around}{E:XK}{F:List Addr}{H H' H1 H2:Hp}{K:PySem.W.Frag}{N ps:List Str}{X:Cx}{a p:Addr}{b c:Int}{deep:Bool}{e tg:Expr}{es:List Expr}{fd:FuncData}{h:Int->Int->V}{i n t':Nat}{op:CmpOp}{r:R2}{te:TE}{u:Tok}{v:V}{vs xs:List V}{x:HO}{y:Option HO}
theorem y1i:Slot "function" "__getattribute__" "object.__getattribute__" :=
 .of (owner:="object") (n:="__getattribute__") (by rw[Ys,Jy];kernel_rfl) (by decide +kernel) (by decide +kernel) (by decide +kernel)
  (by first|exact .inl (by decide +kernel)|exact .inr (by decide +kernel)) (by rw[J1];kernel_rfl)
theorem z7k:typeLookup (.type "function") "__class__" = pure (some (.builtin "object.__class__")):=by rw[Ys,Jy];kernel_rfl
theorem z98:isSubtype (.type "function") (.type (".".intercalate ("object.__class__".cutAt '.').dropLast))=pure true:=by
 rw[PySem.F.owner_object_class,J1];kernel_rfl
theorem z2z:entryFor table "object.__getattribute__" = some Builtin.«object.__getattribute__»:=entryFor_of_tree (by kernel_rfl)
theorem z7t(a b:Value):argsOk "object.__getattribute__" ⟨[a,b],[]⟩:=by unfold argsOk;kernel_rfl
section
variable {prog:Program}{w:World}{A:Around}{E:Value->Shared->Prop}{s:Shared}{a:Addr}
theorem z8s{R:Result->Shared->Prop}(hT:s.TypeIs (.ref a) "function")(hq:R (.ok (.ret (.type "function"))) s) :
  codeAny (model prog w) A (.call (.builtin "getset_descriptor.__get__") ⟨[.builtin "object.__class__",.ref a,.type "function"],[]⟩) R s:=by
 obtain⟨h,g,d,t,os⟩:=s
 have h5:(⟨h,g,d,t,os⟩:Shared).TypeIs (.builtin "object.__class__") "getset_descriptor":=JA
 have f8:=z98
 refine Jd Yx.plain PySem.F.entry_gs_get (Yx.check _ _ _ _ _ _ _ _ h5 (PySem.F.args_gs_get _ _ _) ?_)
 repeat (any_goals (first|assumption|wp_step))
 refine⟨YI _ (by decide +kernel),ZW PySem.F.entry_object_class ?_⟩
 repeat (any_goals (first|assumption|wp_step))
theorem z3m{Q:Option Value->Shared->Prop}(hT:s.TypeIs (.ref a) "function")(hq:Q (some (.type "function")) { s with toks:=s.toks+1 }):wpAny (model prog w) A (getAttr? (.ref a) "__class__") Q E s:=by
 obtain⟨h,g,d,t,os⟩:=s
 have hT1:∀ t',(⟨h,g,d,t',os⟩:Shared).TypeIs (.ref a) "function":=fun _=>hT
 have en:∀ {tk:Tok} {t':Nat} {Q:Fin->Shared->Prop} {E:Value->Shared->Prop} {A:Around},Q (.done (.ret (.type "function"))) ⟨h,g,d,t',os⟩->
   wpAny (model prog w) A (Builtin.«object.__getattribute__» ⟨[.ref a,.str "__class__" tk],[]⟩) Q E ⟨h,g,d,t',os⟩:=by
  intro tk t' Q E A hq
  have hT:=hT1 t'
  have h5:(⟨h,g,d,t',os⟩:Shared).TypeIs (.builtin "object.__class__") "getset_descriptor":=JA
  have f4:=z7k
  have f5:=JA
  have f6:=Yx.lookup
  have f7:=PySem.F.slot_gs_set.lookup
  repeat (any_goals (first|assumption|wp_step))
  refine z8s hT ?_
  repeat (any_goals (first|assumption|wp_step))
 have by':∀ {tk:Tok} {t':Nat} {Q:Value->Shared->Prop} {E:Value->Shared->Prop} {A:Around},Q (.type "function") ⟨h,g,d,t',os⟩->wpAny (model prog w) A (getAttrBy (.ref a) (.str "__class__" tk) false) Q E ⟨h,g,d,t',os⟩:=by
  intro tk t' Q E A hq
  have hT:=hT1 t'
  have f2:=y1i.lookup
  have f3:=y1i.bind (.ref a)
  repeat (any_goals (first|assumption|wp_step))
  refine Jd y1i.plain z2z (y1i.check _ _ _ _ _ _ _ _ hT (z7t _ _) (en ?_))
  repeat (any_goals (first|assumption|wp_step))
 unfold getAttr? getAttrBy?
 repeat (any_goals (first|assumption|with_reducible apply by' | wp_step))
theorem z25:PySem.W.KitX K (.ref a) (.type "function") (PySem.W.KitAt a "function"):=PySem.W.kitx_of PySem.W.kitAt_ty (fun {_ _ _ _ _ s} p k=>z3m (by obtain⟨o,h1,h2⟩:=p;exact⟨o,h1,h2⟩) k)
end
inductive MK where
 /-- tuples as keys -/
 | t (ks:List (List Key))
 /-- ints and texts as keys -/
 | k (ks:List Key)
 /-- an instance of the class at C,its fields -/
 | i (C:Addr) (fs:List Str)
def MK.len:MK->Nat
 | .t ks=>ks.length
 | .k ks=>ks.length
 | .i _ fs=>fs.length
inductive D where
 | non|bl (b:Bool)|int (i:Int)|str (x:Str)|tup (ds:List D)|lst (ds:List D)
 /-- a dict that is not changed,its keys texts -/
 | dic (ks:List Str) (ds:List D)
 /-- an exception,by its class's name -/
 | exc (nm:Str)
 /-- a function made here: its place,its object,what it keeps of the names around it -/
 | ob (f:Addr) (fo:Obj) (vs:List V) (ds:List D)
 /-- a dict that is changed,or an instance -/
 | mp (k:MK) (ds:List D)
abbrev St:=L2.St
inductive Ow where
 | s (i:Nat)|t (i:Nat)|f
 deriving DecidableEq
abbrev Wn:=Addr->Option Ow
def KL (K:PySem.W.Frag)(a:Addr)(xs:List V):Prop:=
 ∃ (o:Obj) (its:Array Value) (n:Nat),K.lookup a=some o/\o.cls=.type "list" /\ o.dict=none/\o.data=.seq its n/\its.size<=sizeLine/\x1w xs its.toList
theorem SqL.cases(h:SqL K H a xs):Rd H a (.lst xs)\/KL K a xs:=h
theorem KL.sq(h:KL K a xs):SqL K H a xs:=.inr h
def kvL (ks:List Str)(vs:List V):List (Key×V):=(ks.map fun x=>(Sum.inr x:Key)).zip vs
def Clo (fo:Obj)(c:Addr)(oc:Obj):Prop:=fo.cls=.type "function" /\ (∃ fd,fo.data=.func fd/\fd.code=.ref c)/\∃ fs q t,oc.data=.fields fs/\fs[1]? = some (.str q t)
structure InsC (K:PySem.W.Frag) (C:Addr):Prop where
 cl:L2.Cls K C
 ha:PySem.W.findIn K (.ref C) "__class__" = some (some (.builtin "object.__class__"))
 hn:PySem.W.specialIn K (.builtin "object.__class__") "__get__" = some (some (.builtin "getset_descriptor.__get__"))
 htk:PySem.W.takesIn K (.builtin "object.__class__")=some true
 hm:PySem.W.mroIn K C (.type "object")=some true
 no:∀ t∈(["bool","int","tuple","list","str"]:List String),PySem.W.kitOne K (.ref C) (.type t)=some false
def MK.Is (K:PySem.W.Frag):MK->List V->HO->Prop
 | .t ks,vs,x=>x=.dT (ks.zip vs)
 | .k ks,vs,x=>x=.dK (ks.zip vs)
 | .i C fs,vs,x=>∃ dx,x=.ins C dx (fs.zip vs)/\InsC K C
mutual
/-- q: how deep the lists are owned -/
inductive Rep (K:PySem.W.Frag) (H:Hp) (w:Wn) (o:Ow):Nat->D->V->List Addr->Prop
 | non {q}:Rep K H w o q .non .non []
 | bl {q} (b:Bool):Rep K H w o q (.bl b) (.bl b) []
 | int {q} (i:Int):Rep K H w o q (.int i) (.int i) []
 | str {q} (x:Str):Rep K H w o q (.str x) (.str x) []
 | tup {q} {a:Addr} {vs:List V} {ds:List D}:H a=some (.tup vs)->Reps K H w o 0 ds vs []->Rep K H w o q (.tup ds) (.ref a) []
 | dic {q} {a:Addr} {ks:List Str} {vs:List V} {ds:List D}:H a=some (.dK (kvL ks vs))->w a=none->Reps K H w o 0 ds vs []->Rep K H w o q (.dic ks ds) (.ref a) []
 | exc {q} {a:Addr} {nm:Str} {ob:Obj} {u:HO}:H a=some (.frz ob u)->XO K nm ob->(∀ xs,u ≠ .lst xs)->Rep K H w o q (.exc nm) (.ref a) []
 | ob {q} {f c:Addr} {fo oc:Obj} {u u':HO} {vs:List V} {ds:List D}:H f=some (.frz fo u)->H c=some (.frz oc u')->Clo fo c oc->Reps K H w o 0 ds vs []->Rep K H w o q (.ob f fo vs ds) (.ref f) []
 | kl {a:Addr} {vs:List V} {ds:List D}:KL K a vs->Reps K H w o 0 ds vs []->Rep K H w o 0 (.lst ds) (.ref a) []
 | shr {a:Addr} {vs:List V} {ds:List D}:Rd H a (.lst vs)->w a=none->Reps K H w o 0 ds vs []->Rep K H w o 0 (.lst ds) (.ref a) []
 | own {q} {a:Addr} {vs:List V} {ds:List D} {F:List Addr}:H a=some (.lst vs)->w a=some o->Reps K H w o q ds vs F->a ∉ F->Rep K H w o (q+1) (.lst ds) (.ref a) (a::F)
 | mps {a:Addr} {vs:List V} {ds:List D} {k:MK} {x:HO}:H a=some x->k.Is K vs x->w a=none->k.len=ds.length->Reps K H w o 0 ds vs []->Rep K H w o 0 (.mp k ds) (.ref a) []
 | mpo {q} {a:Addr} {vs:List V} {ds:List D} {k:MK} {x:HO}:H a=some x->k.Is K vs x->w a=some o->k.len=ds.length->Reps K H w o 0 ds vs []->Rep K H w o (q+1) (.mp k ds) (.ref a) [a]
inductive Reps (K:PySem.W.Frag) (H:Hp) (w:Wn) (o:Ow):Nat->List D->List V->List Addr->Prop
 | nil {q}:Reps K H w o q [] [] []
 | cons {q} {d:D} {v:V} {ds:List D} {vs:List V} {F G:List Addr}:Rep K H w o q d v F->Reps K H w o q ds vs G->(∀ a∈F,a ∉ G)->Reps K H w o q (d::ds) (v::vs) (F++G)
end
def j1u:HO->Bool
 | .lst _=>true
 | .dK _=>true
 | .dT _=>true
 | .ins _ _ _=>true
 | _=>false
inductive OX where
 | l (vs:List V)|t (kvs:List (List Key×V))|k (kvs:List (Key×V))|i (C dx:Addr) (fs:List (Str×V))
def OX.ho:OX->HO
 | .l vs=>.lst vs
 | .t kvs=>.dT kvs
 | .k kvs=>.dK kvs
 | .i C dx fs=>.ins C dx fs
theorem OX.is(v:OX):j1u v.ho=true:=by cases v<;>rfl
theorem MK.ox{k:MK}(h:k.Is K vs x):∃ v:OX,x=v.ho:=by
 cases k with
 | t ks=>exact⟨.t _,h⟩
 | k ks=>exact⟨.k _,h⟩
 | i C fs=>obtain⟨dx,h,_⟩:=h;exact⟨.i _ _ _,h⟩
def z2s:HO->Bool
 | .tbl _=>true
 | _=>false
def Sm (x:HO)(y:Option HO):Prop:=match x with
 | .tbl _=>∃ ps,y=some (.tbl ps)
 | x=>y=some x
theorem sm(h:y=some x):Sm x y:=by cases x<;>first|exact h|exact⟨_,h⟩
theorem Sm.is(h:Sm x y):∃ z,y=some z/\z2s z=z2s x:=by
 cases x<;>first|exact⟨_,h,rfl⟩|(obtain⟨ps,e⟩:=h;exact⟨_,e,rfl⟩)
theorem Sm.eq(h:Sm x y)(n:z2s x=false):y=some x:=by cases x<;>first|exact h|cases n
def x9q:List Str:=["turned","chain_ladder","flat_ladder","paired","height_of","_law_high"]
structure TB (K:PySem.W.Frag) (H:Hp):Prop where
 tr:∀ P ps,H P=some (.tbl ps)->PySem.TriplesOk ps.toList
 cd:∀ P ps,H P=some (.tbl ps)->∀ pos cv,PySem.codeAmong pos ps.toList=some cv->∃ c oc u vs q t,cv=.ref c/\H c=some (.frz oc u)/\oc.data=.fields vs/\vs[1]? = some (.str q t)/\∀ xs,u ≠ .lst xs
 is:∀ x∈x9q,∀ c P,PySem.W.tabIn K x=some (c,P)->∃ ps,H P=some (.tbl ps)
structure WL (K:PySem.W.Frag) (w:Wn) (H:Hp):Prop where
 own:∀ a o,w a=some o->∃ vs:OX,H a=some vs.ho
 tb:TB K H
instance {K:PySem.W.Frag} {w:Wn} {H:Hp}:CoeFun (WL K w H) (fun _=>∀ a o,w a=some o->∃ vs:OX,H a=some vs.ho):=⟨WL.own⟩
theorem TB.upd(t:TB K H)(hx:z2s x=false)(hp:H p=none\/∃ vs:OX,H p=some vs.ho):TB K (L2.upd H p x):=by
 have ne:∀ a y,H a=some y->j1u y=false->a≠p:=fun a y e h z=>by
  subst z
  rcases hp with q|⟨vs,q⟩
  ·rw[e]at q;cases q
  ·rw[e]at q
   rw[QC q,vs.is]at h
   cases h
 refine⟨fun P ps e=>?_,fun P ps e pos cv hc=>?_,fun x hx c P hP=>by
  obtain⟨ps,e⟩:=t.is x hx c P hP
  exact⟨ps,by rw[x0e (ne P _ e rfl)];exact e⟩⟩
 ·by_cases hP:P=p
  ·subst hP;rw[x0y]at e;cases e;cases hx
  ·rw[x0e hP]at e;exact t.tr P ps e
 ·by_cases hP:P=p
  ·subst hP;rw[x0y]at e;cases e;cases hx
  ·rw[x0e hP]at e
   obtain⟨c,oc,u,vs,q,tt,h1,h2,h3,h4,h5⟩:=t.cd P ps e pos cv hc
   exact⟨c,oc,u,vs,q,tt,h1,by rw[x0e (ne c _ h2 rfl)];exact h2,h3,h4,h5⟩
def x63 (H:Hp)(w:Wn)(H':Hp)(w':Wn):Prop:=∀ a x,H a=some x->w a=none->Sm x (H' a)/\w' a=none
theorem x63.trans{w w1 w2:Wn}(a:x63 H w H1 w1)(b:x63 H1 w1 H2 w2):x63 H w H2 w2:=fun c x h n=>by
 obtain⟨s1,n1⟩:=a c x h n
 cases ht:z2s x with
 | false=>exact b c x (s1.eq ht) n1
 | true=>
  obtain⟨y,e,hy⟩:=s1.is
  obtain⟨s2,n2⟩:=b c y e n1
  refine⟨?_,n2⟩
  rw[ht]at hy
  cases x with
  | tbl ps=>
   cases y with
   | tbl ps'=>exact s2
   | _=>cases hy
  | _=>cases ht
theorem WL.rdT{w:Wn}(wl:WL K w H)(e:H a=some x)(h:j1u x=false):w a=none:=by
 cases q:w a with
 | none=>rfl
 | some o=>
  obtain⟨vs,e'⟩:=wl a o q
  rw[e]at e'
  rw[QC e',vs.is]at h
  cases h
theorem SqT.go{w w':Wn}(wl:WL K w H)(st:x63 H w H' w')(h:SqT K H a vs):SqT K H' a vs:=by
 rcases h with(h|⟨o,h⟩)|h
 ·exact .inl (.inl (st a _ h (wl.rdT h rfl)).1)
 ·exact .inl (.inr ⟨o,(st a _ h (wl.rdT h rfl)).1⟩)
 ·exact .inr h
theorem RdL.go{w w':Wn}(st:x63 H w H' w')(n:w a=none)(h:Rd H a (.lst vs)):Rd H' a (.lst vs)/\w' a=none:=by
 rcases h with h|⟨o,h⟩
 ·exact⟨.inl (st a _ h n).1,(st a _ h n).2⟩
 ·exact⟨.inr ⟨o,(st a _ h n).1⟩,(st a _ h n).2⟩
theorem Rep.go{w w':Wn}{o o':Ow}(wl:WL K w H)(st:x63 H w H' w'):∀ {q:Nat} {d:D} {v:V} {F:List Addr},Rep K H w o q d v F->(∀ a∈F,H' a=H a/\w' a=some o')->Rep K H' w' o' q d v F:=by
 intro q d v F r
 refine Rep.rec (motive_1:=fun q d v F _=>(∀ a∈F,H' a=H a/\w' a=some o')->Rep K H' w' o' q d v F) (motive_2:=fun q ds vs F _=>(∀ a∈F,H' a=H a/\w' a=some o')->Reps K H' w' o' q ds vs F) ?_ ?_ ?_ ?_ ?_ ?_ ?_ ?_ ?_ ?_ ?_ ?_ ?_ ?_ ?_ r
 ·intro q _;exact .non
 ·intro q b _;exact .bl b
 ·intro q i _;exact .int i
 ·intro q x _;exact .str x
 ·intro q a vs ds h r ih _;exact .tup (st _ _ h (wl.rdT h rfl)).1 (ih (fun _ z=>(Qg z).elim))
 ·intro q a ks vs ds h n r ih _;exact .dic (st _ _ h n).1 (st _ _ h n).2 (ih (fun _ z=>(Qg z).elim))
 ·intro q a nm ob u h x n _;exact .exc (st _ _ h (wl.rdT h rfl)).1 x n
 ·intro q f c fo oc u u' vs ds h1 h2 x r ih _;exact .ob (st _ _ h1 (wl.rdT h1 rfl)).1 (st _ _ h2 (wl.rdT h2 rfl)).1 x (ih (fun _ z=>(Qg z).elim))
 ·intro a vs ds h r ih _;exact .kl h (ih (fun _ z=>(Qg z).elim))
 ·intro a vs ds h n r ih _;exact .shr (RdL.go st n h).1 (RdL.go st n h).2 (ih (fun _ z=>(Qg z).elim))
 ·intro q a vs ds F h e r ne ih k;exact .own ((k _ Qf).1.trans h) (k _ Qf).2 (ih fun a m=>k a (Qe _ m)) ne
 ·intro a vs ds k x h i n l r ih _
  have nt:z2s x=false:=by
   obtain⟨v,rfl⟩:=MK.ox i
   cases v<;>rfl
  exact .mps ((st _ _ h n).1.eq nt) i (st _ _ h n).2 l (ih (fun _ z=>(Qg z).elim))
 ·intro q a vs ds k x h i e l r ih kk;exact .mpo ((kk _ Qf).1.trans h) i (kk _ Qf).2 l (ih (fun _ z=>(Qg z).elim))
 ·intro q _;exact .nil
 ·intro q d v ds vs F G r s ne ih1 ih2 k;exact .cons (ih1 fun a m=>k a (Q9 _ m)) (ih2 fun a m=>k a (Qr _ m)) ne
theorem Reps.go{w w':Wn}{o o':Ow}(wl:WL K w H)(st:x63 H w H' w'):∀ {q:Nat} {ds:List D} {vs:List V} {F:List Addr},Reps K H w o q ds vs F->(∀ a∈F,H' a=H a/\w' a=some o')->Reps K H' w' o' q ds vs F:=by
 intro q ds vs F r
 refine Reps.rec (motive_1:=fun q d v F _=>(∀ a∈F,H' a=H a/\w' a=some o')->Rep K H' w' o' q d v F) (motive_2:=fun q ds vs F _=>(∀ a∈F,H' a=H a/\w' a=some o')->Reps K H' w' o' q ds vs F) ?_ ?_ ?_ ?_ ?_ ?_ ?_ ?_ ?_ ?_ ?_ ?_ ?_ ?_ ?_ r
 ·intro q _;exact .non
 ·intro q b _;exact .bl b
 ·intro q i _;exact .int i
 ·intro q x _;exact .str x
 ·intro q a vs ds h r ih _;exact .tup (st _ _ h (wl.rdT h rfl)).1 (ih (fun _ z=>(Qg z).elim))
 ·intro q a ks vs ds h n r ih _;exact .dic (st _ _ h n).1 (st _ _ h n).2 (ih (fun _ z=>(Qg z).elim))
 ·intro q a nm ob u h x n _;exact .exc (st _ _ h (wl.rdT h rfl)).1 x n
 ·intro q f c fo oc u u' vs ds h1 h2 x r ih _;exact .ob (st _ _ h1 (wl.rdT h1 rfl)).1 (st _ _ h2 (wl.rdT h2 rfl)).1 x (ih (fun _ z=>(Qg z).elim))
 ·intro a vs ds h r ih _;exact .kl h (ih (fun _ z=>(Qg z).elim))
 ·intro a vs ds h n r ih _;exact .shr (RdL.go st n h).1 (RdL.go st n h).2 (ih (fun _ z=>(Qg z).elim))
 ·intro q a vs ds F h e r ne ih k;exact .own ((k _ Qf).1.trans h) (k _ Qf).2 (ih fun a m=>k a (Qe _ m)) ne
 ·intro a vs ds k x h i n l r ih _
  have nt:z2s x=false:=by
   obtain⟨v,rfl⟩:=MK.ox i
   cases v<;>rfl
  exact .mps ((st _ _ h n).1.eq nt) i (st _ _ h n).2 l (ih (fun _ z=>(Qg z).elim))
 ·intro q a vs ds k x h i e l r ih kk;exact .mpo ((kk _ Qf).1.trans h) i (kk _ Qf).2 l (ih (fun _ z=>(Qg z).elim))
 ·intro q _;exact .nil
 ·intro q d v ds vs F G r s ne ih1 ih2 k;exact .cons (ih1 fun a m=>k a (Q9 _ m)) (ih2 fun a m=>k a (Qr _ m)) ne
theorem Rep.freeze{w w':Wn}{o o':Ow}(n:∀ a,w a=none->w' a=none):∀ {q:Nat} {d:D} {v:V} {F:List Addr},Rep K H w o q d v F->(∀ a∈F,w' a=none)->Rep K H w' o' 0 d v []:=by
 intro q d v F r
 refine Rep.rec (motive_1:=fun q d v F _=>(∀ a∈F,w' a=none)->Rep K H w' o' 0 d v []) (motive_2:=fun q ds vs F _=>(∀ a∈F,w' a=none)->Reps K H w' o' 0 ds vs []) ?_ ?_ ?_ ?_ ?_ ?_ ?_ ?_ ?_ ?_ ?_ ?_ ?_ ?_ ?_ r
 ·intro q _;exact .non
 ·intro q b _;exact .bl b
 ·intro q i _;exact .int i
 ·intro q x _;exact .str x
 ·intro q a vs ds h r ih _;exact .tup h (ih (fun _ z=>(Qg z).elim))
 ·intro q a ks vs ds h e r ih _;exact .dic h (n _ e) (ih (fun _ z=>(Qg z).elim))
 ·intro q a nm ob u h x n _;exact .exc h x n
 ·intro q f c fo oc u u' vs ds h1 h2 x r ih _;exact .ob h1 h2 x (ih (fun _ z=>(Qg z).elim))
 ·intro a vs ds h r ih _;exact .kl h (ih (fun _ z=>(Qg z).elim))
 ·intro a vs ds h e r ih _;exact .shr h (n _ e) (ih (fun _ z=>(Qg z).elim))
 ·intro q a vs ds F h e r ne ih k;exact .shr (Rd.of h) (k _ Qf) (ih fun a m=>k a (Qe _ m))
 ·intro a vs ds k x h i e l r ih _;exact .mps h i (n _ e) l (ih (fun _ z=>(Qg z).elim))
 ·intro q a vs ds k x h i e l r ih kk;exact .mps h i (kk _ Qf) l (ih (fun _ z=>(Qg z).elim))
 ·intro q _;exact .nil
 ·intro q d v ds vs F G r s ne ih1 ih2 k;exact .cons (F:=[]) (G:=[]) (ih1 fun a m=>k a (Q9 _ m)) (ih2 fun a m=>k a (Qr _ m)) (fun _ z=>(Qg z).elim)
theorem Reps.freeze{w w':Wn}{o o':Ow}(n:∀ a,w a=none->w' a=none):∀ {q:Nat} {ds:List D} {vs:List V} {F:List Addr},Reps K H w o q ds vs F->(∀ a∈F,w' a=none)->Reps K H w' o' 0 ds vs []:=by
 intro q ds vs F r
 refine Reps.rec (motive_1:=fun q d v F _=>(∀ a∈F,w' a=none)->Rep K H w' o' 0 d v []) (motive_2:=fun q ds vs F _=>(∀ a∈F,w' a=none)->Reps K H w' o' 0 ds vs []) ?_ ?_ ?_ ?_ ?_ ?_ ?_ ?_ ?_ ?_ ?_ ?_ ?_ ?_ ?_ r
 ·intro q _;exact .non
 ·intro q b _;exact .bl b
 ·intro q i _;exact .int i
 ·intro q x _;exact .str x
 ·intro q a vs ds h r ih _;exact .tup h (ih (fun _ z=>(Qg z).elim))
 ·intro q a ks vs ds h e r ih _;exact .dic h (n _ e) (ih (fun _ z=>(Qg z).elim))
 ·intro q a nm ob u h x n _;exact .exc h x n
 ·intro q f c fo oc u u' vs ds h1 h2 x r ih _;exact .ob h1 h2 x (ih (fun _ z=>(Qg z).elim))
 ·intro a vs ds h r ih _;exact .kl h (ih (fun _ z=>(Qg z).elim))
 ·intro a vs ds h e r ih _;exact .shr h (n _ e) (ih (fun _ z=>(Qg z).elim))
 ·intro q a vs ds F h e r ne ih k;exact .shr (Rd.of h) (k _ Qf) (ih fun a m=>k a (Qe _ m))
 ·intro a vs ds k x h i e l r ih _;exact .mps h i (n _ e) l (ih (fun _ z=>(Qg z).elim))
 ·intro q a vs ds k x h i e l r ih kk;exact .mps h i (kk _ Qf) l (ih (fun _ z=>(Qg z).elim))
 ·intro q _;exact .nil
 ·intro q d v ds vs F G r s ne ih1 ih2 k;exact .cons (F:=[]) (G:=[]) (ih1 fun a m=>k a (Q9 _ m)) (ih2 fun a m=>k a (Qr _ m)) (fun _ z=>(Qg z).elim)
theorem Rep.owns{w:Wn}{o:Ow}:∀ {q:Nat} {d:D} {v:V} {F:List Addr},Rep K H w o q d v F->∀ a∈F,w a=some o:=by
 intro q d v F r
 refine Rep.rec (motive_1:=fun q d v F _=>∀ a∈F,w a=some o) (motive_2:=fun q ds vs F _=>∀ a∈F,w a=some o) ?_ ?_ ?_ ?_ ?_ ?_ ?_ ?_ ?_ ?_ ?_ ?_ ?_ ?_ ?_ r
 ·intro q a m;exact(Qg m).elim
 ·intro q b a m;exact(Qg m).elim
 ·intro q i a m;exact(Qg m).elim
 ·intro q x a m;exact(Qg m).elim
 ·intro q a vs ds h r ih b m;exact(Qg m).elim
 ·intro q a ks vs ds h e r ih b m;exact(Qg m).elim
 ·intro q a nm ob u h x n b m;exact(Qg m).elim
 ·intro q f c fo oc u u' vs ds h1 h2 x r ih b m;exact(Qg m).elim
 ·intro a vs ds h r ih b m;exact(Qg m).elim
 ·intro a vs ds h e r ih b m;exact(Qg m).elim
 ·intro q a vs ds F h e r ne ih b m
  rcases Qq.mp m with z|z
  ·rw[z];exact e
  ·exact ih b z
 ·intro a vs ds k x h i e l r ih b m;exact(Qg m).elim
 ·intro q a vs ds k x h i e l r ih b m
  rw[Q6.mp m];exact e
 ·intro q a m;exact(Qg m).elim
 ·intro q d v ds vs F G r s ne ih1 ih2 a m
  rcases Q2.mp m with z|z
  ·exact ih1 a z
  ·exact ih2 a z
theorem Reps.owns{w:Wn}{o:Ow}:∀ {q:Nat} {ds:List D} {vs:List V} {F:List Addr},Reps K H w o q ds vs F->∀ a∈F,w a=some o:=by
 intro q ds vs F r
 refine Reps.rec (motive_1:=fun q d v F _=>∀ a∈F,w a=some o) (motive_2:=fun q ds vs F _=>∀ a∈F,w a=some o) ?_ ?_ ?_ ?_ ?_ ?_ ?_ ?_ ?_ ?_ ?_ ?_ ?_ ?_ ?_ r
 ·intro q a m;exact(Qg m).elim
 ·intro q b a m;exact(Qg m).elim
 ·intro q i a m;exact(Qg m).elim
 ·intro q x a m;exact(Qg m).elim
 ·intro q a vs ds h r ih b m;exact(Qg m).elim
 ·intro q a ks vs ds h e r ih b m;exact(Qg m).elim
 ·intro q a nm ob u h x n b m;exact(Qg m).elim
 ·intro q f c fo oc u u' vs ds h1 h2 x r ih b m;exact(Qg m).elim
 ·intro a vs ds h r ih b m;exact(Qg m).elim
 ·intro a vs ds h e r ih b m;exact(Qg m).elim
 ·intro q a vs ds F h e r ne ih b m
  rcases Qq.mp m with z|z
  ·rw[z];exact e
  ·exact ih b z
 ·intro a vs ds k x h i e l r ih b m;exact(Qg m).elim
 ·intro q a vs ds k x h i e l r ih b m
  rw[Q6.mp m];exact e
 ·intro q a m;exact(Qg m).elim
 ·intro q d v ds vs F G r s ne ih1 ih2 a m
  rcases Q2.mp m with z|z
  ·exact ih1 a z
  ·exact ih2 a z
def D.isL:D->Bool
 | .lst _=>true
 | .mp _ _=>true
 | _=>false
@[simp] theorem D.isL_non:D.isL .non=false:=rfl
@[simp] theorem D.isL_bl(b:Bool):D.isL (.bl b)=false:=rfl
@[simp] theorem D.isL_int(i:Int):D.isL (.int i)=false:=rfl
@[simp] theorem D.isL_str(x:Str):D.isL (.str x)=false:=rfl
@[simp] theorem D.isL_tup(ds:List D):D.isL (.tup ds)=false:=rfl
@[simp] theorem D.isL_dic(ks:List Str)(ds:List D):D.isL (.dic ks ds)=false:=rfl
@[simp] theorem D.isL_exc(nm:Str):D.isL (.exc nm)=false:=rfl
@[simp] theorem D.isL_ob(f:Addr)(fo:Obj)(vs:List V)(ds:List D):D.isL (.ob f fo vs ds)=false:=rfl
@[simp] theorem D.isL_mp(k:MK)(ds:List D):D.isL (.mp k ds)=true:=rfl
@[simp] theorem D.isL_lst(ds:List D):D.isL (.lst ds)=true:=rfl
theorem Rep.nolist{w:Wn}{o:Ow}{q:Nat}{d:D}(r:Rep K H w o q d v F)(h:d.isL=false):F=[]/\∀ q',Rep K H w o q' d v []:=by
 cases r with
 | non=>exact⟨rfl,fun _=>.non⟩
 | bl b=>exact⟨rfl,fun _=>.bl b⟩
 | int i=>exact⟨rfl,fun _=>.int i⟩
 | str x=>exact⟨rfl,fun _=>.str x⟩
 | tup h' r'=>exact⟨rfl,fun _=>.tup h' r'⟩
 | dic h' e' r'=>exact⟨rfl,fun _=>.dic h' e' r'⟩
 | exc h' x n=>exact⟨rfl,fun _=>.exc h' x n⟩
 | ob h1 h2 x r=>exact⟨rfl,fun _=>.ob h1 h2 x r⟩
 | kl=>cases h
 | shr=>cases h
 | own=>cases h
 | mps=>cases h
 | mpo=>cases h
theorem Rep.zero{w:Wn}{o:Ow}{d:D}(r:Rep K H w o 0 d v F):F=[]:=by
 cases r<;>rfl
theorem Reps.zero{w:Wn}{o:Ow}:∀ {ds:List D} {vs:List V} {F:List Addr},Reps K H w o 0 ds vs F->F=[]
 | _,_,_,.nil=>rfl
 | _,_,_,.cons r s _=>by rw[r.zero,s.zero];rfl
theorem Reps.length{w:Wn}{o:Ow}{q:Nat}:∀ {ds:List D} {vs:List V} {F:List Addr},Reps K H w o q ds vs F->ds.length=vs.length
 | _,_,_,.nil=>rfl
 | _,_,_,.cons _ s _=>by simp[s.length]
theorem Rep.any{w:Wn}{o o':Ow}{q:Nat}{d:D}(r:Rep K H w o q d v [])(wl:WL K w H):Rep K H w o' q d v []:=
 Rep.go wl (fun a x h n=>⟨sm h,n⟩) r (fun _ z=>nomatch z)
theorem Reps.any{w:Wn}{o o':Ow}{q:Nat}{d:List D}{v:List V}(r:Reps K H w o q d v [])(wl:WL K w H):Reps K H w o' q d v []:=
 Reps.go wl (fun a x h n=>⟨sm h,n⟩) r (fun _ z=>nomatch z)
theorem Reps.get{w:Wn}{o:Ow}:∀ {ds:List D} {vs:List V} {i:Nat} {d:D},Reps K H w o 0 ds vs []->ds[i]? = some d->∃ v,vs[i]? = some v/\Rep K H w o 0 d v []
 | ds,vs,i,d,r,e=>by
  generalize hF:([]:List Addr)=F at r
  cases r with
  | nil=>simp at e
  | @cons _ d' v' ds' vs' F' G' r s _=>
   have h1:F'=[]:=r.zero
   have h2:G'=[]:=s.zero
   subst h1 h2
   cases i with
   | zero=>simp at e;subst e;exact⟨v',rfl,r⟩
   | succ j=>
    obtain⟨v,h1,h2⟩:=Reps.get (i:=j) (d:=d) s (by simpa using e)
    exact⟨v,by simpa using h1,h2⟩
theorem Reps.snoc{w:Wn}{o:Ow}{q:Nat}{d:D}{G:List Addr}(r':Rep K H w o q d v G):∀ {ds:List D} {vs:List V} {F:List Addr},Reps K H w o q ds vs F->(∀ a∈F,a ∉ G)->Reps K H w o q (ds++[d]) (vs++[v]) (F++G)
 | _,_,_,.nil,_=>by
  have:Reps K H w o q [d] [v] (G++[]):=.cons r' .nil (fun a _ z=>nomatch z)
  simpa using this
 | _,_,_,.cons (F:=F) (G:=F') r s ne,k=>by
  rw[Jz]
  refine .cons r (Reps.snoc r' s fun a m=>k a (Qr _ m)) fun a m z=>?_
  rcases Q2.mp z with z|z
  ·exact ne a m z
  ·exact k a (Q9 _ m) z
abbrev OD:=Option (D×Nat)
abbrev Rho:=List (OD)
structure Good (K:PySem.W.Frag) (ρ:Rho) (σ:St) (H:Hp) (w:Wn) (t:Nat):Prop where
 wl:WL K w H
 ws:∀ a i,w a=some (.s i)->i<σ.length
 wt:∀ a i,w a=some (.t i)->i<t
 len:ρ.length=σ.length
 slot:∀ (i:Nat) d q,ρ[i]? = some (some (d,q))->∃ v F,σ[i]? = some (some v)/\Rep K H w (.s i) q d v F
structure Go (H:Hp) (w:Wn) (H':Hp) (w':Wn):Prop where
 stab:x63 H w H' w'
 keep:∀ a o,w a=some o->(∀ i,o ≠ .s i)->H' a=H a/\w' a=some o
theorem Go.refl{w:Wn}:Go H w H w:=⟨fun a x h n=>⟨sm h,n⟩,fun a o e _=>⟨rfl,e⟩⟩
theorem Go.trans{w w1 w2:Wn}(a:Go H w H1 w1)(b:Go H1 w1 H2 w2):Go H w H2 w2:=
 ⟨a.stab.trans b.stab,fun c o e h=>by
   obtain⟨h1,w1⟩:=a.keep c o e h
   obtain⟨h2,w2⟩:=b.keep c o w1 h
   exact⟨h2.trans h1,w2⟩⟩
theorem Rep.gone{w w':Wn}{q:Nat}{d:D}(r:Rep K H w (.t i) q d v F)(wl:WL K w H)(g:Go H w H' w'):Rep K H' w' (.t i) q d v F:=
 Rep.go wl g.stab r fun a m=>g.keep a _ (r.owns a m) (fun _ z=>nomatch z)
theorem Reps.gone{w w':Wn}{q:Nat}{d:List D}{v:List V}(r:Reps K H w (.t i) q d v F)(wl:WL K w H)(g:Go H w H' w'):Reps K H' w' (.t i) q d v F:=
 Reps.go wl g.stab r fun a m=>g.keep a _ (r.owns a m) (fun _ z=>nomatch z)
def x1l (t:Nat)(w:Wn):Wn:=fun a=>match w a with
 | some (.t i)=>if t<=i then none else some (.t i)
 | x=>x
theorem x5q{t:Nat}{w:Wn}(h:w a=none):x1l t w a=none:=by unfold x1l;rw[h]
theorem z64{t:Nat}{w:Wn}(h:w a=some (.s i)):x1l t w a=some (.s i):=by unfold x1l;rw[h]
theorem z5j{t:Nat}{w:Wn}(h:w a=some .f):x1l t w a=some .f:=by unfold x1l;rw[h]
theorem z3d{t:Nat}{w:Wn}(h:w a=some (.t i))(hi:i<t):x1l t w a=some (.t i):=by unfold x1l;rw[h];exact Qk (by omega)
theorem z3q{t:Nat}{w:Wn}(h:w a=some (.t i))(hi:t<=i):x1l t w a=none:=by unfold x1l;rw[h];exact Qj hi
theorem x82{t:Nat}{w:Wn}{o:Ow}(h:x1l t w a=some o):w a=some o/\∀ i,o=.t i->i<t:=by
 unfold x1l at h
 cases e:w a with
 | none=>rw[e]at h;cases h
 | some o'=>
  rw[e]at h
  cases o' with
  | s i=>cases h;exact⟨rfl,fun i z=>nomatch z⟩
  | f=>cases h;exact⟨rfl,fun i z=>nomatch z⟩
  | t i=>
   dsimp only at h
   split at h
   ·cases h
   ·cases h;exact⟨rfl,fun j z=>by cases z;omega⟩
theorem Good.drop{ρ:Rho}{σ:St}{w:Wn}{t:Nat}(g:Good K ρ σ H w t):Good K ρ σ H (x1l t' w) t':=by
 refine⟨⟨fun a o e=>g.wl a o (x82 e).1,g.wl.tb⟩,fun a i e=>g.ws a i (x82 e).1,fun a i e=>(x82 e).2 i rfl,g.len,fun i d q e=>?_⟩
 obtain⟨v,F,h1,h2⟩:=g.slot i d q e
 exact⟨v,F,h1,Rep.go g.wl (fun a x h n=>⟨sm h,x5q n⟩) h2 fun a m=>⟨rfl,z64 (h2.owns a m)⟩⟩
theorem Go.drop{w w':Wn}{t:Nat}(g:Go H w H' w')(wt:∀ a i,w a=some (.t i)->i<t):Go H w H' (x1l t w'):=
 ⟨fun a x h n=>⟨(g.stab a x h n).1,x5q (g.stab a x h n).2⟩,fun a o e h=>by
   obtain⟨h1,h2⟩:=g.keep a o e h
   refine⟨h1,?_⟩
   cases o with
   | s i=>exact absurd rfl (h i)
   | f=>exact z5j h2
   | t i=>exact z3d h2 (wt a i e)⟩
theorem Rep.drop{w:Wn}{q:Nat}{d:D}{t:Nat}{o:Ow}(r:Rep K H w (.t t) q d v F)(h:t'<=t):Rep K H (x1l t' w) o 0 d v []:=
 Rep.freeze (fun a n=>x5q n) r fun a m=>z3q (r.owns a m) h
abbrev Den:=Rho->Option (D×Nat×Rho)
def tD (K:PySem.W.Frag)(f:Den):TE:=fun σ H Q=>∃ ρ w t r q ρ',Good K ρ σ H w t/\f ρ=some (r,q,ρ')/\∀ v H' w' F,Good K ρ' σ H' w' (t+1)->Go H w H' w'->Rep K H' w' (.t t) q r v F->Q v H'
theorem PE.imp{t t':TE}(h:PE X e t)(i:∀ σ H Q,t' σ H Q->t σ H Q):PE X e t':=fun pins s σ H Q I q=>h pins s σ H Q I (i σ H Q q)
abbrev PD (X:Cx)(e:Expr)(f:Den):Prop:=PE X e (tD X.K f)
structure QD (X:Cx) (e:Expr) (f:Den):Prop where mk::o:PD X e f
theorem Good.up{ρ:Rho}{σ:St}{w:Wn}{t:Nat}(g:Good K ρ σ H w t):Good K ρ σ H w (t+1):=⟨g.wl,g.ws,fun a i e=>Zr (g.wt a i e),g.len,g.slot⟩
@[simp] def y0a (d:D):Nat:=if d.isL then 0 else 9
theorem Rep.dep{w:Wn}{o:Ow}{d:D}(r:Rep K H w o 0 d v []):Rep K H w o (y0a d) d v []:=by
 unfold y0a
 cases e:d.isL with
 | true=>exact r
 | false=>exact(r.nolist e).2 9
section
variable {K:PySem.W.Frag}{σ:St}{H:Hp}{ρ ρ' ρ1 ρ2:Rho}{w:Wn}{t:Nat}{Q:VK}
theorem z5y{fa fb:Den}{R:V->V->Hp->Prop}(g:Good K ρ σ H w t){d1 d2:D}{q1 q2:Nat}(e1:fa ρ=some (d1,q1,ρ1))(e2:fb ρ1=some (d2,q2,ρ2))
  (k:∀ x y H2 w2 F1 F2,Good K ρ2 σ H2 w2 (t+2)->Go H w H2 w2->Rep K H2 w2 (.t t) q1 d1 x F1->Rep K H2 w2 (.t (t+1)) q2 d2 y F2->R x y H2) :
  tD K fa σ H fun x H1=>tD K fb σ H1 fun y H2=>R x y H2:=
 ⟨ρ,w,t,d1,q1,ρ1,g,e1,fun x H1 w1 F1 g1 go1 r1=>⟨ρ1,w1,t+1,d2,q2,ρ2,g1,e2,fun y H2 w2 F2 g2 go2 r2=>k x y H2 w2 F1 F2 g2 (go1.trans go2) (r1.gone g1.wl go2) r2⟩⟩
theorem z19{r:D}{q:Nat}{w2:Wn}{t2:Nat}(k:∀ v H' w' F,Good K ρ' σ H' w' (t+1)->Go H w H' w'->Rep K H' w' (.t t) q r v F->Q v H')(g:Good K ρ σ H w t)(g2:Good K ρ' σ H2 w2 t2)(go:Go H w H2 w2)
  (rr:Rep K H2 (x1l t w2) (.t t) q r v []):Q v H2:=k v H2 (x1l t w2) [] g2.drop.up (go.drop g.wt) rr
def y5e (p:Addr)(o:Ow)(w:Wn):Wn:=fun a=>if a=p then some o else w a
theorem x2v{o:Ow}{w:Wn}:y5e p o w p=some o:=Qj rfl
theorem x1s{o:Ow}{w:Wn}(h:a≠p):y5e p o w a=w a:=Qk h
theorem y0k{ds:List D}{w1:Wn}(g:Good K ρ σ H1 w1 t)(hp:H1 p=none)(r:Reps K H1 w1 .f 0 ds vs []) :
  Good K ρ σ (upd H1 p (.lst vs)) (y5e p (.t t) w1) (t+1)/\Go H1 w1 (upd H1 p (.lst vs)) (y5e p (.t t) w1)/\Rep K (upd H1 p (.lst vs)) (y5e p (.t t) w1) (.t t) 1 (.lst ds) (.ref p) [p]:=by
 have ne:∀ a x,H1 a=some x->a≠p:=fun a x e=>x0r e hp
 have nw:∀ a o,w1 a=some o->a≠p:=fun a o e=>by obtain⟨vs,q⟩:=g.wl a o e;exact ne a _ q
 have st:x63 H1 w1 (upd H1 p (.lst vs)) (y5e p (.t t) w1):=fun a x e n=>⟨sm (by rw[x0e (ne a x e)];exact e),by rw[x1s (ne a x e)];exact n⟩
 refine⟨⟨⟨fun a o e=>?_,g.wl.tb.upd rfl (.inl hp)⟩,fun a i e=>?_,fun a i e=>?_,g.len,fun i d q e=>?_⟩,⟨st,fun a o e _=>⟨x0e (nw a o e),(x1s (nw a o e)).trans e⟩⟩,?_⟩
 ·by_cases h:a=p
  ·subst h;exact⟨.l vs,x0y⟩
  ·rw[x1s h]at e
   obtain⟨us,q⟩:=g.wl a o e
   exact⟨us,by rw[x0e h];exact q⟩
 ·by_cases h:a=p
  ·subst h;rw[x2v]at e;cases e
  ·rw[x1s h]at e;exact g.ws a i e
 ·by_cases h:a=p
  ·subst h;rw[x2v]at e;cases e;exact Zv _
  ·rw[x1s h]at e;exact Zr (g.wt a i e)
 ·obtain⟨v,F,h1,h2⟩:=g.slot i d q e
  exact⟨v,F,h1,Rep.go g.wl st h2 fun a m=>⟨x0e (nw a _ (h2.owns a m)),(x1s (nw a _ (h2.owns a m))).trans (h2.owns a m)⟩⟩
 ·exact .own x0y x2v (Reps.go g.wl st r (fun _ z=>nomatch z)) (fun z=>nomatch z)
theorem y0t{ds:List D}{w1:Wn}(g:Good K ρ σ H1 w1 t)(hp:H1 p=none)(r:Reps K H1 w1 .f 0 ds vs []) :
  Good K ρ σ (upd H1 p (.tup vs)) w1 (t+1)/\Go H1 w1 (upd H1 p (.tup vs)) w1/\Rep K (upd H1 p (.tup vs)) w1 (.t t) 9 (.tup ds) (.ref p) []:=by
 have ne:∀ a x,H1 a=some x->a≠p:=fun a x e=>x0r e hp
 have nw:∀ a o,w1 a=some o->a≠p:=fun a o e=>by obtain⟨vs,q⟩:=g.wl a o e;exact ne a _ q
 have st:x63 H1 w1 (upd H1 p (.tup vs)) w1:=fun a x e n=>⟨sm (by rw[x0e (ne a x e)];exact e),n⟩
 refine⟨⟨⟨fun a o e=>?_,g.wl.tb.upd rfl (.inl hp)⟩,g.ws,fun a i e=>Zr (g.wt a i e),g.len,fun i d q e=>?_⟩,⟨st,fun a o e _=>⟨x0e (nw a o e),e⟩⟩,?_⟩
 ·obtain⟨us,q⟩:=g.wl a o e
  exact⟨us,by rw[x0e (nw a o e)];exact q⟩
 ·obtain⟨v,F,h1,h2⟩:=g.slot i d q e
  exact⟨v,F,h1,Rep.go g.wl st h2 fun a m=>⟨x0e (nw a _ (h2.owns a m)),h2.owns a m⟩⟩
 ·exact .tup x0y (Reps.go g.wl st r (fun _ z=>nomatch z))
end
@[simp] def eC (d:D):Den:=fun ρ=>some (d,9,ρ)
@[simp] def x05 (i:Nat):Den:=fun ρ=>match ρ[i]? with
 | some (some (d,q))=>if d.isL=false then some (d,9,ρ)else if q=0 then some (d,0,ρ)else some (d,0,ρ.set i (some (d,0)))
 | _=>none
section
variable {X:Cx}{a b c e:Expr}{fa fb fc f:Den}{pos:Pos}
theorem x8v{d:D}(h:PE X e (tC v))(r:∀ K H w o q,Rep K H w o q d v []):PD X e (eC d):=PE.imp h fun σ H Q hh0=>by
 obtain⟨ρ,w,t,r',q,ρ',g,ee,k⟩:=hh0
 cases ee
 exact k v H w [] g.up Go.refl (r _ _ _ _ _)
theorem x09{i j}:QD X (.Constant (.int i) j pos) (eC (.int i)):=⟨x8v z4n fun _ _ _ _ _=>.int i⟩
theorem y9s{i j}:QD X (.Constant (.bool i) j pos) (eC (.bl i)):=⟨x8v j27 fun _ _ _ _ _=>.bl i⟩
theorem z99{j}:QD X (.Constant .none j pos) (eC .non):=⟨x8v j12 fun _ _ _ _ _=>.non⟩
theorem y80{x j}:QD X (.Constant (.str x) j pos) (eC (.str x)):=⟨x8v y82 fun _ _ _ _ _=>.str x⟩
def x60 (i:Nat)(w:Wn):Wn:=fun a=>if w a=some (.s i)then none else w a
theorem x5u{w:Wn}{a:Addr}(h:w a=none):x60 i w a=none:=by unfold x60;rw[h];rfl
theorem y1e{w:Wn}{a:Addr}(h:w a=some (.s i)):x60 i w a=none:=by unfold x60;rw[Qj h]
theorem x8x{w:Wn}{a:Addr}{o:Ow}(h:w a=some o)(n:o ≠ .s i):x60 i w a=some o:=by unfold x60;rw[Qk (by rw[h];exact fun z=>n (QC z))];exact h
theorem x3n{w:Wn}{a:Addr}{o:Ow}(h:x60 i w a=some o):w a=some o/\o ≠ .s i:=by
 unfold x60 at h
 split at h
 ·cases h
 ·rename_i n;exact⟨h,fun z=>n (by rw[h,z])⟩
theorem Good.give{ρ:Rho}{σ:St}{w:Wn}{t:Nat}{d:D}{q:Nat}(g:Good K ρ σ H w t)(e:ρ[i]? = some (some (d,q))):Good K (ρ.set i (some (d,0))) σ H (x60 i w) t/\Go H w H (x60 i w):=by
 have st:x63 H w H (x60 i w):=fun a x h n=>⟨sm h,x5u n⟩
 refine⟨⟨⟨fun a o h=>g.wl a o (x3n h).1,g.wl.tb⟩,fun a j h=>g.ws a j (x3n h).1,fun a j h=>g.wt a j (x3n h).1,by rw[Ze];exact g.len,fun j d' q' e'=>?_⟩,⟨st,fun a o h n=>⟨rfl,x8x h (n i)⟩⟩⟩
 by_cases hj:i=j
 ·subst hj
  rw[QX (QB.mp e).1]at e'
  cases e'
  obtain⟨v,F,h1,h2⟩:=g.slot i d q e
  exact⟨v,[],h1,Rep.freeze (fun a n=>x5u n) h2 fun a m=>y1e (h2.owns a m)⟩
 ·rw[QY hj]at e'
  obtain⟨v,F,h1,h2⟩:=g.slot j d' q' e'
  exact⟨v,F,h1,Rep.go g.wl st h2 fun a m=>⟨rfl,x8x (h2.owns a m) (fun z=>hj (by cases z;rfl))⟩⟩
theorem x02{x:Str}(h:QE X (.Name x pos) (y3s i)):QD X (.Name x pos) (x05 i):=⟨have h:=h.o;PE.imp h fun σ H Q hh0=>by
 obtain⟨ρ,w,t,r',q,ρ',g,ee,k⟩:=hh0
 unfold x05 at ee
 split at ee
 ·rename_i d q0 e0
  obtain⟨v,F,h1,h2⟩:=g.slot i d q0 e0
  refine⟨v,h1,?_⟩
  split at ee
  ·rename_i hl
   cases ee
   obtain⟨hF,hr⟩:=h2.nolist hl
   exact k v H w [] g.up Go.refl ((hr 9).any g.wl)
  ·split at ee
   ·rename_i hq
    subst hq
    cases ee
    have:=h2.zero
    subst this
    exact k v H w [] g.up Go.refl (h2.any g.wl)
   ·cases ee
    obtain⟨g',go'⟩:=g.give e0
    refine k v H (x60 i w) [] g'.up go' ?_
    exact Rep.freeze (fun a n=>x5u n) h2 fun a m=>y1e (h2.owns a m)
 ·cases ee⟩
def y2i:D->Option V
 | .non=>some .non
 | .bl b=>some (.bl b)
 | .int i=>some (.int i)
 | .str x=>some (.str x)
 | _=>none
theorem y1y{w:Wn}{o:Ow}{q:Nat}{d:D}(h:y2i d=some v):Rep K H w o q d v []:=by
 cases d<;>cases h
 ·exact .non
 ·exact .bl _
 ·exact .int _
 ·exact .str _
@[simp] def e2 (g:D->D->Option D)(fa fb:Den):Den:=fun ρ=>match fa ρ with
 | some (x,_,ρ1)=>match fb ρ1 with
  | some (y,_,ρ2)=>match g x y with
   | some d=>some (d,9,ρ2)
   | none=>none
  | none=>none
 | none=>none
theorem z6q{g:D->D->Option D}{ρ ρ':Rho}{r:D}{q:Nat}(h:e2 g fa fb ρ=some (r,q,ρ')):∃ x q1 ρ1 y q2,fa ρ=some (x,q1,ρ1)/\fb ρ1=some (y,q2,ρ')/\g x y=some r/\q=9:=by
 unfold e2 at h
 split at h
 ·rename_i x q1 ρ1 h1
  split at h
  ·rename_i y q2 ρ2 h2
   split at h
   ·rename_i d hd
    cases h
    exact⟨x,q1,ρ1,y,q2,h1,h2,hd,rfl⟩
   ·cases h
  ·cases h
 ·cases h
theorem y3z{g:D->D->Option D}(hg:∀ x y d,g x y=some d->∃ v,y2i d=some v/\∀ H w o o' q q' u u' F F',Rep K H w o q x u F->Rep K H w o' q' y u' F'->WL K w H->∀ Q:VK,Q v H->r u u' H Q) :
  ∀ σ H Q,tD K (e2 g fa fb) σ H Q->tOp r (tD K fa) (tD K fb) σ H Q:=fun σ H Q hh0=>by
 obtain⟨ρ,w,t,r',q,ρ',gd,ee,k⟩:=hh0
 obtain⟨x,q1,ρ1,y,q2,h1,h2,h3,rfl⟩:=z6q ee
 obtain⟨v,hv,hr⟩:=hg x y r' h3
 exact z5y gd h1 h2 fun u u' H2 w2 F1 F2 g2 go r1 r2=>hr H2 w2 _ _ _ _ u u' F1 F2 r1 r2 g2.wl Q (z19 k gd g2 go (y1y hv))
@[simp] def gI (f:Int->Int->Option D):D->D->Option D
 | .int i,.int j=>f i j
 | _,_=>none
theorem y03{f:Int->Int->Option D}{x y d:D}(h:gI f x y=some d):∃ i j,x=.int i/\y=.int j/\f i j=some d:=by
 unfold gI at h
 split at h
 ·exact⟨_,_,rfl,rfl,h⟩
 ·cases h
theorem x3l{w:Wn}{o:Ow}{q:Nat}{i:Int}(r:Rep K H w o q (.int i) v F):v=.int i:=by cases r;rfl
theorem y4w{f:Int->Int->Option D}{C:Int->Int->Prop}(hf:∀ i j d,f i j=some d->C i j/\y2i d=some (h i j)) :
  ∀ σ H Q,tD K (e2 (gI f) fa fb) σ H Q->tOp (rI C h) (tD K fa) (tD K fb) σ H Q:=
 y3z fun x y d e=>by
  obtain⟨i,j,rfl,rfl,e⟩:=y03 e
  obtain⟨c,s⟩:=hf i j d e
  exact⟨_,s,fun H w o o' q q' u u' F F' r1 r2 _ Q hq=>⟨i,j,x3l r1,x3l r2,c,hq⟩⟩
theorem y6h{f:Int->Int->Option D}(hf:∀ i j d,f i j=some d->y2i d=some (h i j)) :
  ∀ σ H Q,tD K (e2 (gI f) fa fb) σ H Q->tOp (rI0 h) (tD K fa) (tD K fb) σ H Q:=
 y3z fun x y d e=>by
  obtain⟨i,j,rfl,rfl,e⟩:=y03 e
  exact⟨_,hf i j d e,fun H w o o' q q' u u' F F' r1 r2 _ Q hq=>⟨i,j,x3l r1,x3l r2,hq⟩⟩
@[simp] def x39:D->D->Option D:=gI fun i j=>some (.int (i+j))
@[simp] def y6e:D->D->Option D:=gI fun i j=>if(-(2 ^ 64)<i/\i<2 ^ 64)\/(-(2 ^ 64)<j/\j<2 ^ 64)then some (.int (i*j))else none
@[simp] def j16:D->D->Option D:=gI fun i j=>if 0<j/\j<1073741824 then some (.int (i / j))else none
@[simp] def z57:D->D->Option D:=gI fun i j=>if 0<j then some (.int (i % j))else none
theorem x19(ha:QD X a fa)(hb:QD X b fb):QD X (.BinOp a .Add b pos) (e2 x39 fa fb):=⟨have ha:=ha.o;have hb:=hb.o;PE.imp (y3o z9z ha hb) (y6h fun i j d h=>by cases h;rfl)⟩
theorem x69(ha:QD X a fa)(hb:QD X b fb):QD X (.BinOp a .Mult b pos) (e2 y6e fa fb):=⟨have ha:=ha.o;have hb:=hb.o;PE.imp (y3o z90 ha hb) (y4w fun i j d h=>by
 split at h
 ·cases h;exact⟨by assumption,rfl⟩
 ·cases h)⟩
theorem y9a(ha:QD X a fa)(hb:QD X b fb):QD X (.BinOp a .FloorDiv b pos) (e2 j16 fa fb):=⟨have ha:=ha.o;have hb:=hb.o;PE.imp (y3o z6t ha hb) (y4w fun i j d h=>by
 split at h
 ·cases h;exact⟨by assumption,rfl⟩
 ·cases h)⟩
theorem y12(ha:QD X a fa)(hb:QD X b fb):QD X (.BinOp a .Mod b pos) (e2 z57 fa fb):=⟨have ha:=ha.o;have hb:=hb.o;PE.imp (y3o z9u ha hb) (y4w fun i j d h=>by
 split at h
 ·cases h;exact⟨by assumption,rfl⟩
 ·cases h)⟩
def atD:D->Int->Option D
 | .lst ds,i=>atI ds i
 | .tup ds,i=>atI ds i
 | _,_=>none
@[simp] def eIx (fa fb:Den):Den:=fun ρ=>match fa ρ with
 | some (x,_,ρ1)=>match fb ρ1 with
  | some (.int i,_,ρ2)=>match atD x i with
   | some d=>some (d,y0a d,ρ2)
   | none=>none
  | _=>none
 | none=>none
theorem Rep.seqL{w:Wn}{o:Ow}{q:Nat}{ds:List D}(r:Rep K H w o q (.lst ds) v F):∃ a vs q' G,v=.ref a/\SqL K H a vs/\Reps K H w o q' ds vs G:=by
 cases r with
 | kl h r=>exact⟨_,_,_,_,rfl,h.sq,r⟩
 | shr h n r=>exact⟨_,_,_,_,rfl,.inl h,r⟩
 | own h n r _=>exact⟨_,_,_,_,rfl,SqL.of h,r⟩
theorem Rep.seqL0{w:Wn}{o:Ow}{ds:List D}(r:Rep K H w o 0 (.lst ds) v F):∃ a vs,v=.ref a/\SqL K H a vs/\Reps K H w o 0 ds vs []:=by
 cases r with
 | kl h r=>exact⟨_,_,rfl,h.sq,r⟩
 | shr h n r=>exact⟨_,_,rfl,.inl h,r⟩
theorem Rep.seqT{w:Wn}{o:Ow}{q:Nat}{ds:List D}(r:Rep K H w o q (.tup ds) v F):∃ a vs,v=.ref a/\SqT K H a vs/\Reps K H w o 0 ds vs []:=by
 cases r with
 | tup h r=>exact⟨_,_,rfl,SqT.of h,r⟩
theorem Rep.tupAt{w:Wn}{o:Ow}{q:Nat}{ds:List D}(r:Rep K H w o q (.tup ds) v F):∃ a vs,v=.ref a/\H a=some (.tup vs)/\Reps K H w o 0 ds vs []:=by
 cases r with
 | tup h r=>exact⟨_,_,rfl,h,r⟩
theorem Reps.atI{w:Wn}{o:Ow}{ds:List D}{i:Int}{d:D}(r:Reps K H w o 0 ds vs [])(h:L2.atI ds i=some d):∃ v,L2.atI vs i=some v/\Rep K H w o 0 d v []:=by
 unfold L2.atI at h ⊢
 rw[<- r.length]
 cases e:ixN ds.length i with
 | none=>rw[e]at h;cases h
 | some j=>
  rw[e]at h
  exact r.get h
theorem x53(ha:QD X a fa)(hb:QD X b fb)(hs:x84 b:=by exact fun _ _=>rfl):QD X (.Subscript a b pos) (eIx fa fb):=⟨have ha:=ha.o;have hb:=hb.o;PE.imp (z0b y3u ha hb hs) fun σ H Q hh0=>by
 obtain⟨ρ,w,t,r',q,ρ',gd,ee,k⟩:=hh0
 unfold eIx at ee
 split at ee
 ·rename_i x q1 ρ1 h1
  split at ee
  ·rename_i i q2 ρ2 h2
   split at ee
   ·rename_i d hd
    cases ee
    refine z5y gd h1 h2 fun u u' H2 w2 F1 F2 g2 go r1 r2=>?_
    have hu':=x3l r2
    subst hu'
    have r0:=r1.drop (o:=.t t) (Qi t)
    cases x with
    | lst ds=>
     obtain⟨p,vs,rfl,hq,rs⟩:=r0.seqL0
     obtain⟨v,hv,rv⟩:=rs.atI hd
     exact .inl ⟨p,vs,i,v,rfl,rfl,hq,hv,z19 k gd g2 go rv.dep⟩
    | tup ds=>
     obtain⟨p,vs,rfl,hq,rs⟩:=r0.seqT
     obtain⟨v,hv,rv⟩:=rs.atI hd
     exact .inr (.inl ⟨p,vs,i,v,rfl,rfl,hq,hv,z19 k gd g2 go rv.dep⟩)
    | _=>cases hd
   ·cases ee
  ·cases ee
 ·cases ee⟩
abbrev x47:=Rho->Option (List D×Rho)
def tDA (K:PySem.W.Frag)(f:x47):TA:=fun σ H Q=>∃ ρ w t ds ρ',Good K ρ σ H w t/\f ρ=some (ds,ρ')/\∀ vs H' w',Good K ρ' σ H' w' t->Go H w H' w'->Reps K H' w' .f 0 ds vs []->Q vs H'
abbrev PDA (X:Cx)(es:List Expr)(f:x47):Prop:=PA X es (tDA X.K f)
structure QDA (X:Cx) (e:List Expr) (f:x47):Prop where mk::o:PDA X e f
theorem PA.imp{X:Cx}{e:List Expr}{t t':TA}(h:PA X e t)(i:∀ σ H Q,t' σ H Q->t σ H Q):PA X e t':=fun pos pins s σ H Q I q=>h pos pins s σ H Q I (i σ H Q q)
@[simp] def x0g:x47:=fun ρ=>some ([],ρ)
@[simp] def x01 (f:Den)(g:x47):x47:=fun ρ=>match f ρ with
 | some (d,_,ρ1)=>match g ρ1 with
  | some (ds,ρ2)=>some (d::ds,ρ2)
  | none=>none
 | none=>none
theorem x03:QDA X [] x0g:=⟨PA.imp x65 fun σ H Q hh0=>by
 obtain⟨ρ,w,t,ds,ρ',gd,ee,k⟩:=hh0
 cases ee
 exact k [] H w gd Go.refl .nil⟩
theorem x00{g:x47}(ha:QD X e f)(hr:QDA X es g)(hs:starEach (e::es) X.env=(false,eval e X.env)::starEach es X.env:=by rfl):QDA X (e::es) (x01 f g):=⟨have ha:=ha.o;have hr:=hr.o;PA.imp (x3y ha hr hs) fun σ H Q hh0=>by
 obtain⟨ρ,w,t,ds,ρ',gd,ee,k⟩:=hh0
 unfold x01 at ee
 split at ee
 ·rename_i d q ρ1 h1
  split at ee
  ·rename_i ds' ρ2 h2
   cases ee
   refine⟨ρ,w,t,d,q,ρ1,gd,h1,fun x H1 w1 F1 g1 go1 r1=>⟨ρ1,x1l t w1,t,ds',_,g1.drop,h2,fun vs H2 w2 g2 go2 r2=>?_⟩⟩
   have gl:=(g1.drop (t':=t)).wl
   have r0:Rep X.K H2 w2 .f 0 d x []:=Rep.go gl go2.stab (r1.drop (o:=.f) (Qi t)) (fun _ z=>nomatch z)
   exact k (x::vs) H2 w2 g2 ((go1.drop gd.wt).trans go2) (.cons (F:=[]) (G:=[]) r0 r2 (fun _ z=>nomatch z))
  ·cases ee
 ·cases ee⟩
@[simp] def x5w (g:x47):Den:=fun ρ=>match g ρ with
 | some (ds,ρ1)=>if ds.length<=1000 then some (.lst ds,1,ρ1)else none
 | none=>none
@[simp] def x54 (g:x47):Den:=fun ρ=>match g ρ with
 | some (ds,ρ1)=>if ds.length<=1000 then some (.tup ds,9,ρ1)else none
 | none=>none
theorem x9e(h:n<=1000):n<=sizeLine:=ZP (x33 h)
theorem x22{g:x47}(h:QDA X es g):QD X (.List es pos) (x5w g):=⟨have h:=h.o;PE.imp (z9p h) fun σ H Q hh0=>by
 obtain⟨ρ,w,t,r',q,ρ',gd,ee,k⟩:=hh0
 unfold x5w at ee
 split at ee
 ·rename_i ds ρ1 h1
  split at ee
  ·rename_i hl
   cases ee
   refine⟨ρ,w,t,ds,_,gd,h1,fun vs H1 w1 g1 go1 r1=>⟨by rw[<- r1.length];exact x9e hl,fun p hp=>?_⟩⟩
   obtain⟨a1,a2,a3⟩:=y0k g1 hp r1
   exact k _ _ _ _ a1 (go1.trans a2) a3
  ·cases ee
 ·cases ee⟩
theorem x2w{g:x47}{x1}(h:QDA X es g):QD X (.Tuple es x1 pos) (x54 g):=⟨have h:=h.o;PE.imp (j0i h) fun σ H Q hh0=>by
 obtain⟨ρ,w,t,r',q,ρ',gd,ee,k⟩:=hh0
 unfold x54 at ee
 split at ee
 ·rename_i ds ρ1 h1
  split at ee
  ·rename_i hl
   cases ee
   refine⟨ρ,w,t,ds,_,gd,h1,fun vs H1 w1 g1 go1 r1=>⟨by rw[<- r1.length];exact x9e hl,fun p hp=>?_⟩⟩
   obtain⟨a1,a2,a3⟩:=y0t g1 hp r1
   exact k _ _ _ _ a1 (go1.trans a2) a3
  ·cases ee
 ·cases ee⟩
def spD (K:PySem.W.Frag)(n:Nat)(F:List D->OD):Sp:=fun vs H Q _=>vs.length=n/\∃ ds w r q,(∀ a o,w a=some o->o=.f)/\WL K w H/\Reps K H w .f 0 ds vs []/\F ds=some (r,q) /\
 ∀ v H' w' Fo,Go H w H' w'->WL K w' H'->Rep K H' w' (.t 0) q r v Fo->Q v H'
@[simp] def x0p (F:List D->OD)(n:Nat)(g:x47):Den:=fun ρ=>match g ρ with
 | some (ds,ρ1)=>if ds.length=n then match F ds with
  | some (r,q)=>some (r,q,ρ1)
  | none=>none
  else none
 | none=>none
theorem back{ρ:Rho}{σ:St}{w w':Wn}{t q:Nat}{d:D}{Fo:List Addr}(g:Good K ρ σ H w t)
  (go:Go H (fun a=>(w a).map fun _=>Ow.f) H' w') (wl':WL K w' H') (r:Rep K H' w' (.t 0) q d v Fo) :
  Good K ρ σ H' (fun a=>if a∈Fo then some (.t t)else w a) (t+1)/\Go H w H' (fun a=>if a∈Fo then some (.t t)else w a)/\Rep K H' (fun a=>if a∈Fo then some (.t t)else w a) (.t t) q d v Fo:=by
 have kf:∀ a o,w a=some o->H' a=H a/\w' a=some .f:=fun a o e=>go.keep a .f (by show(w a).map _=_;rw[e];rfl) (fun _ z=>nomatch z)
 have nf:∀ a x,H a=some x->a ∉ Fo:=fun a x e m=>by
  have h1:=r.owns a m
  cases ew:w a with
  | none=>
   have:=(go.stab a x e (by show(w a).map _=_;rw[ew];rfl)).2
   rw[h1]at this;cases this
  | some o=>rw[(kf a o ew).2]at h1;cases h1
 have nw:∀ a o,w a=some o->a ∉ Fo:=fun a o e=>by obtain⟨vs,q⟩:=g.wl a o e;exact nf a _ q
 have st:x63 H w H' (fun a=>if a∈Fo then some (.t t)else w a):=fun a x e n=>⟨(go.stab a x e (by show(w a).map _=_;rw[n];rfl)).1,by show(if a∈Fo then _ else _)=_;rw[Qk (nf a x e)];exact n⟩
 have wv:∀ a o,(if a∈Fo then some (Ow.t t)else w a)=some o->(a∈Fo/\o=.t t)\/w a=some o:=fun a o e=>by
  split at e
  ·cases e;exact .inl ⟨by assumption,rfl⟩
  ·exact .inr e
 refine⟨⟨⟨fun a o e=>?_,wl'.tb⟩,fun a i e=>?_,fun a i e=>?_,g.len,fun i d q e=>?_⟩,⟨st,fun a o e _=>⟨(kf a o e).1,by show(if a∈Fo then _ else _)=_;rw[Qk (nw a o e)];exact e⟩⟩,?_⟩
 ·rcases wv a o e with⟨m,_⟩|z
  ·exact wl' a _ (r.owns a m)
  ·obtain⟨vs,h⟩:=g.wl a o z
   exact⟨vs,(kf a o z).1.trans h⟩
 ·rcases wv a _ e with⟨_,z⟩|z
  ·cases z
  ·exact g.ws a i z
 ·rcases wv a _ e with⟨_,z⟩|z
  ·cases z;exact Zv _
  ·exact Zr (g.wt a i z)
 ·obtain⟨v,F,h1,h2⟩:=g.slot i d q e
  refine⟨v,F,h1,Rep.go g.wl st h2 fun a m=>⟨(kf a _ (h2.owns a m)).1,?_⟩⟩
  show(if a∈Fo then _ else _)=_
  rw[Qk (nw a _ (h2.owns a m))]
  exact h2.owns a m
 ·refine Rep.go wl' (fun a x e n=>⟨sm e,?_⟩) r fun a m=>⟨rfl,Qj m⟩
  show(if a∈Fo then _ else _)=_
  rw[Qk (fun m=>by have:=r.owns a m;rw[n]at this;cases this)]
  cases ew:w a with
  | none=>rfl
  | some o=>have:=(kf a o ew).2;rw[n]at this;cases this
theorem z3a{CX:CXT}{k:Nat}{fn:Addr}{x:Str}{p:Pos}{F:List D->OD}{g:x47}(Fk:FnOk X.prog X.w X.K X.mg X.base CX k fn fd ps (spD X.K n F))(hr:Room k X.A)(hm:X.mg x=some (.ref fn))(hk:PySem.W.keepIn X.K (.ref fn)=true)(hb:y2u X.K fd ps [])
  (hx:y6a CX X E) (ha:PDA X (e::es) g) (hg:Gl X x:=by rfl) (hdb:(x==("__debug__":Str))=false:=by decide) (he:starEach (e::es) X.env=(false,eval e X.env)::starEach es X.env:=by rfl) (hpl:(backTo pos (starEach es X.env)).any (·.1)=false:=by rfl) :
  PD X (.Call (.Name x p) (e::es) [] pos) (x0p F n g):=PE.imp (z5r Fk hr hg hm hk hb .nil hx ha hdb he hpl) fun σ H Q hh0=>by
 obtain⟨ρ,w,t,r',q,ρ',gd,ee,k⟩:=hh0
 unfold x0p at ee
 split at ee
 ·rename_i ds ρ1 h1
  split at ee
  ·rename_i hn
   split at ee
   ·rename_i r0 q0 h2
    cases ee
    refine⟨ρ,w,t,ds,_,gd,h1,fun vs H1 w1 g1 go1 r1=>?_⟩
    show spD X.K n F (vs++[]) H1 Q E
    rw[Z5]
    refine⟨by rw[<- r1.length];exact hn,ds,fun a=>(w1 a).map fun _=>Ow.f,r',q,fun a o e=>?_,⟨fun a o e=>?_,g1.wl.tb⟩,?_,h2,fun v H2 w2 Fo go2 wl2 rr=>?_⟩
    ·dsimp only at e
     cases ew:w1 a with
     | none=>rw[ew]at e;cases e
     | some o'=>rw[ew]at e;cases e;rfl
    ·try dsimp only at e
     cases ew:w1 a with
     | none=>rw[ew]at e;cases e
     | some o'=>exact g1.wl a o' ew
    ·exact Reps.freeze (fun a n=>by show(w1 a).map _=_;rw[n];rfl) r1 (fun _ z=>nomatch z)
    ·obtain⟨b1,b2,b3⟩:=back g1 go2 wl2 rr
     exact k _ _ _ _ b1 (go1.trans b2) b3
   ·cases ee
  ·cases ee
 ·cases ee
end
abbrev x4x:=Rho->Option (Bool×Rho)
def tDT (K:PySem.W.Frag)(f:x4x):TT:=fun σ H Q=>∃ ρ w t b ρ',Good K ρ σ H w t/\f ρ=some (b,ρ')/\∀ H' w',Good K ρ' σ H' w' t->Go H w H' w'->Q b H'
theorem PT.imp{t t':TT}(h:PT X e t)(i:∀ σ H Q,t' σ H Q->t σ H Q):PT X e t':=fun pins s σ H Q I q=>h pins s σ H Q I (i σ H Q q)
theorem PW.imp{t t':TT}(h:PW X e t)(i:∀ σ H Q,t' σ H Q->t σ H Q):PW X e t':=fun whole pins s σ H Q I q=>h whole pins s σ H Q I (i σ H Q q)
abbrev PDT (X:Cx)(e:Expr)(f:x4x):Prop:=PT X e (tDT X.K f)
structure QDT (X:Cx) (e:Expr) (f:x4x):Prop where mk::o:PDT X e f
abbrev PDW (X:Cx)(e:Expr)(f:x4x):Prop:=PW X e (tDT X.K f)
structure QDW (X:Cx) (e:Expr) (f:x4x):Prop where mk::o:PDW X e f
@[simp] def j4a:D->Option Bool
 | .non=>some false
 | .bl b=>some b
 | .int i=>some (i != 0)
 | .tup ds=>some (!ds.isEmpty)
 | .lst ds=>some (!ds.isEmpty)
 | .str _=>none
 | .dic _ _=>none
 | .exc _=>none
 | .ob _ _ _ _=>none
 | .mp _ _=>none
@[simp] def z18 (f:Den):x4x:=fun ρ=>match f ρ with
 | some (d,_,ρ1)=>match j4a d with
  | some b=>some (b,ρ1)
  | none=>none
 | none=>none
section
variable {X:Cx}{a b c e:Expr}{fa fb fc f:Den}{ga gb gc:x4x}{pos:Pos}
theorem x8w{α β:Type}{l:List α}{l':List β}(h:l.length=l'.length):(!l.isEmpty) = !l'.isEmpty:=by
 cases l<;>cases l'<;>first|rfl|cases h
theorem x9k(ha:QD X a fa)(he:∀ whole,isTrue a X.env whole=(do let v <- whole;standAt a.pos;holding [v] (truthy v)):=by exact fun _=>rfl):QDT X a (z18 fa):=⟨have ha:=ha.o;PT.imp (z3e ha he) fun σ H Q hh0=>by
 obtain⟨ρ,w,t,b,ρ',gd,ee,k⟩:=hh0
 unfold z18 at ee
 split at ee
 ·rename_i d q ρ1 h1
  split at ee
  ·rename_i b' hb
   cases ee
   refine⟨ρ,w,t,d,q,_,gd,h1,fun v H1 w1 F g1 go1 r1=>⟨b,?_,k H1 (x1l t w1) g1.drop (go1.drop gd.wt)⟩⟩
   cases r1 with
   | non=>cases hb;rfl
   | bl x=>cases hb;rfl
   | int i=>cases hb;rfl
   | str x=>cases hb
   | tup h r=>cases hb;exact .inr (.inl ⟨_,SqT.of h,x8w r.length⟩)
   | dic h e r=>cases hb
   | exc h x n=>cases hb
   | ob h1 h2 x r=>cases hb
   | kl h r=>cases hb;exact .inl ⟨_,h.sq,x8w r.length⟩
   | shr h _ r=>cases hb;exact .inl ⟨_,.inl h,x8w r.length⟩
   | own h _ r _=>cases hb;exact .inl ⟨_,SqL.of h,x8w r.length⟩
   | mps h _ _ _ _=>cases hb
   | mpo h _ _ _ _=>cases hb
  ·cases ee
 ·cases ee⟩
@[simp] def x4n (f:Den):x4x:=fun ρ=>match f ρ with
 | some (.bl b,_,ρ1)=>some (b,ρ1)
 | _=>none
theorem z1x(h:∀ σ H Q,tD K f σ H Q->te σ H Q):∀ σ H Q,tDT K (x4n f) σ H Q->z8a te σ H Q:=fun σ H Q hh0=>by
 obtain⟨ρ,w,t,b,ρ',gd,ee,k⟩:=hh0
 unfold x4n at ee
 split at ee
 ·rename_i b' q ρ1 h1
  cases ee
  refine h σ H _ ⟨ρ,w,t,.bl b,q,_,gd,h1,fun v H1 w1 F g1 go1 r1=>?_⟩
  cases r1
  exact⟨b,rfl,k H1 (x1l t w1) g1.drop (go1.drop gd.wt)⟩
 ·cases ee
theorem y2l{g:D->D->Option D}(ho:OpR X (compareOp op) r)(hr:∀ σ H Q,tD X.K (e2 g fa fb) σ H Q->tOp r (tD X.K fa) (tD X.K fb) σ H Q)(ha:PD X a fa)(hb:PD X b fb)(hm:behindInMarks op b=false) :
  PDT X (.Compare a [op] [b] pos) (x4n (e2 g fa fb)):=PT.imp (z6u ho ha hb hm) (z1x hr)
theorem z8h{g:D->D->Option D}(ho:OpR X (compareOp op) r)(hr:∀ σ H Q,tD X.K (e2 g fa fb) σ H Q->tOp r (tD X.K fa) (tD X.K fb) σ H Q)(ha:PD X a fa)(hb:PD X b fb)(hm:behindInMarks op b=false) :
  PD X (.Compare a [op] [b] pos) (e2 g fa fb):=PE.imp (z52 ho ha hb hm) hr
@[simp] def dLt:D->D->Option D:=gI fun i j=>some (.bl (decide (i<j)))
@[simp] def dLe:D->D->Option D:=gI fun i j=>some (.bl (decide (i<=j)))
theorem hLt:∀ σ H Q,tD K (e2 dLt fa fb) σ H Q->tOp (rI0 fun i j=>.bl (decide (i<j))) (tD K fa) (tD K fb) σ H Q:=y6h fun i j d h=>by cases h;rfl
theorem y6k(ha:QD X a fa)(hb:QD X b fb):QDT X (.Compare a [.Lt] [b] pos) (x4n (e2 dLt fa fb)):=⟨have ha:=ha.o;have hb:=hb.o;y2l j0z hLt ha hb (y6j _)⟩
@[simp] def y4i (g:x4x):x4x:=fun ρ=>match g ρ with
 | some (b,ρ1)=>some (!b,ρ1)
 | none=>none
theorem y4f(ha:QDT X a ga):QDT X (.UnaryOp .Not a pos) (y4i ga):=⟨have ha:=ha.o;PT.imp (z8w ha) fun σ H Q hh0=>by
 obtain⟨ρ,w,t,b,ρ',gd,ee,k⟩:=hh0
 unfold y4i at ee
 split at ee
 ·rename_i b' ρ1 h1
  cases ee
  exact⟨ρ,w,t,b',_,gd,h1,fun H1 w1 g1 go1=>k H1 w1 g1 go1⟩
 ·cases ee⟩
@[simp] def j00 (g h:x4x):x4x:=fun ρ=>match g ρ with
 | some (b,ρ1)=>if b=true then some (true,ρ1)else h ρ1
 | none=>none
variable {x2o:List Expr}
theorem y95(ha:QDT X a ga):QDW X (.BoolOp .Or [a] pos) ga:=⟨have ha:=ha.o;z92 ha⟩
theorem y8h(ha:QDT X a ga)(hb:QDW X (.BoolOp .Or (b::x2o) pos) gb):QDW X (.BoolOp .Or (a::b::x2o) pos) (j00 ga gb):=⟨have ha:=ha.o;have hb:=hb.o;PW.imp (j1y ha hb) fun σ H Q hh0=>by
 obtain⟨ρ,w,t,b,ρ',gd,ee,k⟩:=hh0
 unfold j00 at ee
 split at ee
 ·rename_i b' ρ1 h1
  refine⟨ρ,w,t,b',ρ1,gd,h1,fun H1 w1 g1 go1=>?_⟩
  split at ee
  ·rename_i hb;rw[Qj hb]
   cases ee
   exact k H1 w1 g1 go1
  ·rename_i hb;rw[Qk hb]
   exact⟨ρ1,w1,t,b,ρ',g1,ee,fun H2 w2 g2 go2=>k H2 w2 g2 (go1.trans go2)⟩
 ·cases ee⟩
@[simp] def eIf (g:x4x)(fa fb:Den):Den:=fun ρ=>match g ρ with
 | some (b,ρ1)=>if b=true then fa ρ1 else fb ρ1
 | none=>none
theorem z2p(hc:QDT X c gc)(ha:QD X a fa)(hb:QD X b fb):QD X (.IfExp c a b pos) (eIf gc fa fb):=⟨have hc:=hc.o;have ha:=ha.o;have hb:=hb.o;PE.imp (z2d hc ha hb) fun σ H Q hh0=>by
 obtain⟨ρ,w,t,r',q,ρ',gd,ee,k⟩:=hh0
 unfold eIf at ee
 split at ee
 ·rename_i b' ρ1 h1
  refine⟨ρ,w,t,b',ρ1,gd,h1,fun H1 w1 g1 go1=>?_⟩
  split at ee
  ·rename_i hb;rw[Qj hb]
   exact⟨ρ1,w1,t,r',q,ρ',g1,ee,fun v H2 w2 F g2 go2=>k v H2 w2 F g2 (go1.trans go2)⟩
  ·rename_i hb;rw[Qk hb]
   exact⟨ρ1,w1,t,r',q,ρ',g1,ee,fun v H2 w2 F g2 go2=>k v H2 w2 F g2 (go1.trans go2)⟩
 ·cases ee⟩
end
inductive Out where
 | nx (ρ:Rho)|rt (d:D) (q:Nat)|bk (ρ:Rho)|ct (ρ:Rho)
abbrev x1g:=Rho->Option Out
def y0h (K:PySem.W.Frag)(Dn:Ends)(n:Nat)(H:Hp)(w:Wn):Out->Prop
 | .nx ρ'=>∀ σ' H' w',σ'.length=n->Good K ρ' σ' H' w' 0->Go H w H' w'->Dn.nx σ' H'
 | .bk ρ'=>∀ σ' H' w',σ'.length=n->Good K ρ' σ' H' w' 0->Go H w H' w'->Dn.bk σ' H'
 | .ct ρ'=>∀ σ' H' w',σ'.length=n->Good K ρ' σ' H' w' 0->Go H w H' w'->Dn.ct σ' H'
 | .rt d q=>∀ v H' w' F,WL K w' H'->Go H w H' w'->Rep K H' w' (.t 0) q d v F->Dn.rt v H'
def tDS (K:PySem.W.Frag)(f:x1g):TS:=fun Dn σ H=>∃ ρ w o,Good K ρ σ H w 0/\f ρ=some o/\y0h K Dn σ.length H w o
theorem PS.imp{e:Stmt}{t t':TS}(h:PS X e t)(i:∀ D σ H,t' D σ H->t D σ H):PS X e t':=fun pins s σ H D I q=>h pins s σ H D I (i D σ H q)
theorem PSs.imp{e:List Stmt}{t t':TS}(h:PSs X e t)(i:∀ D σ H,t' D σ H->t D σ H):PSs X e t':=fun pins s σ H D I q=>h pins s σ H D I (i D σ H q)
abbrev PDS (X:Cx)(st:Stmt)(f:x1g):Prop:=PS X st (tDS X.K f)
structure QDS (X:Cx) (e:Stmt) (f:x1g):Prop where mk::o:PDS X e f
abbrev j1f (X:Cx)(st:List Stmt)(f:x1g):Prop:=PSs X st (tDS X.K f)
structure QDSs (X:Cx) (e:List Stmt) (f:x1g):Prop where mk::o:j1f X e f
@[simp] def y0r:x1g:=fun ρ=>some (.nx ρ)
@[simp] def x16 (f g:x1g):x1g:=fun ρ=>match f ρ with
 | some (.nx ρ1)=>g ρ1
 | o=>o
theorem y0h.trans{Dn:Ends}{w w1:Wn}(go:Go H w H1 w1):∀ {o:Out},y0h K Dn n H w o->y0h K Dn n H1 w1 o
 | .nx _,h=>fun σ' H' w' e g go'=>h σ' H' w' e g (go.trans go')
 | .bk _,h=>fun σ' H' w' e g go'=>h σ' H' w' e g (go.trans go')
 | .ct _,h=>fun σ' H' w' e g go'=>h σ' H' w' e g (go.trans go')
 | .rt _ _,h=>fun v H' w' F wl go'=>h v H' w' F wl (go.trans go')
section
variable {X:Cx}{a b c e:Expr}{fa fb fc f:Den}{ga gb gc:x4x}{pos:Pos}{st:Stmt}{x2o sa sb:List Stmt}{s s':x1g}
theorem x2n:QDSs X [] y0r:=⟨PSs.imp z6i fun D σ H hh0=>by
 obtain⟨ρ,w,o,g,ee,k⟩:=hh0
 cases ee
 exact k σ H w rfl g Go.refl⟩
theorem x07(h1:QDS X st s)(h2:QDSs X x2o s'):QDSs X (st::x2o) (x16 s s'):=⟨have h1:=h1.o;have h2:=h2.o;PSs.imp (z2e h1 h2) fun D σ H hh0=>by
 obtain⟨ρ,w,o,g,ee,k⟩:=hh0
 unfold x16 at ee
 split at ee
 ·rename_i ρ1 h1
  exact⟨ρ,w,.nx ρ1,g,h1,fun σ' H' w' e g' go'=>⟨ρ1,w',o,g',ee,by rw[e];exact k.trans go'⟩⟩
 ·rename_i hne
  refine⟨ρ,w,o,g,ee,?_⟩
  cases o with
  | nx ρ1=>exact absurd ee (hne ρ1)
  | bk ρ1=>exact k
  | ct ρ1=>exact k
  | rt d q=>exact k⟩
theorem x0d(h1:QDS X st s):QDSs X [st] s:=⟨have h1:=h1.o;z76 h1⟩
@[simp] def x3t (f:Den):x1g:=fun ρ=>match f ρ with
 | some (d,q,_)=>some (.rt d q)
 | none=>none
theorem x0q(h:QD X e f):QDS X (.Return (some e) pos) (x3t f):=⟨have h:=h.o;PS.imp (j0s h) fun D σ H hh0=>by
 obtain⟨ρ,w,o,g,ee,k⟩:=hh0
 unfold x3t at ee
 split at ee
 ·rename_i d q ρ1 h1
  cases ee
  exact⟨ρ,w,0,d,q,ρ1,g,h1,fun v H' w' F g' go' r=>k v H' w' F g'.wl go' r⟩
 ·cases ee⟩
@[simp] def sIf (g:x4x)(s s':x1g):x1g:=fun ρ=>match g ρ with
 | some (b,ρ1)=>if b=true then s ρ1 else s' ρ1
 | none=>none
theorem x3u(hc:QDT X c gc)(ha:QDSs X sa s)(hb:QDSs X sb s'):QDS X (.If c sa sb pos) (sIf gc s s'):=⟨have hc:=hc.o;have ha:=ha.o;have hb:=hb.o;PS.imp (j1m hc ha hb) fun D σ H hh0=>by
 obtain⟨ρ,w,o,g,ee,k⟩:=hh0
 unfold sIf at ee
 split at ee
 ·rename_i b' ρ1 h1
  refine⟨ρ,w,0,b',ρ1,g,h1,fun H1 w1 g1 go1=>?_⟩
  split at ee
  ·rename_i hb;rw[Qj hb]
   exact⟨ρ1,w1,o,g1,ee,k.trans go1⟩
  ·rename_i hb;rw[Qk hb]
   exact⟨ρ1,w1,o,g1,ee,k.trans go1⟩
 ·cases ee⟩
def x7r (t i:Nat)(w:Wn):Wn:=fun a=>if w a=some (.t t)then some (.s i)else if w a=some (.s i)then none else w a
theorem Good.set{ρ:Rho}{σ:St}{w:Wn}{q:Nat}{d:D}(g:Good K ρ σ H w 1)(hi:i<σ.length)(r:Rep K H w (.t 0) q d v F) :
  Good K (ρ.set i (some (d,q))) (σ.set i (some v)) H (x7r 0 i w) 0/\∀ H₀ w₀,Go H₀ w₀ H w->(∀ a j,w₀ a=some (.t j)->j<0)->Go H₀ w₀ H (x7r 0 i w):=by
 have mN:∀ a,w a=none->x7r 0 i w a=none:=fun a e=>by unfold x7r;rw[e];rfl
 have mT:∀ a,w a=some (.t 0)->x7r 0 i w a=some (.s i):=fun a e=>by unfold x7r;rw[Qj e]
 have mS:∀ a j,w a=some (.s j)->j≠i->x7r 0 i w a=some (.s j):=fun a j e n=>by
  unfold x7r
  rw[Qk (by rw[e];exact fun z=>nomatch z),Qk (by rw[e];intro z;cases z;exact n rfl)]
  exact e
 have mF:∀ a,w a=some .f->x7r 0 i w a=some .f:=fun a e=>by
  unfold x7r
  rw[Qk (by rw[e];exact fun z=>nomatch z),Qk (by rw[e];exact fun z=>nomatch z)]
  exact e
 have mI:∀ a o,x7r 0 i w a=some o->(w a=some (.t 0)/\o=.s i)\/(w a=some o/\o ≠ .s i/\o ≠ .t 0):=fun a o e=>by
  unfold x7r at e
  split at e
  ·cases e;exact .inl ⟨by assumption,rfl⟩
  ·rename_i n1
   split at e
   ·cases e
   ·rename_i n2;exact .inr ⟨e,fun z=>n2 (by rw[e,z]),fun z=>n1 (by rw[e,z])⟩
 have st:x63 H w H (x7r 0 i w):=fun a x h n=>⟨sm h,mN a n⟩
 refine⟨⟨⟨fun a o e=>?_,g.wl.tb⟩,fun a j e=>?_,fun a j e=>?_,by rw[Ze,Ze];exact g.len,fun j d' q' e'=>?_⟩,fun H₀ w₀ go hw=>⟨fun a x h n=>⟨(go.stab a x h n).1,mN a (go.stab a x h n).2⟩,fun a o e n=>?_⟩⟩
 ·rcases mI a o e with⟨z,_⟩|⟨z,_⟩
  ·exact g.wl a _ z
  ·exact g.wl a _ z
 ·rw[Ze]
  rcases mI a _ e with⟨_,z⟩|⟨z,_⟩
  ·cases z;exact hi
  ·exact g.ws a j z
 ·rcases mI a _ e with⟨_,z⟩|⟨z,_,n⟩
  ·cases z
  ·have:=g.wt a j z
   have:j=0:=by omega
   subst this
   exact absurd rfl n
 ·by_cases hj:i=j
  ·subst hj
   rw[QX (by rw[g.len];exact hi)]at e'
   cases e'
   exact⟨v,F,QX hi,Rep.go g.wl st r fun a m=>⟨rfl,mT a (r.owns a m)⟩⟩
  ·rw[QY hj]at e'
   obtain⟨v',F',h1,h2⟩:=g.slot j d' q' e'
   exact⟨v',F',by rw[QY hj];exact h1,Rep.go g.wl st h2 fun a m=>⟨rfl,mS a j (h2.owns a m) (fun z=>hj z.symm)⟩⟩
 ·obtain⟨h1,h2⟩:=go.keep a o e n
  refine⟨h1,?_⟩
  cases o with
  | s j=>exact absurd rfl (n j)
  | f=>exact mF a h2
  | t j=>exact absurd (hw a j e) (Zf _)
@[simp] def x25 (i:Nat)(f:Den):x1g:=fun ρ=>match f ρ with
 | some (d,q,ρ1)=>some (.nx (ρ1.set i (some (d,q))))
 | none=>none
theorem y84{D:Ends}{σ:St}(hi:i<σ.length)(he:∀ Q,tD K f σ H Q->te σ H Q)(h:tDS K (x25 i f) D σ H):te σ H fun x H1=>D.nx (σ.set i (some x)) H1:=by
 obtain⟨ρ,w,o,g,ee,k⟩:=h
 unfold x25 at ee
 split at ee
 ·rename_i d q ρ1 h1
  cases ee
  refine he _ ⟨ρ,w,0,d,q,ρ1,g,h1,fun v H' w' F g' go' r=>?_⟩
  obtain⟨a1,a2⟩:=g'.set hi r
  exact k _ _ _ (by rw[Ze]) a1 (a2 _ _ go' g.wt)
 ·cases ee
theorem x0n{x:Str}{pos':Pos}(hN:X.N.Nodup)(hi:X.N[i]? = some x)(hx:Loc X.env.scope x)(he:QD X e f)(hs:swapsWith e (some (.Name x pos')) pos.line X.env=pure false:=by rfl)(hf:X.fn x=true\/X.env.scope.names.lookup x=some .local:=by first|exact .inl rfl|exact .inr rfl):QDS X (.Assign [.Name x pos'] e pos) (x25 i f):=⟨have he:=he.o;by
 intro pins s σ H D I h
 have hl:i<σ.length:=by rw[I.len];exact(QB.mp hi).1
 exact z8x (te:=tD X.K f) hN hi hx he hs hf pins s σ H D I (y84 hl (fun _ z=>z) h)⟩
@[simp] def x3f (f:Den):x1g:=fun ρ=>match f ρ with
 | some (_,_,ρ1)=>some (.nx ρ1)
 | none=>none
theorem x2f(he:QD X e f)(hs:swapsWith e none pos.line X.env=pure false:=by rfl):QDS X (.Expr e pos) (x3f f):=⟨have he:=he.o;PS.imp (z7b he hs) fun D σ H hh0=>by
 obtain⟨ρ,w,o,g,ee,k⟩:=hh0
 unfold x3f at ee
 split at ee
 ·rename_i d q ρ1 h1
  cases ee
  exact⟨ρ,w,0,d,q,ρ1,g,h1,fun v H' w' F g' go' r=>k σ H' (x1l 0 w') rfl g'.drop (go'.drop g.wt)⟩
 ·cases ee⟩
end
structure Mo (K:PySem.W.Frag) (H H':Hp):Prop where
 mo:∀ a o,H a=some o->H' a=some o
 tb:TB K H->TB K H'
theorem Mo.rfl':Mo K H H:=⟨fun _ _ e=>e,fun t=>t⟩
structure ItOk (K:PySem.W.Frag) (J:It) (ds:List D) (P:Hp->Wn->Prop):Prop where
 go:∀ i H w,P H w->i<ds.length->J.go i H
 yld:∀ i H w x H' d,P H w->WL K w H->ds[i]? = some d->J.yld i H x H'->Mo K H H'/\Rep K H' w .f 0 d x []/\P H' w
 stop:∀ H w,P H w->J.stop ds.length H
 st:∀ H w H' w',P H w->WL K w H->x63 H w H' w'->P H' w'
abbrev y6n:=Rho->Option (List D×Rho)
def tDI (K:PySem.W.Frag)(f:y6n):TI:=fun σ H R=>∃ ρ w t ds ρ',Good K ρ σ H w t/\f ρ=some (ds,ρ') /\
 ∀ J P H' w',Good K ρ' σ H' w' t->Go H w H' w'->ItOk K J ds P->P H' w'->ds.length<sizeLine->R J H'
theorem PI.imp{t t':TI}(h:PI X tg e t)(i:∀ σ H R,t' σ H R->t σ H R):PI X tg e t':=fun pins s σ H R I q=>h pins s σ H R I (i σ H R q)
abbrev PDI (X:Cx)(tg e:Expr)(f:y6n):Prop:=PI X tg e (tDI X.K f)
structure QDI (X:Cx) (tg e:Expr) (f:y6n):Prop where mk::o:PDI X tg e f
theorem It.list{ds:List D}(hl:ds.length=vs.length):ItOk K (Itl K a) ds fun H w=>(KL K a vs\/(Rd H a (.lst vs)/\w a=none))/\Reps K H w .f 0 ds vs []:=by
 have sq:∀ {H:Hp} {w:Wn},KL K a vs\/(Rd H a (.lst vs)/\w a=none)->SqL K H a vs:=fun h=>h.elim (fun z=>z.sq) fun z=>.inl z.1
 refine⟨fun i H w p hi=>⟨vs,vs[i],sq p.1,by simp[hl ▸ hi]⟩,fun i H w x H' d p wl hd y=>?_,fun H w p=>⟨vs,sq p.1,by omega⟩,fun H w H' w' p wl st=>?_⟩
 ·obtain⟨rfl,hx⟩:=y
  obtain⟨v,hv,rv⟩:=p.2.get hd
  have:=hx vs (sq p.1)
  rw[hv]at this
  cases this
  exact⟨Mo.rfl',rv,p⟩
 ·refine⟨?_,Reps.go wl st p.2 (fun _ z=>nomatch z)⟩
  rcases p.1 with p|⟨p,n⟩
  ·exact .inl p
  ·exact .inr (RdL.go st n p)
theorem It.tup{K:PySem.W.Frag}{a:Addr}{vs:List V}{ds:List D}(hl:ds.length=vs.length):ItOk K (Itt K a) ds fun H w=>SqT K H a vs/\Reps K H w .f 0 ds vs []:=
 ⟨fun i H w p hi=>⟨vs,vs[i],p.1,by simp[hl ▸ hi]⟩,fun i H w x H' d p wl hd y=>by
   obtain⟨rfl,hx⟩:=y
   obtain⟨v,hv,rv⟩:=p.2.get hd
   have:=hx vs p.1
   rw[hv]at this
   cases this
   exact⟨Mo.rfl',rv,p⟩,fun H w p=>⟨vs,p.1,by omega⟩,fun H w H' w' p wl st=>⟨SqT.go wl st p.1,Reps.go wl st p.2 (fun _ z=>nomatch z)⟩⟩
def x8f (n:Nat):List V:=(List.range n).map fun i=>.int (Int.ofNat i)
def x12 (n:Nat):List D:=(List.range n).map fun i=>.int (Int.ofNat i)
theorem x0s(n:Nat):(x12 n).length=n:=by simp[x12]
theorem y17(n:Nat):(x8f n).length=n:=by simp[x8f]
theorem It.range:ItOk K (Itr 0 n) (x12 n) fun _ _=>True:=by
 refine⟨fun i H w _ hi=>by rw[x0s]at hi;exact hi,fun i H w x H' d _ _ hd y=>?_,fun H w _=>by rw[x0s];exact Qi _,fun _ _ _ _ _ _ _=>trivial⟩
 have hi:i<n:=by have:=(QB.mp hd).1;rw[x0s]at this;exact this
 have e:x=.int (0+(i:Int)):=y.2
 have ed:d=.int (Int.ofNat i):=by
  have:(x12 n)[i]? = some (.int (Int.ofNat i)):=by simp[x12,hi]
  rw[hd]at this
  exact QC this
 obtain⟨rfl,_⟩:=y
 subst ed
 rw[e,Int.zero_add]
 exact⟨Mo.rfl',.int _,trivial⟩
theorem x6k{w:Wn}{o:Ow}:∀ (ns:List Int),Reps K H w o 0 (ns.map D.int) (ns.map V.int) []
 | []=>.nil
 | n::r=>.cons (F:=[]) (G:=[]) (.int n) (x6k r) (fun _ z=>nomatch z)
theorem y77{w:Wn}{o:Ow}(n:Nat):Reps K H w o 0 (x12 n) (x8f n) []:=by
 have:=x6k (K:=K) (H:=H) (w:=w) (o:=o) ((List.range n).map Int.ofNat)
 rw[QV,QV]at this
 exact this
section
variable {X:Cx}{tg a b c e:Expr}{fa fb fc f:Den}{ga gb gc:x4x}{pos p:Pos}
@[simp] def x14 (g:x47):y6n:=fun ρ=>match g ρ with
 | some ([.int n],ρ1)=>if -1000<=n/\n<=1000 then some (x12 n.toNat,ρ1)else none
 | _=>none
theorem x0u{g:x47}(hm:X.mg "range" = none)(ha:QDA X [a] g)(hg:Gl X "range":=by rfl)(hs:starEach [a] X.env=[(false,eval a X.env)]:=by rfl):QDI X tg (.Call (.Name "range" p) [a] [] pos) (x14 g):=⟨have ha:=ha.o;PI.imp (y7s hg hm ha hs) fun σ H R hh0=>by
 obtain⟨ρ,w,t,ds,ρ',gd,ee,k⟩:=hh0
 unfold x14 at ee
 split at ee
 ·rename_i n ρ1 h1
  split at ee
  ·rename_i hn
   cases ee
   refine⟨ρ,w,t,[.int n],_,gd,h1,fun vs H1 w1 g1 go1 r1=>?_⟩
   have hv:vs=[.int n]:=by
    have l:=r1.length
    match vs,l with
    | [v],_=>
     obtain⟨v',h1,h2⟩:=r1.get (i:=0) rfl
     cases h1
     rw[x3l h2]
   subst hv
   refine⟨n,rfl,by omega,by omega,k _ _ H1 w1 g1 go1 It.range trivial ?_⟩
   rw[x0s]
   exact x33 (by omega)
  ·cases ee
 ·cases ee⟩
def j40 (K:PySem.W.Frag)(tl:TE):TI:=fun σ H R=>tl σ H fun x H1=>∃ a,x=.ref a/\(((∃ xs,SqL K H1 a xs)/\R (Itl K a) H1)\/((∃ xs,SqT K H1 a xs)/\R (Itt K a) H1))
theorem z9h{l:Expr}{tl:TE}(hl:PE X l tl):PI X tg l (j40 X.K tl):=by
 intro pins s σ H R I h
 refine thn (hl pins s σ H _ I h) fun v s1 ⟨x,H1,I1,r1,q1⟩=>?_
 obtain⟨a,e,q⟩:=q1
 subst e
 cases r1
 rcases q with⟨⟨xs,hq⟩,q⟩|⟨⟨xs,hq⟩,q⟩
 ·obtain⟨its,rv,p,hz⟩:=I1.list hq
  refine YZ p.isList ?_
  refine⟨s1.heap.objs.size,[s1.heap.objs.size],_,_,H1,rfl,I1.kept (t':=s1.toks) fun b o e=>Qb _ e,y8c a _,⟨_,Qo _ rfl,rfl,rfl⟩,fun b hb=>?_,q⟩
  have e:b=s1.heap.objs.size:=by simpa using hb
  subst e
  exact I1.fpOk (Qi _) (I1.hok.fresh (Qi _))
 ·obtain⟨its,rv,p,hz⟩:=I1.tuple hq
  refine YK (show s1.heap.IsTuple a its.toArray from p) ?_
  refine⟨s1.heap.objs.size,[s1.heap.objs.size],_,_,H1,rfl,I1.kept (t':=s1.toks) fun b o e=>Qb _ e,y76 a _,⟨_,Qo _ rfl,rfl,rfl⟩,fun b hb=>?_,q⟩
  have e:b=s1.heap.objs.size:=by simpa using hb
  subst e
  exact I1.fpOk (Qi _) (I1.hok.fresh (Qi _))
@[simp] def x5p (f:Den):y6n:=fun ρ=>match f ρ with
 | some (.lst ds,_,ρ1)=>if ds.length<=1000 then some (ds,ρ1)else none
 | some (.tup ds,_,ρ1)=>if ds.length<=1000 then some (ds,ρ1)else none
 | _=>none
theorem x32(ha:QD X a fa):QDI X tg a (x5p fa):=⟨have ha:=ha.o;PI.imp (z9h ha) fun σ H R hh0=>by
 obtain⟨ρ,w,t,ds,ρ',gd,ee,k⟩:=hh0
 unfold x5p at ee
 split at ee
 ·rename_i ds' q ρ1 h1
  split at ee
  ·rename_i hl
   cases ee
   refine⟨ρ,w,t,.lst ds,q,ρ',gd,h1,fun v H1 w1 F g1 go1 r1=>?_⟩
   have r0:=r1.drop (o:=.f) (Qi t)
   cases r0 with
   | kl h r=>exact⟨_,rfl,.inl ⟨⟨_,h.sq⟩,k _ _ H1 (x1l t w1) g1.drop (go1.drop gd.wt) (It.list r.length) ⟨.inl h,r⟩ (x33 hl)⟩⟩
   | shr h n r=>exact⟨_,rfl,.inl ⟨⟨_,.inl h⟩,k _ _ H1 (x1l t w1) g1.drop (go1.drop gd.wt) (It.list r.length) ⟨.inr ⟨h,n⟩,r⟩ (x33 hl)⟩⟩
  ·cases ee
 ·rename_i ds' q ρ1 h1
  split at ee
  ·rename_i hl
   cases ee
   refine⟨ρ,w,t,.tup ds,q,ρ',gd,h1,fun v H1 w1 F g1 go1 r1=>?_⟩
   have r0:=r1.drop (o:=.f) (Qi t)
   cases r0 with
   | tup h r=>exact⟨_,rfl,.inr ⟨⟨_,SqT.of h⟩,k _ _ H1 (x1l t w1) g1.drop (go1.drop gd.wt) (It.tup r.length) ⟨SqT.of h,r⟩ (x33 hl)⟩⟩
  ·cases ee
 ·cases ee⟩
end
abbrev x8u:=D->Rho->Option Rho
def tDG (K:PySem.W.Frag)(b:Nat)(pt:x8u):TG:=fun v σ H Q=>∃ d ρ w t ρ',Good K ρ σ H w t/\Rep K H w .f 0 d v []/\pt d ρ=some ρ'/\∀ σ' H' w',σ'.length=σ.length->(∀ i,i<b->σ'[i]? = σ[i]?)->Good K ρ' σ' H' w' t->Go H w H' w'->Q σ' H'
theorem PG.imp{t t':TG}(h:PG X tg t)(i:∀ v σ H Q,t' v σ H Q->t v σ H Q):PG X tg t':=fun pins s σ H v u Q I r q=>h pins s σ H v u Q I r (i v σ H Q q)
abbrev PDG (X:Cx)(b:Nat)(tg:Expr)(pt:x8u):Prop:=PG X tg (tDG X.K b pt)
structure QDG (X:Cx) (b:Nat) (e:Expr) (f:x8u):Prop where mk::o:PDG X b e f
@[simp] def x0k (i:Nat):x8u:=fun d ρ=>if i<ρ.length then some (ρ.set i (some (d,y0a d)))else none
theorem Good.setV{ρ:Rho}{σ:St}{w:Wn}{t:Nat}{d:D}(g:Good K ρ σ H w t)(hi:i<σ.length)(r:Rep K H w .f 0 d v []) :
  Good K (ρ.set i (some (d,y0a d))) (σ.set i (some v)) H (x60 i w) t/\Go H w H (x60 i w):=by
 have st:x63 H w H (x60 i w):=fun a x h n=>⟨sm h,x5u n⟩
 refine⟨⟨⟨fun a o h=>g.wl a o (x3n h).1,g.wl.tb⟩,fun a j h=>by rw[Ze];exact g.ws a j (x3n h).1,fun a j h=>g.wt a j (x3n h).1,by rw[Ze,Ze];exact g.len,fun j d' q' e'=>?_⟩,⟨st,fun a o h n=>⟨rfl,x8x h (n i)⟩⟩⟩
 by_cases hj:i=j
 ·subst hj
  rw[QX (by rw[g.len];exact hi)]at e'
  cases e'
  exact⟨v,[],QX hi,(Rep.go g.wl st r (fun _ z=>nomatch z):Rep K H (x60 i w) (.s i) 0 d v []).dep⟩
 ·rw[QY hj]at e'
  obtain⟨v',F,h1,h2⟩:=g.slot j d' q' e'
  exact⟨v',F,by rw[QY hj];exact h1,Rep.go g.wl st h2 fun a m=>⟨rfl,x8x (h2.owns a m) (fun z=>hj (by cases z;rfl))⟩⟩
theorem x0j{b:Nat}{x:Str}{pos:Pos}(hb:b<=i)(hN:X.N.Nodup)(hi:X.N[i]? = some x)(hx:Loc X.env.scope x)(hf:X.fn x=true\/X.env.scope.names.lookup x=some .local:=by first|exact .inl rfl|exact .inr rfl):QDG X b (.Name x pos) (x0k i):=⟨PG.imp (z62 hN hi hx hf) fun v σ H Q hh0=>by
 obtain⟨d,ρ,w,t,ρ',g,r,e,k⟩:=hh0
 unfold x0k at e
 split at e
 ·rename_i hl
  cases e
  obtain⟨a1,a2⟩:=g.setV (by rw[<- g.len];exact hl) r
  exact k _ _ _ (by rw[Ze]) (fun j hj=>QY (by omega)) a1 a2
 ·cases e⟩
def y09 (pt:x8u)(body:x1g):List D->Rho->Option Out
 | [],ρ=>some (.nx ρ)
 | d::ds,ρ=>match pt d ρ with
  | none=>none
  | some ρ1=>match body ρ1 with
   | some (.nx ρ2)=>y09 pt body ds ρ2
   | some (.ct ρ2)=>y09 pt body ds ρ2
   | some (.bk ρ2)=>some (.nx ρ2)
   | o=>o
@[simp] def x7p (it:y6n)(pt:x8u)(body:x1g):x1g:=fun ρ=>match it ρ with
 | some (ds,ρ1)=>y09 pt body ds ρ1
 | none=>none
theorem Reps.go0{w w':Wn}{ds:List D}(r:Reps K H w .f 0 ds vs [])(wl:WL K w H)(st:x63 H w H' w'):Reps K H' w' .f 0 ds vs []:=Reps.go wl st r (fun _ z=>nomatch z)
theorem Rep.go0{w w':Wn}{ds:D}{vs:V}(r:Rep K H w .f 0 ds vs [])(wl:WL K w H)(st:x63 H w H' w'):Rep K H' w' .f 0 ds vs []:=Rep.go wl st r (fun _ z=>nomatch z)
theorem Reps.drop0{w:Wn}:∀ {ds:List D} {vs:List V} (i:Nat),Reps K H w .f 0 ds vs []->Reps K H w .f 0 (ds.drop i) (vs.drop i) []
 | _,_,0,r=>r
 | ds,vs,i+1,r=>by
  generalize hF:([]:List Addr)=F at r
  cases r with
  | nil=>exact .nil
  | cons r s _=>
   have h2:=s.zero
   have h1:=r.zero
   subst h2
   subst h1
   exact Reps.drop0 i s
theorem Good.more{ρ:Rho}{σ:St}{w:Wn}{t:Nat}(g:Good K ρ σ H w t)(hm:Mo K H H'):Good K ρ σ H' w t/\Go H w H' w:=by
 have h:=hm.mo
 have st:x63 H w H' w:=fun a x e n=>⟨sm (h a x e),n⟩
 have kp:∀ a o,w a=some o->H' a=H a:=fun a o e=>by
  obtain⟨vs,q⟩:=g.wl a o e
  rw[q,h a _ q]
 refine⟨⟨⟨fun a o e=>?_,hm.tb g.wl.tb⟩,g.ws,g.wt,g.len,fun i d q e=>?_⟩,st,fun a o e _=>⟨kp a o e,e⟩⟩
 ·obtain⟨vs,q⟩:=g.wl a o e
  exact⟨vs,h a _ q⟩
 ·obtain⟨v,F,h1,h2⟩:=g.slot i d q e
  exact⟨v,F,h1,Rep.go g.wl st h2 fun a m=>⟨kp a _ (h2.owns a m),h2.owns a m⟩⟩
theorem x1t{iter:Expr}{body:List Stmt}{it:y6n}{pt:x8u}{s:x1g}{pos:Pos}(hp:PassesOwn (model X.prog X.w) X.A X.env X.xe)(hc:X.calm=true)(hi:QDI X tg iter it)(hg:QDG X 0 tg pt)(hb:QDSs X body s)(hs:∀ x,foldedSetIterable iter X.env x=pure x:=by intro _;rfl):QDS X (.For tg iter body [] pos) (x7p it pt s):=⟨have hi:=hi.o;have hg:=hg.o;have hb:=hb.o;PS.imp (z8p hp hc hi hg hb hs) fun D σ H hh0=>by
 obtain⟨ρ,w,o,g,ee,k⟩:=hh0
 unfold x7p at ee
 split at ee
 ·rename_i ds ρ1 h1
  refine⟨ρ,w,0,ds,ρ1,g,h1,fun J P H1 w1 g1 go1 ok p1 hl=>?_⟩
  refine⟨fun i m σ' H'=>m=ds.length-i/\i<=ds.length/\σ'.length=σ.length/\∃ ρ' w',Good X.K ρ' σ' H' w' 0/\P H' w'/\y09 pt s (ds.drop i) ρ'=some o/\y0h X.K D σ.length H' w' o,
   ⟨ds.length,by simp,Zb _,rfl,ρ1,w1,g1,p1,ee,k.trans go1⟩,?_⟩
  rintro i m σ' H' ⟨rfl,hile,hσ,ρ',w',g',p',e',k'⟩
  by_cases hlt:i<ds.length
  ·refine .inr ⟨ok.go i H' w' p' hlt,fun σ2 H2=>ds.length-(i+1)=ds.length-(i+1)/\i+1<=ds.length/\σ2.length=σ.length/\∃ ρ2 w2,Good X.K ρ2 σ2 H2 w2 0/\P H2 w2/\y09 pt s (ds.drop (i+1)) ρ2=some o/\y0h X.K D σ.length H2 w2 o,
    fun σ2 H2 n2=>⟨ds.length-(i+1),by omega,n2⟩,fun x H2 hy=>?_⟩
   obtain⟨mo,rx,p2⟩:=ok.yld i H' w' x H2 ds[i] p' g'.wl (Qa hlt) hy
   obtain⟨g2,go2⟩:=g'.more mo
   have ed:ds.drop i=ds[i]::ds.drop (i+1):=YV hlt
   rw[ed]at e'
   unfold y09 at e'
   split at e'
   ·cases e'
   ·rename_i ρ3 h3
    refine⟨ds[i],ρ',w',0,ρ3,g2,rx,h3,fun σ4 H4 w4 l4 _ g4 go4=>?_⟩
    have p4:=ok.st _ _ _ _ p2 g2.wl go4.stab
    have nx:∀ {ρ5:Rho},y09 pt s (ds.drop (i+1)) ρ5=some o->∀ σ5 H5 w5,σ5.length=σ4.length->Good X.K ρ5 σ5 H5 w5 0->Go H4 w4 H5 w5->ds.length-(i+1)=ds.length-(i+1)/\i+1<=ds.length/\σ5.length=σ.length/\∃ ρ2 w2,Good X.K ρ2 σ5 H5 w2 0/\P H5 w2/\y09 pt s (ds.drop (i+1)) ρ2=some o/\y0h X.K D σ.length H5 w2 o:=fun {ρ5} e5 σ5 H5 w5 l5 g5 go5=>
     ⟨rfl,hlt,by rw[l5,l4,hσ],ρ5,w5,g5,ok.st _ _ _ _ p4 g4.wl go5.stab,e5,k'.trans ((go2.trans go4).trans go5)⟩
    cases h6:s ρ3 with
    | none=>rw[h6]at e';cases e'
    | some o6=>
     rw[h6]at e'
     refine⟨ρ3,w4,o6,g4,h6,?_⟩
     cases o6 with
     | nx ρ5=>exact nx e'
     | ct ρ5=>exact nx e'
     | bk ρ5=>
      cases e'
      exact fun σ5 H5 w5 l5 g5 go5=>k' σ5 H5 w5 (by rw[l5,l4,hσ]) g5 ((go2.trans go4).trans go5)
     | rt d q=>
      cases e'
      exact fun v H5 w5 F wl5 go5 r5=>k' v H5 w5 F wl5 ((go2.trans go4).trans go5) r5
  ·have hi':i=ds.length:=Nat.le_antisymm hile (Nat.not_lt.mp hlt)
   subst hi'
   refine .inl ⟨ok.stop H' w' p',?_⟩
   have ed:ds.drop ds.length=[]:=by simp
   rw[ed]at e'
   cases e'
   exact k' σ' H' w' hσ g' Go.refl
 ·cases ee⟩
@[simp] def x8i (n:Nat)(ds:List D):Rho:=ds.map (fun d=>some (d,y0a d))++List.replicate (n-ds.length) none
@[simp] def fnD (n:Nat)(body:x1g):List D->OD:=fun ds=>match body (x8i n ds)with
 | some (.rt d q)=>some (d,q)
 | some (.nx _)=>some (.non,9)
 | _=>none
theorem y10{w:Wn}{ds:List D}(hw:∀ a o,w a=some o->o=.f)(wl:WL K w H)(r:Reps K H w .f 0 ds vs []):Good K (x8i N.length ds) (start N vs) H w 0:=by
 refine⟨wl,(fun a i e=>by cases (hw a _ e)),(fun a i e=>by cases (hw a _ e)),?_,fun i d q e=>?_⟩
 ·unfold x8i L2.start
  rw[Qw,Qw,Qc,Qc,Zy,Zy,r.length]
 ·unfold x8i at e
  by_cases hi:i<ds.length
  ·rw[QS (by simpa using hi),Ql]at e
   cases h:ds[i]? with
   | none=>rw[h]at e;cases e
   | some d'=>
    rw[h]at e
    cases e
    obtain⟨v,hv,rv⟩:=r.get h
    refine⟨v,[],?_,(rv.any wl:Rep K H w (.s i) 0 d v []).dep⟩
    unfold L2.start
    rw[QS (by rw[Qc,<- r.length];exact hi),Ql,hv]
    rfl
  ·rw[Zm (by simpa using hi),ZS]at e
   split at e<;>cases e
theorem z35{body:x1g}{Q:VK}(h:spD K n (fnD N.length body) vs H Q E):tDS K body { nx:=fun _ H'=>Q .non H',rt:=Q } (start N vs) H:=by
 obtain⟨hn,ds,w,r,q,hw,wl,rs,e,k⟩:=h
 unfold fnD at e
 split at e
 ·rename_i d q' h1
  cases e
  exact⟨_,w,_,y10 hw wl rs,h1,fun v H' w' F wl' go' r'=>k v H' w' F go' wl' r'⟩
 ·rename_i ρ' h1
  cases e
  exact⟨_,w,_,y10 hw wl rs,h1,fun σ' H' w' _ g' go'=>k .non H' w' [] go' g'.wl .non⟩
 ·cases e
theorem z81{P:Program}{wd:World}{mg:Str->Option Value}{base:Heap}{x qual:Str}{st:Stmt}{f:Addr}{k:Nat}{body:x1g}(F:Fun K x qual st f fd)(S:FnScope N ps (x0c st))
  (h:∀ (cdv:Value) (A:Around) (outer:List Env) (s:Shared) (H:Hp) (E:XK),Room k (A.deeper (envOfC qual (x0c st) s.heap.objs.size f cdv))->j1f (y7u CX0 P wd K mg base N qual (x0c st) f cdv A outer s H E).nox (x2x st) body) :
  FnOk P wd K mg base CX0 (k+1) f fd ps (spD K ps.length (fnD N.length body)):=
 F.ok S (fun vs H Q E h=>h.1) fun cdv A outer s H vs Q E hr hsp=>⟨_,h cdv A outer s H E hr,z35 hsp⟩
def x5a (k:Nat)(pt:x8u)(tt:x4x)(te:Den)(deep:Bool):List D->Rho->Option (List D×Rho)
 | [],ρ=>some ([],ρ)
 | d::ds,ρ=>match pt d (ρ++List.replicate k none)with
  | none=>none
  | some ρ1=>match tt ρ1 with
   | none=>none
   | some (b,ρ2)=>if b=true then(match te ρ2 with
     | none=>none
     | some (v,q,ρ3)=>if deep=true/\v.isL=true/\q≠1 then none else match x5a k pt tt te deep ds (ρ3.take ρ.length)with
      | none=>none
      | some (vs,ρ4)=>some (v::vs,ρ4))
    else x5a k pt tt te deep ds (ρ2.take ρ.length)
@[simp] def x2r (k:Nat)(it:y6n)(pt:x8u)(tt:x4x)(te:Den)(deep:Bool):Den:=fun ρ=>match it ρ with
 | some (ds,ρ1)=>match x5a k pt tt te deep ds ρ1 with
  | some (vs,ρ2)=>some (.lst vs,if deep=true then 2 else 1,ρ2)
  | none=>none
 | none=>none
@[simp] def x2d:x4x:=fun ρ=>some (true,ρ)
theorem Good.ext{ρ:Rho}{σ:St}{w:Wn}{t:Nat}(g:Good K ρ σ H w t)(k:Nat):Good K (ρ++List.replicate k none) (σ++List.replicate k none) H w t:=by
 refine⟨g.wl,fun a i e=>by rw[Qw];exact Qv (g.ws a i e) (Yh _ _),g.wt,by rw[Qw,Qw,Zy,Zy,g.len],fun i d q e=>?_⟩
 by_cases hi:i<ρ.length
 ·rw[QS hi]at e
  obtain⟨v,F,h1,h2⟩:=g.slot i d q e
  exact⟨v,F,by rw[QS (by rw[<- g.len];exact hi)];exact h1,h2⟩
 ·rw[Zm (by omega),ZS]at e
  split at e<;>cases e
def x2z (n:Nat)(w:Wn):Wn:=fun a=>match w a with
 | some (.s i)=>if n<=i then none else some (.s i)
 | x=>x
theorem y2b{w:Wn}(h:w a=none):x2z n w a=none:=by unfold x2z;rw[h]
theorem y4p{w:Wn}(h:w a=some (.s i))(hi:i<n):x2z n w a=some (.s i):=by unfold x2z;rw[h];exact Qk (by omega)
theorem y4y{w:Wn}{o:Ow}(h:w a=some o)(hn:∀ i,o ≠ .s i):x2z n w a=some o:=by
 unfold x2z;rw[h]
 cases o with
 | s i=>exact absurd rfl (hn i)
 | t i=>rfl
 | f=>rfl
theorem x4q{w:Wn}{o:Ow}(h:x2z n w a=some o):w a=some o/\∀ i,o=.s i->i<n:=by
 unfold x2z at h
 cases e:w a with
 | none=>rw[e]at h;cases h
 | some o'=>
  rw[e]at h
  cases o' with
  | t i=>cases h;exact⟨rfl,fun i z=>nomatch z⟩
  | f=>cases h;exact⟨rfl,fun i z=>nomatch z⟩
  | s i=>
   dsimp only at h
   split at h
   ·cases h
   ·cases h;exact⟨rfl,fun j z=>by cases z;omega⟩
theorem Good.cut{ρ:Rho}{σ τ:St}{w:Wn}{t:Nat}(g:Good K ρ (σ++τ) H w t):Good K (ρ.take σ.length) σ H (x2z σ.length w) t/\Go H w H (x2z σ.length w):=by
 have st:x63 H w H (x2z σ.length w):=fun a x h n=>⟨sm h,y2b n⟩
 refine⟨⟨⟨fun a o e=>g.wl a o (x4q e).1,g.wl.tb⟩,fun a i e=>(x4q e).2 i rfl,fun a i e=>g.wt a i (x4q e).1,?_,fun i d q e=>?_⟩,⟨st,fun a o e n=>⟨rfl,y4y e n⟩⟩⟩
 ·rw[Q3,g.len,Qw]
  omega
 ·by_cases hi:i<σ.length
  ·rw[ZQ hi]at e
   obtain⟨v,F,h1,h2⟩:=g.slot i d q e
   rw[QS hi]at h1
   exact⟨v,F,h1,Rep.go g.wl st h2 fun a m=>⟨rfl,y4p (h2.owns a m) hi⟩⟩
  ·rw[YL (by omega)]at e
   cases e
theorem j1v{σ σ' τ:St}(l:σ'.length=(σ++τ).length)(h:∀ i,i<σ.length->σ'[i]? = (σ++τ)[i]?):∃ τ',σ'=σ++τ'/\τ'.length=τ.length:=by
 refine⟨σ'.drop σ.length,?_,by rw[ZN,l,Qw];omega⟩
 have e:σ'.take σ.length=σ:=by
  apply Zx
  intro i
  by_cases hi:i<σ.length
  ·rw[ZQ hi,h i hi,QS hi]
  ·rw[YL (by omega),QF (by omega)]
 conv=>lhs;rw[<- Ye σ.length σ',e]
def dq (deep:Bool):Nat:=if deep=true then 1 else 0
def x5y (deep:Bool)(t:Nat)(w:Wn):Wn:=fun a=>if w a=some (.t (t+1))then(if deep=true then some (.t t)else none)else w a
theorem j42{ρ:Rho}{σ:St}{w:Wn}{t q:Nat}{d:D}(g:Good K ρ σ H w (t+2))(r:Rep K H w (.t (t+1)) q d v F)(hq:¬ (deep=true/\d.isL=true/\q≠1)) :
  Good K ρ σ H (x5y deep t w) (t+1)/\(∃ F',Rep K H (x5y deep t w) (.t t) (dq deep) d v F'/\∀ a∈F',w a=some (.t (t+1)))/\x63 H w H (x5y deep t w)/\(∀ a o,w a=some o->o ≠ .t (t+1)->x5y deep t w a=some o):=by
 have hN:∀ a,w a=none->x5y deep t w a=none:=fun a e=>by unfold x5y;rw[e];rfl
 have hO:∀ a o,w a=some o->o ≠ .t (t+1)->x5y deep t w a=some o:=fun a o e n=>by
  unfold x5y
  rw[Qk (by rw[e];exact fun z=>n (QC z))]
  exact e
 have hI:∀ a o,x5y deep t w a=some o->(w a=some (.t (t+1))/\o=.t t)\/(w a=some o/\o ≠ .t (t+1)):=fun a o e=>by
  unfold x5y at e
  split at e
  ·split at e
   ·cases e;exact .inl ⟨by assumption,rfl⟩
   ·cases e
  ·rename_i n;exact .inr ⟨e,fun z=>n (by rw[e,z])⟩
 have st:x63 H w H (x5y deep t w):=fun a x h n=>⟨sm h,hN a n⟩
 refine⟨⟨⟨fun a o e=>?_,g.wl.tb⟩,fun a i e=>?_,fun a i e=>?_,g.len,fun i d' q' e'=>?_⟩,?_,st,hO⟩
 ·rcases hI a o e with⟨z,_⟩|⟨z,_⟩<;>exact g.wl a _ z
 ·rcases hI a _ e with⟨_,z⟩|⟨z,_⟩
  ·cases z
  ·exact g.ws a i z
 ·rcases hI a _ e with⟨_,z⟩|⟨z,n⟩
  ·cases z;exact Zv _
  ·have:=g.wt a i z
   have:i≠t+1:=fun z=>n (by rw[z])
   omega
 ·obtain⟨v',F',h1,h2⟩:=g.slot i d' q' e'
  exact⟨v',F',h1,Rep.go g.wl st h2 fun a m=>⟨rfl,hO a _ (h2.owns a m) (fun z=>nomatch z)⟩⟩
 ·cases deep with
  | false=>
   refine⟨[],Rep.freeze hN r fun a m=>?_,fun _ z=>nomatch z⟩
   unfold x5y
   rw[Qj (r.owns a m)]
   rfl
  | true=>
   have hT:∀ a,w a=some (.t (t+1))->x5y true t w a=some (.t t):=fun a e=>by unfold x5y;rw[Qj e];rfl
   cases hl:d.isL with
   | false=>
    obtain⟨_,hr⟩:=r.nolist hl
    exact⟨[],Rep.go g.wl st (hr 1) (fun _ z=>nomatch z),fun _ z=>nomatch z⟩
   | true=>
    have:q=1:=by
     by_cases h:q=1
     ·exact h
     ·exact absurd ⟨rfl,hl,h⟩ hq
    subst this
    exact⟨F,Rep.go g.wl st r fun a m=>⟨rfl,hT a (r.owns a m)⟩,r.owns⟩
theorem z9e{ρ:Rho}{σ:St}{w1:Wn}{t q:Nat}{ds:List D}(g:Good K ρ σ H1 w1 (t+1))(hp:H1 p=none)(r:Reps K H1 w1 (.t t) q ds vs F) :
  Good K ρ σ (upd H1 p (.lst vs)) (y5e p (.t t) w1) (t+1)/\Go H1 w1 (upd H1 p (.lst vs)) (y5e p (.t t) w1)/\Rep K (upd H1 p (.lst vs)) (y5e p (.t t) w1) (.t t) (q+1) (.lst ds) (.ref p) (p::F):=by
 have ne:∀ a x,H1 a=some x->a≠p:=fun a x e=>x0r e hp
 have nw:∀ a o,w1 a=some o->a≠p:=fun a o e=>by obtain⟨vs,q⟩:=g.wl a o e;exact ne a _ q
 have st:x63 H1 w1 (upd H1 p (.lst vs)) (y5e p (.t t) w1):=fun a x e n=>⟨sm (by rw[x0e (ne a x e)];exact e),by rw[x1s (ne a x e)];exact n⟩
 refine⟨⟨⟨fun a o e=>?_,g.wl.tb.upd rfl (.inl hp)⟩,fun a i e=>?_,fun a i e=>?_,g.len,fun i d q e=>?_⟩,⟨st,fun a o e _=>⟨x0e (nw a o e),(x1s (nw a o e)).trans e⟩⟩,?_⟩
 ·by_cases h:a=p
  ·subst h;exact⟨.l vs,x0y⟩
  ·rw[x1s h]at e
   obtain⟨us,q⟩:=g.wl a o e
   exact⟨us,by rw[x0e h];exact q⟩
 ·by_cases h:a=p
  ·subst h;rw[x2v]at e;cases e
  ·rw[x1s h]at e;exact g.ws a i e
 ·by_cases h:a=p
  ·subst h;rw[x2v]at e;cases e;exact Zv _
  ·rw[x1s h]at e;exact g.wt a i e
 ·obtain⟨v,F,h1,h2⟩:=g.slot i d q e
  exact⟨v,F,h1,Rep.go g.wl st h2 fun a m=>⟨x0e (nw a _ (h2.owns a m)),(x1s (nw a _ (h2.owns a m))).trans (h2.owns a m)⟩⟩
 ·exact .own x0y x2v (Reps.go g.wl st r fun a m=>⟨x0e (nw a _ (r.owns a m)),(x1s (nw a _ (r.owns a m))).trans (r.owns a m)⟩) fun m=>absurd rfl (nw p _ (r.owns p m))
theorem y1c{k:Nat}{it:y6n}{pt:x8u}{tt:x4x}{te:Den}:∀ σ H Q,tD K (x2r k it pt tt te deep) σ H Q->z2u k (tDI K it) (tDG K σ.length pt) (tDT K tt) (tD K te) σ H Q:=fun σ H Q hh0=>by
 obtain⟨ρ,w,t,r',q,ρ',g,ee,kk⟩:=hh0
 unfold x2r at ee
 split at ee
 ·rename_i ds ρ1 h1
  split at ee
  ·rename_i all ρ2 h2
   cases ee
   refine⟨ρ,w,t,ds,ρ1,g,h1,fun J P H1 w1 g1 go1 ok p1 hl=>?_⟩
   refine⟨fun i m ys H'=>m=ds.length-i/\i<=ds.length/\ys.length<=i/\∃ ρ3 w3 zs F x2o,Good K ρ3 σ H' w3 (t+1)/\Go H w H' w3/\P H' w3/\Reps K H' w3 (.t t) (dq deep) zs ys F /\
     x5a k pt tt te deep (ds.drop i) ρ3=some (x2o,ρ')/\zs++x2o=all,
    ⟨ds.length,by simp,Zb _,Qi _,ρ1,w1,[],[],all,g1.up,go1,p1,.nil,h2,rfl⟩,?_⟩
   rintro i m ys H' ⟨rfl,hile,hys,ρ3,w3,zs,F,x2o,g0,go0,p0,rz0,e3,ez⟩
   have hsz:ys.length<sizeLine:=by omega
   refine⟨ZP hsz,?_⟩
   by_cases hlt:i<ds.length
   ·refine .inr ⟨ok.go i H' w3 p0 hlt,hsz,fun x H2 hy=>?_⟩
    obtain⟨mo,rx,p3⟩:=ok.yld i H' w3 x H2 ds[i] p0 g0.wl (Qa hlt) hy
    obtain⟨g3,go2⟩:=g0.more mo
    have go3:=go0.trans go2
    have rz:=rz0.gone g0.wl go2
    have ed:ds.drop i=ds[i]::ds.drop (i+1):=YV hlt
    rw[ed]at e3
    unfold x5a at e3
    split at e3
    ·cases e3
    ·rename_i ρ4 h4
     split at e3
     ·cases e3
     ·rename_i b ρ5 h5
      have gx:=g3.ext k
      have lρ:ρ3.length=σ.length:=g3.len
      refine⟨ds[i],_,w3,t+1,ρ4,gx,rx,h4,fun σ4 H4 w4 l4 s4 g4 go4=>?_⟩
      obtain⟨τ,rfl,lτ⟩:=j1v l4 s4
      refine⟨⟨τ,rfl,by rw[lτ,Zy]⟩,ρ4,w4,t+1,b,ρ5,g4,h5,fun H5 w5 g5 go5=>?_⟩
      have p5:=ok.st _ _ _ _ (ok.st _ _ _ _ p3 g3.wl go4.stab) g4.wl go5.stab
      have z5:Reps K H5 w5 (.t t) (dq deep) zs ys F:=(rz.gone g3.wl go4).gone g4.wl go5
      cases b with
      | false=>
       rw[Qk (by decide)]at e3
       dsimp only
       rw[Qk (by decide)]
       obtain⟨gc,goc⟩:=g5.cut
       rw[lρ]at e3
       refine⟨ds.length-(i+1),by omega,rfl,hlt,by omega,_,_,zs,F,x2o,gc,(go3.trans go4).trans (go5.trans goc),ok.st _ _ _ _ p5 g5.wl goc.stab,z5.gone g5.wl goc,e3,ez⟩
      | true=>
       rw[Qj rfl]at e3
       dsimp only
       rw[Qj rfl]
       split at e3
       ·cases e3
       ·rename_i d6 q6 ρ6 h6
        split at e3
        ·cases e3
        ·rename_i hq6
         split at e3
         ·cases e3
         ·rename_i vs7 ρ7 h7
          cases e3
          refine⟨ρ5,w5,t+1,d6,q6,ρ6,g5,h6,fun v H6 w6 F6 g6 go6 r6=>?_⟩
          obtain⟨gs,⟨F',rs,hF'⟩,sts,hOs⟩:=j42 g6 r6 hq6
          obtain⟨gc,goc⟩:=gs.cut
          rw[lρ]at h7
          have zs6:=z5.gone g5.wl go6
          have zF:∀ a∈F,w6 a=some (.t t):=zs6.owns
          have zs7:Reps K H6 (x5y deep t w6) (.t t) (dq deep) zs ys F:=Reps.go g6.wl sts zs6 fun a m=>⟨rfl,hOs a _ (zF a m) (by intro z;cases z)⟩
          have gos:Go H w H6 (x5y deep t w6):=by
           have go:Go H w H6 w6:=(go3.trans go4).trans (go5.trans go6)
           refine⟨go.stab.trans sts,fun a o h n=>⟨(go.keep a o h n).1,hOs a o (go.keep a o h n).2 fun z=>?_⟩⟩
           subst z
           have:=g.wt a _ h
           omega
          refine⟨ds.length-(i+1),by omega,rfl,hlt,by rw[Qw];simp;omega,_,_,zs++[d6],F++F',vs7,gc,gos.trans goc,ok.st _ _ _ _ (ok.st _ _ _ _ p5 g5.wl go6.stab |> fun q=>ok.st _ _ _ _ q g6.wl sts) gs.wl goc.stab,
           ?_,h7,by rw[Jz];exact ez⟩
          refine(Reps.snoc rs zs7 fun a m m'=>?_).gone gs.wl goc
          have h1:=zF a m
          rw[hF' a m']at h1
          cases h1
   ·have hi':i=ds.length:=Nat.le_antisymm hile (Nat.not_lt.mp hlt)
    subst hi'
    refine .inl ⟨ok.stop H' w3 p0,fun p hp=>?_⟩
    have ed:ds.drop ds.length=[]:=by simp
    rw[ed]at e3
    cases e3
    rw[Z5]at ez
    subst ez
    obtain⟨a1,a2,a3⟩:=z9e g0 hp rz0
    refine kk _ _ _ (p::F) a1 (go0.trans a2) ?_
    cases deep<;>exact a3
  ·cases ee
 ·cases ee
section
variable {X:Cx}{k:Nat}{N':List Str}{scope:Scope}{elt tg iter:Expr}{ifs:List Expr}{pos:Pos}{it:y6n}{pt:x8u}{tt:x4x}{te:Den}
abbrev j4g (X:Cx)(ifs:List Expr)(f:x4x):Prop:=PTs X ifs (tDT X.K f)
structure QDTs (X:Cx) (e:List Expr) (f:x4x):Prop where mk::o:j4g X e f
theorem x2a:QDTs X [] x2d:=⟨fun pins s σ H Q I hh0=>by
 obtain⟨ρ,w,t,b,ρ',gd,ee,k⟩:=hh0
 cases ee
 exact z7f pins s σ H Q I (k H w gd Go.refl)⟩
theorem x94{c:Expr}{g:x4x}(h:QDT X c g):QDTs X [c] g:=⟨have h:=h.o;z68 h⟩
theorem x3e(deep:Bool)(hc:X.calm=true)(S:CompOk X k N' scope)(hi:QDI X tg iter it)(hg:∀ C s H fp,QDG (x27 X N' scope C s H fp) X.N.length tg pt)(ht:∀ C s H fp,QDTs (x27 X N' scope C s H fp) ifs tt)(he:∀ C s H fp,QD (x27 X N' scope C s H fp) elt te)(hs:∀ x,foldedSetIterable iter X.env x=pure x:=by intro _;rfl):QD X (.ListComp elt [⟨tg,iter,ifs,0⟩] scope pos) (x2r k it pt tt te deep):=⟨have hi:=hi.o;have hg:=fun C s H fp=>(hg C s H fp).o;have ht:=fun C s H fp=>(ht C s H fp).o;have he:=fun C s H fp=>(he C s H fp).o;by
 intro pins s σ H Q I h
 have:=y1c σ H Q h
 rw[I.len]at this
 exact z7h (N':=N') hc S hi hg ht he hs pins s σ H Q I this⟩
theorem x73{y:Str}{py spos:Pos}(deep:Bool)(hN:X.N.Nodup)(hy:X.N[i]? = some y)(hx:Loc X.env.scope y)(hsw:swapsWith (.ListComp elt [⟨tg,iter,ifs,0⟩] scope pos) (some (.Name y py)) spos.line X.env=pure true)(hc:X.calm=true)(S:CompOk X k N' scope)(hi:QDI X tg iter it)(hg:∀ C s H fp,QDG (x27 X N' scope C s H fp) X.N.length tg pt)(ht:∀ C s H fp,QDTs (x27 X N' scope C s H fp) ifs tt)(he:∀ C s H fp,QD (x27 X N' scope C s H fp) elt te)(hs:∀ x,foldedSetIterable iter X.env x=pure x:=by intro _;rfl)(hf:X.fn y=true\/X.env.scope.names.lookup y=some .local:=by first|exact .inl rfl|exact .inr rfl|assumption):QDS X (.Assign [.Name y py] (.ListComp elt [⟨tg,iter,ifs,0⟩] scope pos) spos) (x25 i (x2r k it pt tt te deep)):=⟨have hi:=hi.o;have hg:=fun C s H fp=>(hg C s H fp).o;have ht:=fun C s H fp=>(ht C s H fp).o;have he:=fun C s H fp=>(he C s H fp).o;by
 intro pins s σ H D I h
 have hl:i<σ.length:=by rw[I.len];exact(QB.mp hy).1
 refine z5g (N':=N') (te:=tD X.K te) (tt:=tDT X.K tt) (g:=tDG X.K X.N.length pt) (wi:=tDI X.K it) hN hy hx hsw hc S hi hg ht he hs hf pins s σ H D I ?_
 have z:=y84 (te:=z2u k (tDI X.K it) (tDG X.K σ.length pt) (tDT X.K tt) (tD X.K te)) hl (fun Q q=>y1c σ H Q q) h
 rw[I.len]at z
 exact z⟩
end
mutual
def toP:D->PyData
 | .non=>.none
 | .bl b=>.bool b
 | .int i=>.int i
 | .str x=>.str x
 | .tup ds=>.tuple (x7q ds)
 | .lst ds=>.list (x7q ds)
 | .dic _ _=>.none
 | .exc _=>.none
 | .ob _ _ _ _=>.none
 | .mp _ _=>.none
def x7q:List D->List PyData
 | []=>[]
 | d::ds=>toP d::x7q ds
end
mutual
def x6s:D->Bool
 | .dic _ _=>false
 | .exc _=>false
 | .ob _ _ _ _=>false
 | .mp _ _=>false
 | .tup ds=>x9f ds
 | .lst ds=>x9f ds
 | _=>true
def x9f:List D->Bool
 | []=>true
 | d::ds=>x6s d&&x9f ds
end
def okD (d:D):Bool:=x6s d&&SeqAt.shaped (toP d)
theorem y2t{d:D}(h:okD d=true):x6s d=true:=(Zu.mp h).1
theorem y3g{d:D}(h:okD d=true):SeqAt.shaped (toP d)=true:=(Zu.mp h).2
def eqD (d e:D):Bool:=PyData.eqv (toP d) (toP e)
section
variable {X:Cx}{pins:List (Addr×Obj)}{σ:St}{H:Hp}{s:Shared}
theorem Rep.reads(I:Inv X pins σ H s){w:Wn}{o:Ow}:∀ {q:Nat} {d:D} {v:V} {F:List Addr} {u:Value},Rep X.K H w o q d v F->x2p v u->x6s d=true->∃ as,Reads s.heap u (toP d) as:=by
 intro q d v F u r
 refine(Rep.rec (motive_1:=fun q d v F _=>∀ u,x2p v u->x6s d=true->∃ as,Reads s.heap u (toP d) as) (motive_2:=fun q ds vs F _=>∀ us,x1w vs us->x9f ds=true->∃ as,ReadsAll s.heap us (x7q ds) as) ?_ ?_ ?_ ?_ ?_ ?_ ?_ ?_ ?_ ?_ ?_ ?_ ?_ ?_ ?_ r:∀ u,x2p v u->x6s d=true->∃ as,Reads s.heap u (toP d) as) u
 ·intro q u ru hn;cases ru;exact⟨_,by unfold toP;exact .none⟩
 ·intro q b u ru hn;cases ru;exact⟨_,by unfold toP;exact .bool b⟩
 ·intro q i u ru hn;obtain⟨t,rfl⟩:=ru;exact⟨_,by unfold toP;exact .int i t⟩
 ·intro q x u ru hn;obtain⟨t,rfl⟩:=ru;exact⟨_,by unfold toP;exact .str x t⟩
 ·intro q a vs ds h r ih u ru hn
  cases ru
  obtain⟨its,rv,p,hz⟩:=I.tuple (SqT.of h)
  obtain⟨as,ra⟩:=ih its rv (by unfold x6s at hn;exact hn)
  obtain⟨ob,ho,hc,n,hd⟩:=p
  exact⟨_,by unfold toP;exact .tuple ho hc hd ra⟩
 ·intro q a ks vs ds h e r ih u ru hn;cases hn
 ·intro q a nm ob v h x n u ru hn;cases hn
 ·intro q f c fo oc u1 u2 vs ds h1 h2 x r ih u ru hn;cases hn
 ·intro a vs ds h r ih u ru hn
  cases ru
  obtain⟨its,rv,p,hz⟩:=I.list h.sq
  obtain⟨as,ra⟩:=ih its rv (by unfold x6s at hn;exact hn)
  obtain⟨ob,ho,hc,n,hd⟩:=p.isList
  exact⟨_,by unfold toP;exact .list ho hc hd ra⟩
 ·intro a vs ds h n0 r ih u ru hn
  cases ru
  obtain⟨its,rv,p,hz⟩:=I.list (.inl h)
  obtain⟨as,ra⟩:=ih its rv (by unfold x6s at hn;exact hn)
  obtain⟨ob,ho,hc,n,hd⟩:=p.isList
  exact⟨_,by unfold toP;exact .list ho hc hd ra⟩
 ·intro q a vs ds F h e r ne ih u ru hn
  cases ru
  obtain⟨its,rv,p,hz⟩:=I.list (SqL.of h)
  obtain⟨as,ra⟩:=ih its rv (by unfold x6s at hn;exact hn)
  obtain⟨ob,ho,hc,n,hd⟩:=p.isList
  exact⟨_,by unfold toP;exact .list ho hc hd ra⟩
 ·intro a vs ds k x h i e l r ih u ru hn;cases hn
 ·intro q a vs ds k x h i e l r ih u ru hn;cases hn
 ·intro q us ru hn;cases ru;exact⟨_,by unfold x7q;exact .nil⟩
 ·intro q d v ds vs F G r s' ne ih1 ih2 us ru hn
  cases ru with
  | cons rv rvs=>
   unfold x9f at hn
   obtain⟨as,ra⟩:=ih1 _ rv (Zu.mp hn).1
   obtain⟨bs,rb⟩:=ih2 _ rvs (Zu.mp hn).2
   exact⟨_,by unfold x7q;exact .cons ra rb⟩
end
def Is (K:PySem.W.Frag)(H:Hp)(d:D)(v:V):Prop:=∃ w o q F,Rep K H w o q d v F
def j31 (K:PySem.W.Frag):R2:=fun x y H Q=>∃ d e,Is K H d x/\Is K H e y/\okD d=true/\okD e=true/\Q (.bl (eqD d e)) H
def j3c (K:PySem.W.Frag):R2:=fun x y H Q=>∃ d e,Is K H d x/\Is K H e y/\okD d=true/\okD e=true/\Q (.bl (!eqD d e)) H
def inD (d:D):D->Option Bool
 | .lst ds=>some ((x7q ds).any fun y=>PyData.eqv y (toP d))
 | .tup ds=>some ((x7q ds).any fun y=>PyData.eqv y (toP d))
 | _=>none
def j39 (K:PySem.W.Frag)(neg:Bool):R2:=fun x y H Q=>∃ d e b,Is K H d x/\Is K H e y/\okD d=true/\okD e=true/\inD d e=some b/\Q (.bl (if neg then !b else b)) H
section
variable {X:Cx}{a b c e:Expr}{fa fb fc f:Den}{pos:Pos}
theorem z49(hu:X.A.units+64<cLine):OpR X (compareOp .Eq) (j31 X.K):=by
 intro pins s σ H x y v u Q I rx ry ⟨d,e,⟨w,o,q,F,h1⟩,⟨w',o',q',F',h2⟩,k1,k2,hq⟩
 obtain⟨as,ra⟩:=h1.reads I rx (y2t k1)
 obtain⟨bs,rb⟩:=h2.reads I ry (y2t k2)
 exact eq_dataH ra rb (y3g k1) (y3g k2) hu ⟨.bl _,H,I,rfl,hq⟩
theorem j06(hu:X.A.units+64<cLine):OpR X (compareOp .NotEq) (j3c X.K):=by
 intro pins s σ H x y v u Q I rx ry ⟨d,e,⟨w,o,q,F,h1⟩,⟨w',o',q',F',h2⟩,k1,k2,hq⟩
 obtain⟨as,ra⟩:=h1.reads I rx (y2t k1)
 obtain⟨bs,rb⟩:=h2.reads I ry (y2t k2)
 exact ne_dataH ra rb (y3g k1) (y3g k2) hu ⟨.bl _,H,I,rfl,hq⟩
theorem j07(hu:X.A.units+65<cLine):OpR X (compareOp .In) (j39 X.K false):=by
 intro pins s σ H x y v u Q I rx ry ⟨d,e,b,⟨w,o,q,F,h1⟩,⟨w',o',q',F',h2⟩,k1,k2,hb,hq⟩
 obtain⟨as,ra⟩:=h1.reads I rx (y2t k1)
 obtain⟨bs,rb⟩:=h2.reads I ry (y2t k2)
 replace k1:=y3g k1
 replace k2:=y3g k2
 cases e with
 | lst ds=>
  cases hb
  unfold toP at rb k2
  exact SeqAt.in_list_reads rb ra (ZG k2) (ZG k1) (room_in_shaped k1 hu) ⟨.bl _,H,I,rfl,hq⟩
 | tup ds=>
  cases hb
  unfold toP at rb k2
  exact SeqAt.in_tuple_reads rb ra (ZG k2) (ZG k1) (room_in_shaped k1 hu) ⟨.bl _,H,I,rfl,hq⟩
 | _=>cases hb
def dEq (x y:D):Option D:=if okD x=true/\okD y=true then some (.bl (eqD x y))else none
def dNe (x y:D):Option D:=if okD x=true/\okD y=true then some (.bl (!eqD x y))else none
def dIn (x y:D):Option D:=if okD x=true/\okD y=true then(inD x y).map fun b=>.bl b else none
theorem hEq:∀ σ H Q,tD K (e2 dEq fa fb) σ H Q->tOp (j31 K) (tD K fa) (tD K fb) σ H Q:=y3z fun x y d h=>by
 unfold dEq at h
 split at h
 ·rename_i hk
  cases h
  exact⟨_,rfl,fun H w o o' q q' u u' F F' r1 r2 _ Q hq=>⟨x,y,⟨_,_,_,_,r1⟩,⟨_,_,_,_,r2⟩,hk.1,hk.2,hq⟩⟩
 ·cases h
theorem hNe:∀ σ H Q,tD K (e2 dNe fa fb) σ H Q->tOp (j3c K) (tD K fa) (tD K fb) σ H Q:=y3z fun x y d h=>by
 unfold dNe at h
 split at h
 ·rename_i hk
  cases h
  exact⟨_,rfl,fun H w o o' q q' u u' F F' r1 r2 _ Q hq=>⟨x,y,⟨_,_,_,_,r1⟩,⟨_,_,_,_,r2⟩,hk.1,hk.2,hq⟩⟩
 ·cases h
theorem hIn:∀ σ H Q,tD K (e2 dIn fa fb) σ H Q->tOp (j39 K false) (tD K fa) (tD K fb) σ H Q:=y3z fun x y d h=>by
 unfold dIn at h
 split at h
 ·rename_i hk
  cases hi:inD x y with
  | none=>rw[hi]at h;cases h
  | some b=>
   rw[hi]at h
   cases h
   exact⟨_,rfl,fun H w o o' q q' u u' F F' r1 r2 _ Q hq=>⟨x,y,b,⟨_,_,_,_,r1⟩,⟨_,_,_,_,r2⟩,hk.1,hk.2,hi,hq⟩⟩
 ·cases h
theorem z83{k:Nat}(hr:Room k X.A)(ha:QD X a fa)(hb:QD X b fb):QD X (.Compare a [.Eq] [b] pos) (e2 dEq fa fb):=⟨have ha:=ha.o;have hb:=hb.o;z8h (z49 hr.units) hEq ha hb (y6j _)⟩
theorem x8l{k:Nat}(hr:Room k X.A)(ha:QD X a fa)(hb:QD X b fb):QDT X (.Compare a [.Eq] [b] pos) (x4n (e2 dEq fa fb)):=⟨have ha:=ha.o;have hb:=hb.o;y2l (z49 hr.units) hEq ha hb (y6j _)⟩
theorem y1b{k:Nat}(hr:Room k X.A)(ha:QD X a fa)(hb:QD X b fb):QDT X (.Compare a [.NotEq] [b] pos) (x4n (e2 dNe fa fb)):=⟨have ha:=ha.o;have hb:=hb.o;y2l (j06 hr.units) hNe ha hb (y6j _)⟩
theorem u65{k:Nat}(r:Room k A):A.units+65<cLine:=by have:=r.un;omega
theorem z8u{k:Nat}(hr:Room k X.A)(ha:QD X a fa)(hb:QD X b fb)(hm:behindInMarks .In b=false:=by with_unfolding_all rfl):QDT X (.Compare a [.In] [b] pos) (x4n (e2 dIn fa fb)):=⟨have ha:=ha.o;have hb:=hb.o;y2l (j07 (u65 hr)) hIn ha hb hm⟩
end
@[simp] def eB (h:List D->Option D)(g:x47):Den:=fun ρ=>match g ρ with
 | some (ds,ρ1)=>match h ds with
  | some d=>some (d,9,ρ1)
  | none=>none
 | none=>none
section
variable {X:Cx}{a b c e:Expr}{es:List Expr}{fa fb fc f:Den}{g:x47}{pos p p1 p2:Pos}
theorem y8n{h:List D->Option D}{r:List V->Hp->VK->Prop}(hh:∀ ds d,h ds=some d->∃ v,y2i d=some v/\∀ H w vs,WL K w H->Reps K H w .f 0 ds vs []->∀ Q:VK,Q v H->r vs H Q) :
  ∀ σ H Q,tD K (eB h g) σ H Q->tCB r (tDA K g) σ H Q:=fun σ H Q hh0=>by
 obtain⟨ρ,w,t,r',q,ρ',gd,ee,k⟩:=hh0
 unfold eB at ee
 split at ee
 ·rename_i ds ρ1 h1
  split at ee
  ·rename_i d hd
   cases ee
   obtain⟨v,hv,hr⟩:=hh ds _ hd
   exact⟨ρ,w,t,ds,_,gd,h1,fun vs H1 w1 g1 go1 r1=>hr H1 w1 vs g1.wl r1 Q (k v H1 w1 [] g1.up go1 (y1y hv))⟩
  ·cases ee
 ·cases ee
theorem one{w:Wn}{o:Ow}{d:D}(r:Reps K H w o 0 [d] vs []):∃ v,vs=[v]/\Rep K H w o 0 d v []:=by
 have l:=r.length
 match vs,l with
 | [v],_=>
  obtain⟨v',h1,h2⟩:=r.get (i:=0) rfl
  cases h1
  exact⟨v,rfl,h2⟩
theorem two{w:Wn}{o:Ow}{d d':D}(r:Reps K H w o 0 [d,d'] vs []):∃ v v',vs=[v,v']/\Rep K H w o 0 d v []/\Rep K H w o 0 d' v' []:=by
 have l:=r.length
 match vs,l with
 | [v,v'],_=>
  obtain⟨u,h1,h2⟩:=r.get (i:=0) rfl
  obtain⟨u',h3,h4⟩:=r.get (i:=1) rfl
  cases h1
  cases h3
  exact⟨v,v',rfl,h2,h4⟩
def y02:D->Option Nat
 | .lst ds=>some ds.length
 | .tup ds=>some ds.length
 | _=>none
@[simp] def z4r:List D->Option D
 | [d]=>(y02 d).map fun n=>.int (Int.ofNat n)
 | _=>none
theorem Rep.len{w:Wn}{o:Ow}{q:Nat}{d:D}(r:Rep K H w o q d v F)(h:y02 d=some n):∃ p ys,v=.ref p/\(SqL K H p ys\/SqT K H p ys)/\ys.length=n:=by
 cases d with
 | lst ds=>
  cases h
  obtain⟨p,vs,q',G,rfl,hq,rs⟩:=r.seqL
  exact⟨p,vs,rfl,.inl hq,rs.length.symm⟩
 | tup ds=>
  cases h
  obtain⟨p,vs,rfl,hq,rs⟩:=r.seqT
  exact⟨p,vs,rfl,.inr hq,rs.length.symm⟩
 | _=>cases h
theorem y7v(hm:X.mg "len" = none)(ha:QDA X [a] g)(hg:Gl X "len":=by rfl)(he:starEach [a] X.env=(false,eval a X.env)::starEach [] X.env:=by rfl)(hpl:(backTo pos (starEach [] X.env)).any (·.1)=false:=by rfl):QD X (.Call (.Name "len" p) [a] [] pos) (eB z4r g):=⟨have ha:=ha.o;PE.imp (x3i x5n hg hm VJ ha (by decide) (by decide) he hpl) (y8n fun ds d h=>by
  match ds,h with
  | [d0],h=>
   cases hl:y02 d0 with
   | none=>simp only[z4r,hl,Option.map_none]at h;cases h
   | some n=>
    simp only[z4r,hl,Z7,Option.some.injEq]at h
    subst h
    refine⟨_,rfl,fun H w vs wl r Q hq=>?_⟩
    obtain⟨v,rfl,rv⟩:=one r
    obtain⟨p,ys,rfl,hs,hn⟩:=rv.len hl
    exact⟨p,ys,rfl,hs,by rw[hn];exact hq⟩)⟩
@[simp] def x1k (i:Nat):Den:=fun ρ=>match ρ[i]? with
 | some (some (d,_))=>match y02 d with
  | some n=>some (.int (Int.ofNat n),9,ρ)
  | none=>none
 | _=>none
theorem x17{x:Str}(hm:X.mg "len" = none)(h:QE X (.Name x p1) (y3s i))(hg:Gl X "len":=by rfl)(he:starEach [.Name x p1] X.env=(false,eval (.Name x p1) X.env)::starEach [] X.env:=by rfl)(hpl:(backTo pos (starEach [] X.env)).any (·.1)=false:=by rfl):QD X (.Call (.Name "len" p) [.Name x p1] [] pos) (x1k i):=⟨have h:=h.o;PE.imp (x3i x5n hg hm VJ (x3y h x65 he) (by decide) (by decide) he hpl) fun σ H Q hh0=>by
 obtain⟨ρ,w,t,r',q,ρ',gd,ee,k⟩:=hh0
 unfold x1k at ee
 split at ee
 ·rename_i d q0 e0
  split at ee
  ·rename_i n hn
   cases ee
   obtain⟨v,F,h1,h2⟩:=gd.slot i d q0 e0
   obtain⟨p,ys,rfl,hs,hl⟩:=h2.len hn
   exact⟨_,h1,p,ys,rfl,hs,by rw[hl];exact k _ H w [] gd.up Go.refl (.int _)⟩
  ·cases ee
 ·cases ee⟩
@[simp] def j19:List D->Option D
 | [.int i,.int j]=>some (.int (if j > i then j else i))
 | _=>none
theorem y8a(hc:X.calm=true)(hm:X.mg "max" = none)(hb:bootBuiltins "max" = some (.builtin "max"))(ha:QDA X (a::es) g)(hg:Gl X "max":=by rfl)(he:starEach (a::es) X.env=(false,eval a X.env)::starEach es X.env:=by rfl)(hpl:(backTo pos (starEach es X.env)).any (·.1)=false:=by rfl):QD X (.Call (.Name "max" p) (a::es) [] pos) (eB j19 g):=⟨have ha:=ha.o;PE.imp (x3i (y9g hc) hg hm hb ha (by decide) (by decide) he hpl) (y8n fun ds d h=>by
  unfold j19 at h
  split at h
  ·rename_i i j
   cases h
   refine⟨_,rfl,fun H w vs wl r Q hq=>?_⟩
   obtain⟨v,v',rfl,r1,r2⟩:=two r
   exact⟨i,j,by rw[x3l r1,x3l r2],hq⟩
  ·cases h)⟩
@[simp] def y04 (g:x47):Den:=fun ρ=>match g ρ with
 | some ([.lst ds],ρ1)=>some (.lst ds,1,ρ1)
 | some ([.tup ds],ρ1)=>some (.lst ds,1,ρ1)
 | _=>none
theorem y7z(hm:X.mg "list" = none)(hb:bootBuiltins "list" = some (.type "list"))(ha:QDA X [a] g)(hg:Gl X "list":=by rfl)(he:starEach [a] X.env=(false,eval a X.env)::starEach [] X.env:=by rfl)(hpl:(backTo pos (starEach [] X.env)).any (·.1)=false:=by rfl):QD X (.Call (.Name "list" p) [a] [] pos) (y04 g):=⟨have ha:=ha.o;PE.imp (x59 y3i hg hm hb ha (by decide) (by decide) he hpl) fun σ H Q hh0=>by
 obtain⟨ρ,w,t,r',q,ρ',gd,ee,k⟩:=hh0
 unfold y04 at ee
 split at ee
 ·rename_i ds ρ1 h1
  cases ee
  refine⟨ρ,w,t,_,_,gd,h1,fun vs H1 w1 g1 go1 r1=>?_⟩
  obtain⟨v,rfl,rv⟩:=one r1
  obtain⟨p,ys,rfl,hs,rs⟩:=rv.seqL0
  refine⟨p,ys,rfl,.inl hs,fun l hl=>?_⟩
  obtain⟨a1,a2,a3⟩:=y0k g1 hl rs
  exact k _ _ _ _ a1 (go1.trans a2) a3
 ·rename_i ds ρ1 h1
  cases ee
  refine⟨ρ,w,t,_,_,gd,h1,fun vs H1 w1 g1 go1 r1=>?_⟩
  obtain⟨v,rfl,rv⟩:=one r1
  obtain⟨p,ys,rfl,hs,rs⟩:=rv.seqT
  refine⟨p,ys,rfl,.inr hs,fun l hl=>?_⟩
  obtain⟨a1,a2,a3⟩:=y0k g1 hl rs
  exact k _ _ _ _ a1 (go1.trans a2) a3
 ·cases ee⟩
@[simp] def x2g (g:x47):Den:=fun ρ=>match g ρ with
 | some ([.lst ds],ρ1)=>some (.tup ds,9,ρ1)
 | some ([.tup ds],ρ1)=>some (.tup ds,9,ρ1)
 | _=>none
theorem x2e(hm:X.mg "tuple" = none)(hb:bootBuiltins "tuple" = some (.type "tuple"))(ha:QDA X [a] g)(hg:Gl X "tuple":=by rfl)(he:starEach [a] X.env=(false,eval a X.env)::starEach [] X.env:=by rfl)(hpl:(backTo pos (starEach [] X.env)).any (·.1)=false:=by rfl):QD X (.Call (.Name "tuple" p) [a] [] pos) (x2g g):=⟨have ha:=ha.o;PE.imp (x59 y2a hg hm hb ha (by decide) (by decide) he hpl) fun σ H Q hh0=>by
 obtain⟨ρ,w,t,r',q,ρ',gd,ee,k⟩:=hh0
 unfold x2g at ee
 split at ee
 ·rename_i ds ρ1 h1
  cases ee
  refine⟨ρ,w,t,_,_,gd,h1,fun vs H1 w1 g1 go1 r1=>?_⟩
  obtain⟨v,rfl,rv⟩:=one r1
  obtain⟨p,ys,rfl,hs,rs⟩:=rv.seqL0
  refine⟨p,ys,rfl,.inl ⟨hs,fun l hl=>?_⟩⟩
  obtain⟨a1,a2,a3⟩:=y0t g1 hl rs
  exact k _ _ _ _ a1 (go1.trans a2) a3
 ·rename_i ds ρ1 h1
  cases ee
  refine⟨ρ,w,t,_,_,gd,h1,fun vs H1 w1 g1 go1 r1=>?_⟩
  obtain⟨v,rfl,rv⟩:=one r1
  have rr:=rv
  obtain⟨p,ys,rfl,hs,rs⟩:=rv.seqT
  refine⟨p,ys,rfl,.inr ⟨hs,?_⟩⟩
  exact k _ H1 w1 [] g1.up go1 (((rr.nolist rfl).2 9).any g1.wl)
 ·cases ee⟩
def z4d (ta:TA):TE:=fun σ H Q=>ta σ H fun vs H1=>∃ j:Int,vs=[.int j] /\ -(2 ^ 62)<=j/\j<2 ^ 62/\∀ p,H1 p=none->Q (.ref p) (upd H1 p (.rng 0 j))
theorem y6f{ta:TA}(hg:Gl X "range")(hm:X.mg "range" = none)(ha:PA X [a] ta)(hs:starEach [a] X.env=[(false,eval a X.env)]:=by rfl):PE X (.Call (.Name "range" p) [a] [] pos) (z4d ta):=by
 intro pins s σ H Q I h
 refine Call_ (y1f I hg hm boot_range (ZZ (thn (ha pos pins s σ H _ I h) fun us s1 ⟨vs,H1,I1,r1,q1⟩=>?_) hs rfl))
 obtain⟨j,e,q1,q2,q⟩:=q1
 subst e
 cases r1 with
 | cons r rr=>
  cases rr
  obtain⟨t,rfl⟩:=r
  refine call_range_1 ?_
  exact⟨.ref s1.heap.objs.size,upd H1 s1.heap.objs.size (.rng 0 j),I1.laid (fun b u e=>Qb _ e) (Qi _) ⟨_,_,_,Qo _ rfl⟩,rfl,q _ (I1.hok.fresh (Qi _))⟩
end
theorem x9u{j:Int}(h1:-(2 ^ 62)<=j)(h2:j<2 ^ 62):Builtin.Range.small 0 j 1=true:=by
 have hs:Builtin.Range.rangeSize 0 j 1=((j.toNat:Nat):Int):=by
  simp[Builtin.Range.rangeSize]<;>split<;>omega
 simp only[Builtin.Range.small,hs,Builtin.Range.rangeFitsLong]
 simp
 omega
theorem y1d(j:Int):Builtin.Range.rangeSize 0 j 1=((j.toNat:Nat):Int):=by
 simp[Builtin.Range.rangeSize]<;>split<;>omega
theorem y0v{acc:Array Value}(h:ItemsOf (fun i v=>∃ t,v=Value.int (0+(i:Nat)*1) t) acc n):x1w (x8f n) acc.toList:=by
 have key:∀ (us:List Value) (k:Nat),(∀ j v,us[j]? = some v->∃ t,v=Value.int (((k+j:Nat)):Int) t)->x1w ((List.range' k us.length).map fun i=>V.int (Int.ofNat i)) us:=by
  intro us
  induction us with
  | nil=>intro k _;exact .nil
  | cons u r ih=>
   intro k hk
   obtain⟨t,e⟩:=hk 0 u rfl
   refine .cons ⟨t,by rw[e];rfl⟩ (ih (k+1) fun j v hv=>?_)
   obtain⟨t',e'⟩:=hk (j+1) v (by simpa using hv)
   exact⟨t',by rw[e'];congr 2;omega⟩
 have:=key acc.toList 0 fun j v hv=>by
  obtain⟨t,e⟩:=h.2 j v (by simpa using hv)
  exact⟨t,by rw[e];congr 1;omega⟩
 have hl:acc.toList.length=n:=by simpa using h.1
 rw[hl]at this
 unfold x8f
 rw[VL]
 exact this
section
variable {prog:Program}{w:World}{A:Around}{E:Value->Shared->Prop}{s:Shared}
open AutoSeq1 (wpAny_loadPart')
theorem y1q{Q:List Value->Shared->Prop}{r:Addr}{a:Int}{t v:Tok}(hh:A.handled=none)(hr:IsRange s.heap r a b c t u v)(hsmall:Builtin.Range.small a b c=true)(hn:Builtin.Range.rangeSize a b c=n)(hlen:n<=2 ^ 24)
  (hQ:∀ h' tk acc',(∀ b o',s.heap.get? b=some o'->h'.get? b=some o')->ItemsOf (fun i v=>∃ t,v=.int (a+i*c) t) acc' n->Q acc'.toList { s with heap:=h',toks:=tk }) :
  wpAny (model prog w) A (collect (.ref r)) Q E s:=by
 unfold collect
 refine wpAny_bind (wpAny_runValue (ZW F.entry_proto_collect ?_))
 rw[Je F.plain_proto_collect _]
 show wpAny _ A.in1 (newList [] >>= fun l=>again (.builtin "list.__iadd__" ⟨[l,.ref r],[]⟩)) _ _ s
 refine wpAny_bind (Q0 ?_)
 refine Qd ⟨plainId_quiet F.plain_list_iadd _,ZW F.entry_list_iadd ?_⟩
 rw[Je F.plain_list_iadd _]
 show wpAny _ A.in1 (Builtin.List.listExtendWith (.ref s.heap.objs.size) (.ref r) (.ref s.heap.objs.size)) _ _ _
 have hS:(s.heap.push { cls:=.type "list",data:=.seq ([]:List Value).toArray }).get? s.heap.objs.size=some { cls:=.type "list",data:=.seq #[] 0 }:=Qo _ rfl
 have fin':∀ (h':Heap) (tk:Nat) (acc':Array Value) (c':Nat),(∀ b o,b≠s.heap.objs.size->(s.heap.push { cls:=.type "list",data:=.seq ([]:List Value).toArray }).get? b=some o->h'.get? b=some o)->
   h'.get? s.heap.objs.size=some { cls:=.type "list",dict:=none,data:=.seq acc' c',slots:=#[] }->ItemsOf (fun i v=>∃ t,v=.int (a+i*c) t) acc' n->wpAny (model prog w) A (match Value.ref s.heap.objs.size with
   | Value.ref a=>do
    match (<- load a).data with
     | Data.seq xs _=>pure xs.toList
     | _=>unsupported "internal:collect"
   | _=>unsupported "internal:collect") Q E { s with heap:=h',toks:=tk }:=fun h' tk acc' c' hk hS' hacc=>by
  show wpAny _ A (load s.heap.objs.size >>= _) _ _ _
  refine wpAny_bind (wpAny_load hS' ?_)
  refine Qd (hQ h' tk acc' (fun b o' hb=>?_) hacc)
  exact hk b o' (QM (Qm hb)) (Qb _ hb)
 refine ZE (wpAny_extend_range (A:=A) (R:=fun rs s'=>rs=.ok (.ret (.ref s.heap.objs.size))/\∃ h' tk acc' c',s'={ s with heap:=h',toks:=tk }/\(∀ b o,b≠s.heap.objs.size->(s.heap.push { cls:=.type "list",data:=.seq ([]:List Value).toArray }).get? b=some o->h'.get? b=some o) /\
   h'.get? s.heap.objs.size=some { cls:=.type "list",dict:=none,data:=.seq acc' c',slots:=#[] }/\ItemsOf (fun i v=>∃ t,v=.int (a+i*c) t) acc' n)
  (s:={ s with heap:=s.heap.push { cls:=.type "list",data:=.seq ([]:List Value).toArray } }) hh (Qb _ hr) hsmall hn hlen s.heap.objs.size (.ref s.heap.objs.size) 0 hS (fun h' tk acc' c' hk hS' hacc=>⟨rfl,h',tk,acc',c',rfl,hk,hS',hacc⟩)) (fun fin s' h=>?_) (fun e s' h=>?_)
 ·cases fin with
  | done f=>
   obtain⟨e,h',tk,acc',c',rfl,hk,hS',hacc⟩:=h
   cases e
   exact fin' h' tk acc' c' hk hS' hacc
  | again c'=>exact⟨h.1,JX h.2 fun r s'' hr=>by
    obtain⟨rfl,h',tk,acc',c',rfl,hk,hS',hacc⟩:=hr
    exact fin' h' tk acc' c' hk hS' hacc⟩
 ·exact absurd h.1 (by simp)
end
theorem x57(r:Addr)(a b c:Int)(t u v:Tok)(n:Nat)(hsmall:Builtin.Range.small a b c=true)(hn:Builtin.Range.rangeSize a b c=n)(hlen:n<=2 ^ 24) :
  Meets (Builtin.«tuple.__new__» ⟨[.type "tuple",.ref r],[]⟩)
   (fun A R s=>A.handled=none/\IsRange s.heap r a b c t u v/\∀ (h':Heap) tk acc',(∀ b o',s.heap.get? b=some o'->h'.get? b=some o')->ItemsOf (fun i v=>∃ t,v=.int (a+i*c) t) acc' n->R (.ok (.ret (.ref h'.objs.size))) { s with heap:=h'.push { cls:=.type "tuple",data:=.seq acc' },toks:=tk }):=
 .of_wp fun prog w A R s h=>by
  obtain⟨hp,g,d,tk,os⟩:=s;obtain⟨hh,hr,h⟩:=h
  have hsub:=sub_tuple_self
  have hinit:=init_tuple_lookup
  have hmh:=madeHere_tuple
  have hT:Shared.TypeIs ⟨hp,g,d,tk,os⟩ (.ref r) "range":=⟨_,hr,rfl⟩
  have hh1:A.in1.handled=none:=hh
  wp_walk using AutoSeq1.wpAny_loadPart' hr,JZ hT,y1q hh1 hr hsmall hn hlen
  intro h' tk' acc' hk hacc
  show wpAny _ _ (Builtin.Tuple.tupleExact acc'.toList.toArray >>= fun v=>ret v) _ _ _
  unfold Builtin.Tuple.tupleExact
  have hsz:acc'.size<=sizeLine:=by rw[hacc.1];exact hlen
  refine wpAny_bind (Q0 ?_ (by show acc'.toList.toArray.size<=sizeLine;simpa using hsz))
  refine Qd ⟨_,rfl,?_⟩
  have e:acc'.toList.toArray=acc':=by simp
  rw[e]
  exact h h' tk' acc' hk hacc
theorem x8t{prog:Program}{w:World}{E:Value->Shared->Prop}{s:Shared}{r:Addr}{a:Int}{t v:Tok}{Q:Value->Shared->Prop}(hh:A.handled=none)(hr:IsRange s.heap r a b c t u v)(hsmall:Builtin.Range.small a b c=true)(hn:Builtin.Range.rangeSize a b c=n)(hlen:n<=2 ^ 24)
  (h:∀ (h':Heap) tk acc',(∀ b o',s.heap.get? b=some o'->h'.get? b=some o')->ItemsOf (fun i v=>∃ t,v=.int (a+i*c) t) acc' n->Q (.ref h'.objs.size) { s with heap:=h'.push { cls:=.type "tuple",data:=.seq acc' },toks:=tk }) :
  wpAny (model prog w) A (call (.type "tuple") [.ref r]) Q E s:=
 callType_new F.called_tuple (by decide) (F.typeCall_tuple_1 _) (F.newCall_tuple_1 _) (fun obj=>F.args_object_init_2 obj _) F.entry_tuple_new
  (x57 r a b c t u v n hsmall hn hlen) ⟨hh,hr,fun h' tk acc' hk hacc=>⟨⟨_,Qo _ rfl,rfl⟩,h h' tk acc' hk hacc⟩⟩
section
variable {X:Cx}
def j1w (mk:List V->HO):List V->Hp->VK->Prop:=fun xs H Q=>∃ a j,xs=[.ref a]/\H a=some (.rng 0 j) /\ -1000<=j/\j<=1000/\∀ p,H p=none->Q (.ref p) (upd H p (mk (x8f j.toNat)))
theorem y2c(hc:X.calm=true):x7b X (.type "list") (j1w .lst):=by
 intro pins s σ H xs us Q I r h
 obtain⟨a,j,rfl,hr,j1,j2,q⟩:=h
 obtain⟨u,rfl,rx⟩:=x9m r
 cases rx
 obtain⟨t,u,v,ho⟩:=(show x1q X.prog X.w H s.heap a (.rng 0 j)from I.hok a _ hr)
 refine call_list_range (I.ok.hd hc) ho (x9u (by omega) (by omega)) (y1d j) (by omega) fun h' tk acc' c' hk hS' hacc=>?_
 refine⟨.ref s.heap.objs.size,_,I.laid (t':=tk) (o:=.lst (x8f j.toNat)) hk (Qi _) ⟨by rw[y17];exact QU (by omega:j.toNat<=1000) (by decide),acc'.toList,c',y0v hacc,by simpa using hS'⟩,rfl,q _ (I.hok.fresh (Qi _))⟩
theorem y0j(hc:X.calm=true):x7b X (.type "tuple") (j1w .tup):=by
 intro pins s σ H xs us Q I r h
 obtain⟨a,j,rfl,hr,j1,j2,q⟩:=h
 obtain⟨u,rfl,rx⟩:=x9m r
 cases rx
 obtain⟨t,u,v,ho⟩:=(show x1q X.prog X.w H s.heap a (.rng 0 j)from I.hok a _ hr)
 refine x8t (I.ok.hd hc) ho (x9u (by omega) (by omega)) (y1d j) (by omega) fun h' tk acc' hk hacc=>?_
 have I1:Inv X pins σ H { s with heap:=h',toks:=tk }:=I.kept hk
 have I2:Inv X pins σ (upd H h'.objs.size (.tup (x8f j.toNat))) { s with heap:=h'.push { cls:=.type "tuple",data:=.seq acc' },toks:=tk }:=
  I1.laid (t':=tk) (fun b o e=>Qb _ e) (Qi _) (show x1q X.prog X.w _ _ _ (.tup _)from⟨by rw[y17];exact QU (by omega:j.toNat<=1000) (by decide),acc'.toList,y0v hacc,by simpa using x4e.new h' acc'⟩)
 exact⟨.ref h'.objs.size,_,I2,rfl,q _ (I1.hok.fresh (Qi _))⟩
variable {a:Expr}{g:x47}{pos p p1 pos1:Pos}
@[simp] def x8d (g:x47):Den:=fun ρ=>match x14 g ρ with
 | some (ds,ρ1)=>some (.lst ds,1,ρ1)
 | none=>none
@[simp] def z9g (g:x47):Den:=fun ρ=>match x14 g ρ with
 | some (ds,ρ1)=>some (.tup ds,9,ρ1)
 | none=>none
theorem y33{mk:List V->HO}{q0:Nat}{md:List D->D}(al:∀ {ρ:Rho} {σ:St} {H1:Hp} {w1:Wn} {t:Nat} {p:Addr} {vs:List V} {ds:List D},Good K ρ σ H1 w1 t->H1 p=none->Reps K H1 w1 .f 0 ds vs []->∃ w' F,Good K ρ σ (upd H1 p (mk vs)) w' (t+1)/\Go H1 w1 (upd H1 p (mk vs)) w'/\Rep K (upd H1 p (mk vs)) w' (.t t) q0 (md ds) (.ref p) F) :
  ∀ σ H Q,tD K (fun ρ=>match x14 g ρ with
   | some (ds,ρ1)=>some (md ds,q0,ρ1)
   | none=>none) σ H Q->tCB (j1w mk) (j05 (z4d (tDA K g)) j34) σ H Q:=fun σ H Q hh0=>by
 obtain⟨ρ,w,t,r',q,ρ',gd,ee,k⟩:=hh0
 dsimp only at ee
 split at ee
 ·rename_i ds ρ1 h1
  cases ee
  unfold x14 at h1
  split at h1
  ·rename_i n ρ2 h2
   split at h1
   ·rename_i hn
    cases h1
    refine⟨ρ,w,t,_,_,gd,h2,fun vs H1 w1 g1 go1 r1=>?_⟩
    obtain⟨v,rfl,rv⟩:=one r1
    have hv:=x3l rv
    subst hv
    refine⟨n,rfl,by omega,by omega,fun p hp=>⟨p,n,rfl,x0y,hn.1,hn.2,fun l hl=>?_⟩⟩
    have ne:∀ a x,H1 a=some x->a≠p:=fun a x e=>x0r e hp
    have st:x63 H1 w1 (upd H1 p (.rng 0 n)) w1:=fun a x e nn=>⟨sm (by rw[x0e (ne a x e)];exact e),nn⟩
    have nw:∀ a o,w1 a=some o->a≠p:=fun a o e=>by obtain⟨vs,q⟩:=g1.wl a o e;exact ne a _ q
    have g2:Good K ρ' σ (upd H1 p (.rng 0 n)) w1 t:=⟨⟨fun a o e=>by
     obtain⟨us,q⟩:=g1.wl a o e
     exact⟨us,by rw[x0e (nw a o e)];exact q⟩,g1.wl.tb.upd rfl (.inl hp)⟩,g1.ws,g1.wt,g1.len,fun i d q e=>by
     obtain⟨v,F,h1,h2⟩:=g1.slot i d q e
     exact⟨v,F,h1,Rep.go g1.wl st h2 fun a m=>⟨x0e (nw a _ (h2.owns a m)),h2.owns a m⟩⟩⟩
    have go2:Go H1 w1 (upd H1 p (.rng 0 n)) w1:=⟨st,fun a o e _=>⟨x0e (nw a o e),e⟩⟩
    obtain⟨w',F,a1,a2,a3⟩:=al g2 hl (y77 n.toNat)
    exact k _ _ _ _ a1 ((go1.trans go2).trans a2) a3
   ·cases h1
  ·cases h1
 ·cases ee
theorem y2g(hc:X.calm=true)(hm:X.mg "list" = none)(hb:bootBuiltins "list" = some (.type "list"))(hmr:X.mg "range" = none)(ha:QDA X [a] g)(hg:Gl X "list":=by rfl)(hgr:Gl X "range":=by rfl)(hs:starEach [a] X.env=[(false,eval a X.env)]:=by rfl)(he:starEach [.Call (.Name "range" p1) [a] [] pos1] X.env=(false,eval (.Call (.Name "range" p1) [a] [] pos1) X.env)::starEach [] X.env:=by rfl)(hpl:(backTo pos (starEach [] X.env)).any (·.1)=false:=by rfl):QD X (.Call (.Name "list" p) [.Call (.Name "range" p1) [a] [] pos1] [] pos) (x8d g):=⟨have ha:=ha.o;PE.imp (x59 (y2c hc) hg hm hb (x3y (y6f hgr hmr ha hs) x65 he) (by decide) (by decide) he hpl) (y33 fun g hp r=>by
  obtain⟨a1,a2,a3⟩:=y0k g hp r
  exact⟨_,_,a1,a2,a3⟩)⟩
theorem z7j(hc:X.calm=true)(hm:X.mg "tuple" = none)(hb:bootBuiltins "tuple" = some (.type "tuple"))(hmr:X.mg "range" = none)(ha:QDA X [a] g)(hg:Gl X "tuple":=by rfl)(hgr:Gl X "range":=by rfl)(hs:starEach [a] X.env=[(false,eval a X.env)]:=by rfl)(he:starEach [.Call (.Name "range" p1) [a] [] pos1] X.env=(false,eval (.Call (.Name "range" p1) [a] [] pos1) X.env)::starEach [] X.env:=by rfl)(hpl:(backTo pos (starEach [] X.env)).any (·.1)=false:=by rfl):QD X (.Call (.Name "tuple" p) [.Call (.Name "range" p1) [a] [] pos1] [] pos) (z9g g):=⟨have ha:=ha.o;PE.imp (x59 (y0j hc) hg hm hb (x3y (y6f hgr hmr ha hs) x65 he) (by decide) (by decide) he hpl) (y33 fun g hp r=>by
  obtain⟨a1,a2,a3⟩:=y0t g hp r
  exact⟨_,_,a1,a2,a3⟩)⟩
end
end L3
namespace L3
open PySem PySem.Spec PyProof.Rows L2
theorem x8p{M:Model}{A:Around}{E:Value->Shared->Prop}{s:Shared}{β:Type}{n:Nat}(f:Nat->β->Sem (ForInStep β))(I:List Nat->β->Shared->Prop)(Q:β->Shared->Prop)(b:β)
  (turn:∀ x x2o b s,I (x::x2o) b s->wpAny M A (f x b) (fun r s'=>match r with|.yield b'=>I x2o b' s' | .done b'=>Q b' s') E s)
  (fin:∀ b s,I [] b s->Q b s) (h:I (List.range' 0 n 1) b s):wpAny M A (forIn [0:n] b f) Q E s:=by
 rw[Std.Legacy.Range.forIn_eq_forIn_range']
 refine Yi f I Q turn fin _ b ?_
 have e:(Std.Legacy.Range.size [0:n])=n:=by simp[Std.Legacy.Range.size]
 show I (List.range' 0 (Std.Legacy.Range.size [0:n]) 1) b s
 rw[e]
 exact h
open AutoSeq1 (wpAny_loadPart') in
theorem y27(l:Addr)(items:Array Value)(n:Nat)(dd:Option Addr)(sl:Array (Option Value))(x:Value)(e:Value->Bool)(j:Nat)(hj:j<items.size)(hit:e items[j]=true)(hno:∀ m (hm:m<items.size),m<j->e items[m]=false) :
  Meets (Builtin.«tuple.index» ⟨[.ref l,x],[]⟩)
   (fun A R s=>s.heap.get? l=some { cls:=.type "tuple",dict:=dd,data:=.seq items n,slots:=sl }/\(∀ y,y∈items->SeqAt.EqAt A.in1 s y x (e y))/\R (.ok (.ret (.int j s.toks))) { s with toks:=s.toks+1 }):=
 .of_wp fun prog w A R s h=>by
  obtain⟨hp,g,d,tk,os⟩:=s;obtain⟨hl,he,h⟩:=h
  wp_walk using wpAny_loadPart' hl,x8p _ (fun x2o b s'=>b.1=none/\s'=⟨hp,g,d,tk,os⟩/\∃ i k,x2o=List.range' i k 1/\i+k=items.size/\i<=j) _
  case turn=>
   rintro y x2o b s' ⟨hb,rfl,i,k,hr,hik,hij⟩
   cases k with
   | zero=>simp at hr
   | succ k=>
    rw[List.range'_succ]at hr
    obtain⟨rfl,rfl⟩:=List.cons.inj hr
    have hlt:y<items.size:=by omega
    have hget:items[y]? = some items[y]:=by simp[hlt]
    rw[hget]
    refine wpAny_bind (he _ (Y0 hlt) prog w _ _ ?_)
    by_cases hyj:y=j
    ·subst hyj
     rw[hit]
     wp_walk
     exact⟨_,rfl,h⟩
    ·rw[hno y hlt (by omega)]
     wp_walk
     exact⟨rfl,rfl,y+1,k,rfl,by omega,by omega⟩
  case fin=>
   rintro ⟨b1,b2⟩ s' ⟨hb,rfl,i,k,hr,hik,hij⟩
   cases k with
   | zero=>omega
   | succ k=>simp[List.range'_succ]at hr
  case h=>
   exact⟨rfl,rfl,0,items.size,by simp,by omega,by omega⟩
end L3
namespace L3
open PySem PySem.Spec PyProof.Rows L2
variable {F:List Addr}{H:Hp}{K:PySem.W.Frag}{N ps:List Str}{P:Program}{Q:Value->Shared->Prop}{X:Cx}{base:Heap}{body:x1g}{d:D}{ds:List D}{i n q:Nat}{i1 i2 j p p1 p2 u z:Addr}{mg:Str->Option Value}{o:Ow}{st:Stmt}{us vs:List V}{w:Wn}{x:Str}{xs ys:Array Value}{ρ:Rho}{σ:St}
def j18 (d:D)(ds:List D):Option Nat:=(x7q ds).findIdx? fun y=>PyData.eqv y (toP d)
def z75 (K:PySem.W.Frag):V->List V->Hp->VK->Prop:=fun x xs H Q=>∃ ds d y j,xs=[y]/\Is K H (.tup ds) x/\Is K H d y/\okD (.tup ds)=true/\okD d=true/\j18 d ds=some j/\Q (.int (Int.ofNat j)) H
section
variable {X:Cx}{a b c e:Expr}{es:List Expr}{fa fb fc f:Den}{g:x47}{pos p p1 p2 cpos apos:Pos}
theorem y86(hu:X.A.units+65<cLine):MtR X "tuple.index" (z75 X.K):=by
 intro pins s σ H x xs v us Q I rx rs ⟨ds,d,y,j,e,⟨w,o,q,F,h1⟩,⟨w',o',q',F',h2⟩,k1,k2,hj,hq⟩
 subst e
 obtain⟨u,rfl,ru⟩:=x9m rs
 obtain⟨as,ra⟩:=h1.reads I rx (y2t k1)
 obtain⟨bs,rb⟩:=h2.reads I ru (y2t k2)
 replace k1:=y3g k1
 replace k2:=y3g k2
 unfold toP at ra k1
 have hc1:PyData.canLayAll0 (x7q ds)=true:=ZG k1
 have hc2:=ZG k2
 cases ra with
 | @tuple a ob vs n _ _ ho hcl hd hrs=>
  obtain⟨cls,dd,data,sl⟩:=ob
  simp only at hcl hd
  subst hcl hd
  have hmap:=SeqAt.readsAll_map _ _ _ hc1 hrs
  have hfi:=List.findIdx?_eq_some_iff_getElem.mp hj
  obtain⟨hjl,hjt,hjf⟩:=hfi
  have hlen:vs.size=(x7q ds).length:=by rw[<- hmap];simp
  have hat:∀ m (hm:m<vs.size) (hm':m<(x7q ds).length),SeqAt.readOf s.heap vs[m]=(x7q ds)[m]:=fun m hm hm'=>by
   have:(vs.toList.map (SeqAt.readOf s.heap))[m]? = (x7q ds)[m]?:=by rw[hmap]
   simpa [hm,hm']using this
  refine JO Y8 ⟨_,ho,rfl⟩ PySem.F.entry_tuple_index (PySem.F.args_tuple_index_2 _ _)
   (y27 a vs n dd sl u (fun y=>PyData.eqv (SeqAt.readOf s.heap y) (toP d)) j (by omega) (by rw[hat j (by omega) hjl];simpa using hjt) (fun m hm hmj=>by rw[hat m hm (by omega)];simpa using hjf m hmj)) ⟨ho,SeqAt.items_eqAt hrs rb hc1 hc2 (room_in_shaped k2 hu),?_⟩
  exact⟨.int (Int.ofNat j),H,I.tok _,⟨_,rfl⟩,hq⟩
@[simp] def z15 (fo:Den)(g:x47):Den:=fun ρ=>match fo ρ with
 | some (.tup ds,_,ρ1)=>match g ρ1 with
  | some ([d],ρ2)=>if okD (.tup ds)=true/\okD d=true then match j18 d ds with
   | some j=>some (.int (Int.ofNat j),9,ρ2)
   | none=>none
   else none
  | _=>none
 | _=>none
theorem z3y{k:Nat}(hr:Room k X.A)(ho:QD X a fa)(ha:QDA X [e] g)(hbase:attributeBase a "index" X.env (eval a X.env)=eval a X.env:=by rfl)(hfew:((backTo cpos (starEach [e] X.env)).all (fun x=>!x.1)&&(backToKw cpos (keywordEach [] X.env)).all (fun x=>x.1.isSome)
   && decide ([e].length+([]:List Keyword).length+(if([]:List Keyword).isEmpty then 0 else 1)<30))=true:=by rfl) (hline:(apos.endLine==cpos.line)=true:=by rfl) (hs:starEach [e] X.env=(false,eval e X.env)::starEach [] X.env:=by rfl) (hplain:(backTo cpos (starEach [] X.env)).any (·.1)=false:=by rfl):QD X (.Call (.Attribute a "index" apos) [e] [] cpos) (z15 fa g):=⟨have ho:=ho.o;have ha:=ha.o;PE.imp (z6o PySem.F.plainAttrs_tuple Y8 PySem.F.type_tuple_index (y86 (u65 hr)) ho ha hbase hfew hline hs hplain) fun σ H Q hh0=>by
 obtain⟨ρ,w,t,r',q,ρ',gd,ee,k⟩:=hh0
 unfold z15 at ee
 split at ee
 ·rename_i ds q1 ρ1 h1
  split at ee
  ·rename_i d ρ2 h2
   split at ee
   ·rename_i hok
    split at ee
    ·rename_i j hj
     cases ee
     refine⟨ρ,w,t,_,_,_,gd,h1,fun v H1 w1 F1 g1 go1 r1=>?_⟩
     have r0:=r1.drop (o:=.f) (Qi t)
     have gg:=g1.drop (t':=t)
     obtain⟨p0,vs,rfl,hq,rs⟩:=r0.tupAt
     refine⟨?_,ρ1,x1l t w1,t,_,_,gg,h2,fun vs2 H2 w2 g2 go2 r2=>?_⟩
     ·exact .inr (.inl ⟨rfl,.inr ⟨_,hq⟩⟩)
     ·obtain⟨v2,rfl,rv2⟩:=one r2
      have r3:Rep X.K H2 w2 .f 0 (.tup ds) (.ref p0) []:=r0.go0 gg.wl go2.stab
      exact⟨ds,d,v2,j,rfl,⟨_,_,_,_,r3⟩,⟨_,_,_,_,rv2⟩,hok.1,hok.2,hj,k _ H2 w2 [] g2.up ((go1.drop gd.wt).trans go2) (.int _)⟩
    ·cases ee
   ·cases ee
  ·cases ee
 ·cases ee⟩
theorem Good.mut{t:Nat}(g:Good K ρ σ H w t)(e:ρ[i]? = some (some (.lst ds,1))) :
  ∃ l vs,σ[i]? = some (some (.ref l))/\H l=some (.lst vs)/\Reps K H w .f 0 ds vs []/\∀ ds' vs',Reps K H w .f 0 ds' vs' []->
   Good K (ρ.set i (some (.lst ds',1))) σ (upd H l (.lst vs')) w t/\Go H w (upd H l (.lst vs')) w:=by
 obtain⟨v,F,h1,h2⟩:=g.slot i _ _ e
 cases h2 with
 | @own _ l vs _ F' hl hw rs ne=>
  have hF:=rs.zero
  subst hF
  refine⟨l,vs,h1,hl,rs.any g.wl,fun ds' vs' r'=>?_⟩
  have nl:∀ a o,w a=some o->o ≠ .s i->a≠l:=fun a o e n z=>by subst z;rw[hw]at e;exact n (QC e).symm
  have nn:∀ a,w a=none->a≠l:=fun a e z=>by subst z;rw[hw]at e;cases e
  have st:x63 H w (upd H l (.lst vs')) w:=fun a x h n=>⟨sm (by rw[x0e (nn a n)];exact h),n⟩
  refine⟨⟨⟨fun a o h=>?_,g.wl.tb.upd rfl (.inr (g.wl l _ hw))⟩,g.ws,g.wt,by rw[Ze];exact g.len,fun j d' q' e'=>?_⟩,⟨st,fun a o h n=>⟨x0e (nl a o h (n i)),h⟩⟩⟩
  ·by_cases z:a=l
   ·subst z;exact⟨.l _,x0y⟩
   ·obtain⟨us,q⟩:=g.wl a o h
    exact⟨us,by rw[x0e z];exact q⟩
  ·by_cases hj:i=j
   ·subst hj
    rw[QX (QB.mp e).1]at e'
    cases e'
    exact⟨_,_,h1,.own x0y hw (Reps.go g.wl st r' (fun _ z=>nomatch z)) (fun z=>nomatch z)⟩
   ·rw[QY hj]at e'
    obtain⟨v',F',h1',h2'⟩:=g.slot j d' q' e'
    exact⟨v',F',h1',Rep.go g.wl st h2' fun a m=>⟨x0e (nl a _ (h2'.owns a m) (fun z=>hj (by cases z;rfl))),h2'.owns a m⟩⟩
@[simp] def y8m:Option (OD)->Bool
 | some (some (.lst _,_))=>true
 | _=>false
theorem Good.isL{t:Nat}(g:Good K ρ σ H w t)(h:y8m ρ[i]? = true):∃ l,σ[i]? = some (some (.ref l))/\∃ vs,SqL K H l vs:=by
 unfold y8m at h
 split at h
 ·rename_i ds q e
  obtain⟨v,F,h1,h2⟩:=g.slot i _ _ e
  obtain⟨p,vs,_,_,rfl,hq,_⟩:=h2.seqL
  exact⟨p,h1,vs,hq⟩
 ·cases h
@[simp] def x8y (i:Nat)(g:x47):Den:=fun ρ=>if y8m ρ[i]? = true then match g ρ with
 | some ([d],ρ1)=>match ρ1[i]? with
  | some (some (.lst ds,1))=>if ds.length<=1000 then some (.non,9,ρ1.set i (some (.lst (ds++[d]),1)))else none
  | _=>none
 | _=>none
 else none
theorem x1y(h:QE X (.Name x p1) (y3s i))(ha:QDA X [e] g)(hbase:attributeBase (.Name x p1) "append" X.env (eval (.Name x p1) X.env)=eval (.Name x p1) X.env:=by rfl)(hfew:((backTo cpos (starEach [e] X.env)).all (fun x=>!x.1)&&(backToKw cpos (keywordEach [] X.env)).all (fun x=>x.1.isSome)
   && decide ([e].length+([]:List Keyword).length+(if([]:List Keyword).isEmpty then 0 else 1)<30))=true:=by rfl) (hline:(apos.endLine==cpos.line)=true:=by rfl) (hs:starEach [e] X.env=(false,eval e X.env)::starEach [] X.env:=by rfl) (hplain:(backTo cpos (starEach [] X.env)).any (·.1)=false:=by rfl):QD X (.Call (.Attribute (.Name x p1) "append" apos) [e] [] cpos) (x8y i g):=⟨have h:=h.o;have ha:=ha.o;PE.imp (z6o Vj PySem.F.slot_list_append PySem.F.type_list_append z0u h ha hbase hfew hline hs hplain) fun σ H Q hh0=>by
 obtain⟨ρ,w,t,r',q,ρ',gd,ee,k⟩:=hh0
 unfold x8y at ee
 split at ee
 ·rename_i hl
  obtain⟨l,hσ,us,hq⟩:=gd.isL hl
  split at ee
  ·rename_i d ρ1 h1
   split at ee
   ·rename_i ds e1
    split at ee
    ·rename_i hlen
     cases ee
     refine⟨_,hσ,.inl ⟨rfl,us,hq⟩,ρ,w,t,_,_,gd,h1,fun vs H1 w1 g1 go1 r1=>?_⟩
     obtain⟨v,rfl,rv⟩:=one r1
     obtain⟨l',ws,hσ',hH,rs,mk⟩:=g1.mut e1
     rw[hσ]at hσ'
     cases hσ'
     have r2:Reps X.K H1 w1 .f 0 (ds++[d]) (ws++[v]) []:=Reps.snoc (F:=[]) (G:=[]) rv rs (fun _ z=>nomatch z)
     obtain⟨m1,m2⟩:=mk _ _ r2
     refine⟨l,ws,v,rfl,rfl,hH,by rw[<- rs.length];exact x33 hlen,?_⟩
     exact k .non _ w1 [] m1.up (go1.trans m2) .non
    ·cases ee
   ·cases ee
  ·cases ee
 ·cases ee⟩
theorem Reps.eraseIdx:∀ {ds:List D} {vs:List V} (i:Nat),Reps K H w .f 0 ds vs []->Reps K H w .f 0 (ds.eraseIdx i) (vs.eraseIdx i) []
 | ds,vs,i,r=>by
  generalize hF:([]:List Addr)=F at r
  cases r with
  | nil=>exact .nil
  | @cons _ d v ds vs F G r s _=>
   have h1:F=[]:=r.zero
   have h2:G=[]:=s.zero
   subst h1 h2
   cases i with
   | zero=>exact s
   | succ j=>exact .cons (F:=[]) (G:=[]) r (Reps.eraseIdx j s) (fun _ z=>nomatch z)
@[simp] def j0o (i:Nat)(g:x47):Den:=fun ρ=>if y8m ρ[i]? = true then match g ρ with
 | some ([.int n],ρ1)=>match ρ1[i]? with
  | some (some (.lst ds,1))=>if -1000<=n/\n<=1000 then match seqIndex? n ds.length with
   | some j=>match ds[j]? with
    | some d=>some (d,y0a d,ρ1.set i (some (.lst (ds.eraseIdx j),1)))
    | none=>none
   | none=>none
   else none
  | _=>none
 | _=>none
 else none
theorem j11(h:QE X (.Name x p1) (y3s i))(ha:QDA X [e] g)(hbase:attributeBase (.Name x p1) "pop" X.env (eval (.Name x p1) X.env)=eval (.Name x p1) X.env:=by rfl)(hfew:((backTo cpos (starEach [e] X.env)).all (fun x=>!x.1)&&(backToKw cpos (keywordEach [] X.env)).all (fun x=>x.1.isSome)
   && decide ([e].length+([]:List Keyword).length+(if([]:List Keyword).isEmpty then 0 else 1)<30))=true:=by rfl) (hline:(apos.endLine==cpos.line)=true:=by rfl) (hs:starEach [e] X.env=(false,eval e X.env)::starEach [] X.env:=by rfl) (hplain:(backTo cpos (starEach [] X.env)).any (·.1)=false:=by rfl):QD X (.Call (.Attribute (.Name x p1) "pop" apos) [e] [] cpos) (j0o i g):=⟨have h:=h.o;have ha:=ha.o;PE.imp (z6o Vj PySem.F.slot_list_pop PySem.F.type_list_pop z37 h ha hbase hfew hline hs hplain) fun σ H Q hh0=>by
 obtain⟨ρ,w,t,r',q,ρ',gd,ee,k⟩:=hh0
 unfold j0o at ee
 split at ee
 ·rename_i hl
  obtain⟨l,hσ,us,hq⟩:=gd.isL hl
  split at ee
  ·rename_i n ρ1 h1
   split at ee
   ·rename_i ds e1
    split at ee
    ·rename_i hn
     split at ee
     ·rename_i j hj
      split at ee
      ·rename_i d hd
       cases ee
       refine⟨_,hσ,.inl ⟨rfl,us,hq⟩,ρ,w,t,_,_,gd,h1,fun vs H1 w1 g1 go1 r1=>?_⟩
       obtain⟨v,rfl,rv⟩:=one r1
       have hv:=x3l rv
       subst hv
       obtain⟨l',ws,hσ',hH,rs,mk⟩:=g1.mut e1
       rw[hσ]at hσ'
       cases hσ'
       obtain⟨y,hy,ry⟩:=rs.get hd
       obtain⟨m1,m2⟩:=mk _ _ (rs.eraseIdx j)
       refine⟨l,ws,n,j,y,rfl,rfl,hH,by omega,by omega,by rw[<- rs.length];exact hj,hy,?_⟩
       have ry':Rep X.K _ w1 (.t t) 0 r' y []:=Rep.go g1.wl m2.stab ry (fun _ z=>nomatch z)
       exact k y _ w1 [] m1.up (go1.trans m2) ry'.dep
      ·cases ee
     ·cases ee
    ·cases ee
   ·cases ee
  ·cases ee
 ·cases ee⟩
end
theorem Reps.getQ:∀ {ds:List D} {vs:List V} {F:List Addr} {i:Nat} {d:D},Reps K H w o q ds vs F->ds[i]? = some d->∃ v G,vs[i]? = some v/\Rep K H w o q d v G/\∀ a∈G,a∈F
 | _,_,_,_,_,.nil,e=>by simp at e
 | _,_,_,0,_,.cons r _ _,e=>by
  simp at e;subst e;exact⟨_,_,rfl,r,fun a m=>Q9 _ m⟩
 | _,_,_,i+1,d,.cons _ s _,e=>by
  obtain⟨v,G,h1,h2,h3⟩:=Reps.getQ (i:=i) (d:=d) s (by simpa using e)
  exact⟨v,G,by simpa using h1,h2,fun a m=>Qr _ (h3 a m)⟩
theorem Reps.atQ{i:Int}(r:Reps K H w o q ds vs F)(h:L2.atI ds i=some d):∃ v G,L2.atI vs i=some v/\Rep K H w o q d v G/\∀ a∈G,a∈F:=by
 unfold L2.atI at h ⊢
 rw[<- r.length]
 cases e:ixN ds.length i with
 | none=>rw[e]at h;cases h
 | some j=>
  rw[e]at h
  exact r.getQ h
@[simp] def x1z (n:Nat)(fb:Den):Den:=fun ρ=>match ρ[n]? with
 | some (some _)=>match fb ρ with
  | some (.int i,_,ρ2)=>match ρ2[n]? with
   | some (some (x,q))=>match atD x i with
    | some d=>if d.isL=true/\1<q/\x.isL=true then none else some (d,y0a d,ρ2)
    | none=>none
   | _=>none
  | _=>none
 | _=>none
section
variable {X:Cx}{a b c e:Expr}{es:List Expr}{fa fb fc f:Den}{g:x47}{pos p p1 p2 cpos apos:Pos}
theorem x0v(h:QE X (.Name x p1) (y3s n))(hb:QD X b fb)(hs:x84 b:=by exact fun _ _=>rfl):QD X (.Subscript (.Name x p1) b pos) (x1z n fb):=⟨have h:=h.o;have hb:=hb.o;PE.imp (z0b y3u h hb hs) fun σ H Q hh0=>by
 obtain⟨ρ,w,t,r',q,ρ',gd,ee,k⟩:=hh0
 unfold x1z at ee
 split at ee
 ·rename_i z0 e0
  obtain⟨d0,q0⟩:=z0
  obtain⟨v,F,hσ,_⟩:=gd.slot n d0 q0 e0
  split at ee
  ·rename_i i q2 ρ2 h2
   split at ee
   ·rename_i x q e2
    split at ee
    ·rename_i d hd
     split at ee
     ·cases ee
     ·rename_i hn
      cases ee
      refine⟨v,hσ,ρ,w,t,_,_,_,gd,h2,fun y H2 w2 F2 g2 go r2=>?_⟩
      have hy:=x3l r2
      subst hy
      have gg:=g2.drop (t':=t)
      obtain⟨v',F',hσ',rr⟩:=gg.slot n x q e2
      rw[hσ]at hσ'
      cases hσ'
      have fin:∀ u,Rep X.K H2 (x1l t w2) (.t t) 0 r' u []->Q u H2:=fun u ru=>k u H2 (x1l t w2) [] gg.up (go.drop gd.wt) ru.dep
      cases x with
      | lst ds=>
       by_cases hq0:q=0
       ·subst hq0
        obtain⟨p0,vs,rfl,hq,rs⟩:=rr.seqL0
        obtain⟨u,hu,ru⟩:=rs.atI hd
        exact .inl ⟨p0,vs,i,u,rfl,rfl,hq,hu,fin u (ru.any gg.wl)⟩
       ·by_cases hq1:q=1
        ·subst hq1
         cases rr with
         | own h0 _ rs _=>
          have z0:=rs.zero
          subst z0
          obtain⟨u,hu,ru⟩:=rs.atI hd
          exact .inl ⟨_,_,i,u,rfl,rfl,SqL.of h0,hu,fin u (ru.any gg.wl)⟩
        ·obtain⟨p0,vs,q',G,rfl,hq,rs⟩:=rr.seqL
         obtain⟨u,G',hu,ru,_⟩:=rs.atQ hd
         refine .inl ⟨p0,vs,i,u,rfl,rfl,hq,hu,fin u ?_⟩
         cases hL:r'.isL with
         | false=>exact((ru.nolist hL).2 0).any gg.wl
         | true=>exact absurd ⟨hL,by omega,rfl⟩ hn
      | tup ds=>
       obtain⟨p0,vs,rfl,hq,rs⟩:=rr.seqT
       obtain⟨u,hu,ru⟩:=rs.atI hd
       exact .inr (.inl ⟨p0,vs,i,u,rfl,rfl,hq,hu,fin u (ru.any gg.wl)⟩)
      | _=>cases hd
    ·cases ee
   ·cases ee
  ·cases ee
 ·cases ee⟩
@[simp] def y6q (fa fb:Den):Den:=fun ρ=>match fa ρ with
 | some (.lst ds,1,ρ1)=>match fb ρ1 with
  | some (.int n,_,ρ2)=>if -1000<=n/\n<=1000/\ds.length*n.toNat<=1000 then some (.lst (List.replicate n.toNat ds).flatten,1,ρ2)else none
  | _=>none
 | _=>none
theorem Reps.app{es:List D}(s:Reps K H w .f 0 es us []):∀ {ds:List D} {vs:List V},Reps K H w .f 0 ds vs []->Reps K H w .f 0 (ds++es) (vs++us) []
 | ds,vs,r=>by
  generalize hF:([]:List Addr)=F at r
  cases r with
  | nil=>rw[<- hF];exact s
  | @cons _ d v ds vs F G r t _=>
   have h1:F=[]:=r.zero
   have h2:G=[]:=t.zero
   subst h1 h2
   exact .cons (F:=[]) (G:=[]) r (Reps.app s t) (fun _ z=>nomatch z)
theorem Reps.times(r:Reps K H w .f 0 ds vs []):∀ n:Nat,Reps K H w .f 0 (List.replicate n ds).flatten (List.replicate n vs).flatten []
 | 0=>.nil
 | n+1=>by
  rw[ZI,ZI,Jc,Jc]
  exact Reps.app (Reps.times r n) r
theorem y81(ha:QD X a fa)(hb:QD X b fb):QD X (.BinOp a .Mult b pos) (y6q fa fb):=⟨have ha:=ha.o;have hb:=hb.o;PE.imp (y3o j0t ha hb) fun σ H Q hh0=>by
 obtain⟨ρ,w,t,r',q,ρ',gd,ee,k⟩:=hh0
 unfold y6q at ee
 split at ee
 ·rename_i ds ρ1 h1
  split at ee
  ·rename_i n q2 ρ2 h2
   split at ee
   ·rename_i hn
    cases ee
    refine z5y gd h1 h2 fun u u' H2 w2 F1 F2 g2 go r1 r2=>?_
    have hu':=x3l r2
    subst hu'
    cases r1 with
    | @own _ l vs _ F hl hw rs ne=>
     have hF:=rs.zero
     subst hF
     have gg:=g2.drop (t':=t)
     have rs':Reps X.K H2 (x1l t w2) .f 0 ds vs []:=Reps.go g2.wl (fun a x h n=>⟨sm h,x5q n⟩) rs (fun _ z=>nomatch z)
     refine⟨l,n,vs,rfl,rfl,hl,by omega,by omega,?_,fun p hp=>?_⟩
     ·rw[<- rs.length];exact x9e hn.2.2
     ·obtain⟨a1,a2,a3⟩:=y0k gg hp (rs'.times n.toNat)
      exact k _ _ _ _ a1 ((go.drop gd.wt).trans a2) a3
   ·cases ee
  ·cases ee
 ·cases ee⟩
end
theorem Reps.row(wl:WL K w H):∀ {rows:List D} {vs:List V} {F:List Addr} {i:Nat} {row:List D},Reps K H w o 1 rows vs F->rows[i]? = some (.lst row)->
  ∃ b ws,vs[i]? = some (.ref b)/\H b=some (.lst ws)/\w b=some o/\b∈F/\Reps K H w .f 0 row ws [] /\
   ∀ row' ws',Reps K H w .f 0 row' ws' []->Reps K (upd H b (.lst ws')) w o 1 (rows.set i (.lst row')) vs F
 | _,_,_,_,_,.nil,e=>by simp at e
 | _,_,_,0,row,.cons r s ne,e=>by
  simp at e
  subst e
  cases r with
  | @own _ b ws _ F' hb hw rs nb=>
   have hF:=rs.zero
   subst hF
   refine⟨b,ws,rfl,hb,hw,by simp,rs.any wl,fun row' ws' r'=>?_⟩
   have nn:∀ a,w a=none->a≠b:=fun a e z=>by subst z;rw[hw]at e;cases e
   have st:x63 H w (upd H b (.lst ws')) w:=fun a x h n=>⟨sm (by rw[x0e (nn a n)];exact h),n⟩
   refine .cons (.own x0y hw (Reps.go wl st r' (fun _ z=>nomatch z)) (fun z=>nomatch z)) (Reps.go wl st s fun a m=>⟨x0e fun z=>?_,s.owns a m⟩) ne
   subst z
   exact ne a (by simp) m
 | _,_,_,i+1,row,.cons (d:=d) (v:=v) (F:=F) (G:=G) r s ne,e=>by
  obtain⟨b,ws,h1,h2,h3,h4,h5,mk⟩:=Reps.row wl (i:=i) (row:=row) s (by simpa using e)
  refine⟨b,ws,by simpa using h1,h2,h3,Qr _ h4,h5,fun row' ws' r'=>?_⟩
  have nn:∀ a,w a=none->a≠b:=fun a e z=>by subst z;rw[h3]at e;cases e
  have st:x63 H w (upd H b (.lst ws')) w:=fun a x h n=>⟨sm (by rw[x0e (nn a n)];exact h),n⟩
  refine .cons (Rep.go wl st r fun a m=>⟨x0e fun z=>?_,r.owns a m⟩) (mk row' ws' r') ne
  subst z
  exact ne a m h4
theorem Good.mut2{t m:Nat}{rows row:List D}(g:Good K ρ σ H w t)(e:ρ[i]? = some (some (.lst rows,2)))(em:rows[m]? = some (.lst row)) :
  ∃ l vs b ws,σ[i]? = some (some (.ref l))/\SqL K H l vs/\vs.length=rows.length/\vs[m]? = some (.ref b)/\H b=some (.lst ws)/\Reps K H w .f 0 row ws []/\∀ row' ws',Reps K H w .f 0 row' ws' []->
   Good K (ρ.set i (some (.lst (rows.set m (.lst row')),2))) σ (upd H b (.lst ws')) w t/\Go H w (upd H b (.lst ws')) w:=by
 obtain⟨v,F,h1,h2⟩:=g.slot i _ _ e
 cases h2 with
 | @own _ l vs _ F' hl hw rs nl=>
  obtain⟨b,ws,b1,b2,b3,b4,b5,mk⟩:=Reps.row g.wl rs em
  have hbl:l≠b:=fun z=>by subst z;exact nl b4
  refine⟨l,vs,b,ws,h1,SqL.of hl,rs.length.symm,b1,b2,b5,fun row' ws' r'=>?_⟩
  have nl':∀ a o,w a=some o->o ≠ .s i->a≠b:=fun a o e n z=>by subst z;rw[b3]at e;exact n (QC e).symm
  have nn:∀ a,w a=none->a≠b:=fun a e z=>by subst z;rw[b3]at e;cases e
  have st:x63 H w (upd H b (.lst ws')) w:=fun a x h n=>⟨sm (by rw[x0e (nn a n)];exact h),n⟩
  refine⟨⟨⟨fun a o h=>?_,g.wl.tb.upd rfl (.inr (g.wl b _ b3))⟩,g.ws,g.wt,by rw[Ze];exact g.len,fun j d' q' e'=>?_⟩,⟨st,fun a o h n=>⟨x0e (nl' a o h (n i)),h⟩⟩⟩
  ·by_cases z:a=b
   ·subst z;exact⟨.l _,x0y⟩
   ·obtain⟨us,q⟩:=g.wl a o h
    exact⟨us,by rw[x0e z];exact q⟩
  ·by_cases hj:i=j
   ·subst hj
    rw[QX (QB.mp e).1]at e'
    cases e'
    exact⟨_,_,h1,.own (by rw[x0e hbl];exact hl) hw (mk row' ws' r') nl⟩
   ·rw[QY hj]at e'
    obtain⟨v',F',h1',h2'⟩:=g.slot j d' q' e'
    exact⟨v',F',h1',Rep.go g.wl st h2' fun a m=>⟨x0e (nl' a _ (h2'.owns a m) (fun z=>hj (by cases z;rfl))),h2'.owns a m⟩⟩
theorem Reps.set0{v:V}(rv:Rep K H w .f 0 d v []):∀ {ds:List D} {vs:List V} (i:Nat),Reps K H w .f 0 ds vs []->Reps K H w .f 0 (ds.set i d) (vs.set i v) []
 | ds,vs,i,r=>by
  generalize hF:([]:List Addr)=F at r
  cases r with
  | nil=>rw[<- hF];exact .nil
  | @cons _ d' v' ds vs F G r s _=>
   have h1:F=[]:=r.zero
   have h2:G=[]:=s.zero
   subst h1 h2
   cases i with
   | zero=>exact .cons (F:=[]) (G:=[]) rv s (fun _ z=>nomatch z)
   | succ j=>exact .cons (F:=[]) (G:=[]) r (Reps.set0 rv j s) (fun _ z=>nomatch z)
abbrev y6x:=Rho->Option Int
def tQ (K:PySem.W.Frag)(f:y6x):TE:=fun σ H Q=>∃ ρ w t i,Good K ρ σ H w t/\f ρ=some i/\Q (.int i) H
abbrev PQ (X:Cx)(e:Expr)(f:y6x):Prop:=PE X e (tQ X.K f)
structure QQ (X:Cx) (e:Expr) (f:y6x):Prop where mk::o:PQ X e f
@[simp] def z6b (n:Nat):y6x:=fun ρ=>match ρ[n]? with
 | some (some (.int i,_))=>some i
 | _=>none
@[simp] def qIx (n:Nat)(f:y6x):y6x:=fun ρ=>match f ρ with
 | some i=>match ρ[n]? with
  | some (some (x,_))=>match atD x i with
   | some (.int j)=>some j
   | _=>none
  | _=>none
 | none=>none
section
variable {X:Cx}{a b c e:Expr}{es:List Expr}{fa fb fc f:Den}{qa qb:y6x}{g:x47}{pos p p1 p2 cpos apos:Pos}
theorem z45(h:QE X (.Name x p1) (y3s n)):QQ X (.Name x p1) (z6b n):=⟨have h:=h.o;PE.imp h fun σ H Q hh0=>by
 obtain⟨ρ,w,t,i,gd,ee,k⟩:=hh0
 unfold z6b at ee
 split at ee
 ·rename_i j q e0
  cases ee
  obtain⟨v,F,h1,h2⟩:=gd.slot n _ _ e0
  rw[x3l h2]at h1
  exact⟨_,h1,k⟩
 ·cases ee⟩
theorem z9i(h:QE X (.Name x p1) (y3s n))(hb:QQ X b qb)(hs:x84 b:=by exact fun _ _=>rfl):QQ X (.Subscript (.Name x p1) b pos) (qIx n qb):=⟨have h:=h.o;have hb:=hb.o;PE.imp (z0b y3u h hb hs) fun σ H Q hh0=>by
 obtain⟨ρ,w,t,i,gd,ee,k⟩:=hh0
 unfold qIx at ee
 split at ee
 ·rename_i i0 h0
  split at ee
  ·rename_i x q e0
   split at ee
   ·rename_i j hj
    cases ee
    obtain⟨v,F,h1,h2⟩:=gd.slot n _ _ e0
    refine⟨v,h1,ρ,w,t,i0,gd,h0,?_⟩
    cases x with
    | lst ds=>
     obtain⟨p0,vs,q',G,rfl,hq,rs⟩:=h2.seqL
     obtain⟨u,G',hu,ru,_⟩:=rs.atQ hj
     rw[x3l ru]at hu
     exact .inl ⟨p0,vs,i0,_,rfl,rfl,hq,hu,k⟩
    | tup ds=>
     obtain⟨p0,vs,rfl,hq,rs⟩:=h2.seqT
     obtain⟨u,hu,ru⟩:=rs.atI hj
     rw[x3l ru]at hu
     exact .inr (.inl ⟨p0,vs,i0,_,rfl,rfl,hq,hu,k⟩)
    | _=>cases hj
   ·cases ee
  ·cases ee
 ·cases ee⟩
@[simp] def y8k (n:Nat)(qi qj:y6x)(fe:Den):x1g:=fun ρ=>match fe ρ with
 | some (d,_,ρ1)=>match qi ρ1,qj ρ1,ρ1[n]? with
  | some i,some j,some (some (.lst rows,2))=>match ixN rows.length i with
   | some m=>match rows[m]? with
    | some (.lst row)=>match ixN row.length j with
     | some k=>some (.nx (ρ1.set n (some (.lst (rows.set m (.lst (row.set k d))),2))))
     | none=>none
    | _=>none
   | none=>none
  | _,_,_=>none
 | none=>none
theorem z1f(h:QE X (.Name x p1) (y3s n))(ha:QQ X a qa)(hb:QQ X b qb)(he:QD X e f)(hi:x84 a:=by exact fun _ _=>rfl)(hasg:∀ v,assign (.Subscript (.Subscript (.Name x p1) a p2) b p) X.env v=(do
   let ov <- holding [v] (eval (.Subscript (.Name x p1) a p2) X.env)
   let iv <- holding [v,ov] (eval b X.env)
   standAt p
   holding [v,ov,iv] (setItem ov iv v)
   release [v,ov,iv] []):=by exact fun _=>rfl) (hs:swapsWithSole [.Subscript (.Subscript (.Name x p1) a p2) b p] e pos.line X.env=pure false:=by rfl):QDS X (.Assign [.Subscript (.Subscript (.Name x p1) a p2) b p] e pos) (y8k n qa qb f):=⟨have h:=h.o;have ha:=ha.o;have hb:=hb.o;have he:=he.o;by
 refine PS.imp (z91 he (z8g (z0b y3u h ha hi) hb z22 hasg) hs) fun D σ H ⟨ρ,w,o,gd,ee,k⟩=>?_
 unfold y8k at ee
 split at ee
 ·rename_i d q0 ρ1 h1
  split at ee
  ·rename_i i j rows hi hj er
   split at ee
   ·rename_i m hm
    split at ee
    ·rename_i row erow
     split at ee
     ·rename_i kk hk
      cases ee
      refine⟨ρ,w,0,d,q0,ρ1,gd,h1,fun v H1 w1 F1 g1 go1 r1=>?_⟩
      have rv:=r1.drop (o:=.f) (Qi 0)
      have gg:=g1.drop (t':=0)
      obtain⟨l,vs,b0,ws,m1,m2,m3,m4,m5,m6,mk⟩:=gg.mut2 er erow
      refine⟨_,m1,ρ1,x1l 0 w1,0,i,gg,hi,.inl ⟨l,vs,i,.ref b0,rfl,rfl,m2,?_,ρ1,x1l 0 w1,0,j,gg,hj,b0,ws,j,kk,rfl,rfl,m5,?_,?_⟩⟩
      ·unfold atI;rw[m3,hm];exact m4
      ·rw[<- m6.length];exact hk
      ·obtain⟨n1,n2⟩:=mk _ _ (m6.set0 rv kk)
       exact k _ _ _ rfl n1 ((go1.drop gd.wt).trans n2)
     ·cases ee
    ·cases ee
   ·cases ee
  ·cases ee
 ·cases ee⟩
end
@[simp] def z97 (fa fb:Den):Den:=fun ρ=>match fa ρ with
 | some (.bl b,_,ρ1)=>if b=true then fb ρ1 else some (.bl false,9,ρ1)
 | _=>none
@[simp] def j2n (fa:Den):Den:=fun ρ=>match fa ρ with
 | some (.bl b,_,ρ1)=>some (.bl (!b),9,ρ1)
 | _=>none
section
variable {X:Cx}{a b c e:Expr}{es x2o:List Expr}{fa fb fc f:Den}{g:x47}{pos p p1 p2 cpos apos:Pos}
theorem y92{op}(h:QD X a fa):QD X (.BoolOp op [a] pos) fa:=⟨have h:=h.o;j0y h⟩
theorem y9f(ha:QD X a fa)(hb:QD X (.BoolOp .And (b::x2o) pos) fb):QD X (.BoolOp .And (a::b::x2o) pos) (z97 fa fb):=⟨have ha:=ha.o;have hb:=hb.o;PE.imp (j02 ha hb) fun σ H Q hh0=>by
 obtain⟨ρ,w,t,r',q,ρ',gd,ee,k⟩:=hh0
 unfold z97 at ee
 split at ee
 ·rename_i b' q1 ρ1 h1
  refine⟨ρ,w,t,_,_,_,gd,h1,fun v H1 w1 F1 g1 go1 r1=>?_⟩
  cases r1
  refine⟨b',rfl,?_⟩
  split at ee
  ·rename_i hb;rw[Qj hb]
   exact⟨ρ1,x1l t w1,t,r',q,ρ',g1.drop,ee,fun v H2 w2 F g2 go2=>k v H2 w2 F g2 ((go1.drop gd.wt).trans go2)⟩
  ·rename_i hb;rw[Qk hb]
   cases ee
   exact k _ H1 w1 [] g1 go1 (.bl false)
 ·cases ee⟩
theorem z8n(ha:QD X a fa):QD X (.UnaryOp .Not a pos) (j2n fa):=⟨have ha:=ha.o;PE.imp (z9j ha) fun σ H Q hh0=>by
 obtain⟨ρ,w,t,r',q,ρ',gd,ee,k⟩:=hh0
 unfold j2n at ee
 split at ee
 ·rename_i b' q1 ρ1 h1
  cases ee
  refine⟨ρ,w,t,_,_,_,gd,h1,fun v H1 w1 F1 g1 go1 r1=>?_⟩
  cases r1
  exact⟨b',rfl,k _ H1 w1 [] g1 go1 (.bl _)⟩
 ·cases ee⟩
end
section
variable {es x2o:List Expr}{a b c e:Expr}{pos:Pos}{env:Env}
theorem x0z{op}:starEach (.BinOp a op b pos::x2o) env=(false,eval (.BinOp a op b pos) env)::starEach x2o env:=by simp only[starEach]
theorem z1t:starEach (.IfExp a b c pos::x2o) env=(false,eval (.IfExp a b c pos) env)::starEach x2o env:=by simp only[starEach]
theorem x35{g sc}:starEach (.ListComp a g sc pos::x2o) env=(false,eval (.ListComp a g sc pos) env)::starEach x2o env:=by simp only[starEach]
theorem x0l{k}:starEach (.Call a es k pos::x2o) env=(false,eval (.Call a es k pos) env)::starEach x2o env:=by simp only[starEach]
theorem x08{v k}:starEach (.Constant v k pos::x2o) env=(false,eval (.Constant v k pos) env)::starEach x2o env:=by simp only[starEach]
theorem x0w:starEach (.Subscript a b pos::x2o) env=(false,eval (.Subscript a b pos) env)::starEach x2o env:=by simp only[starEach]
theorem x04{x}:starEach (.Name x pos::x2o) env=(false,eval (.Name x pos) env)::starEach x2o env:=by simp only[starEach]
theorem x9s:starEach (.List es pos::x2o) env=(false,eval (.List es pos) env)::starEach x2o env:=by simp only[starEach]
theorem y2f{k}:starEach (.Tuple es k pos::x2o) env=(false,eval (.Tuple es k pos) env)::starEach x2o env:=by simp only[starEach]
end
def At (K:PySem.W.Frag)(mg:Str->Option Value)(x:Str)(st:Stmt)(ps:List Str):Prop:=
 ∃ f fd,Fun K x x st f fd/\mg x=some (.ref f)/\y2u K fd ps []
def Cal (P:Program)(w:World)(K:PySem.W.Frag)(mg:Str->Option Value)(base:Heap)(k:Nat)(x:Str)(n:Nat)(F:List D->OD):Prop:=
 ∃ f fd ps,FnOk P w K mg base CX0 k f fd ps (spD K n F)/\mg x=some (.ref f)/\PySem.W.keepIn K (.ref f)=true/\y2u K fd ps []
theorem Cal.mk{w:World}{k:Nat}(a:At K mg x st ps)(S:FnScope N ps (x0c st))
  (h:∀ (f:Addr) (cdv:Value) (A:Around) (outer:List Env) (s:Shared) (H:Hp) (E:XK),Room k (A.deeper (envOfC x (x0c st) s.heap.objs.size f cdv))->j1f (y7u CX0 P w K mg base N x (x0c st) f cdv A outer s H E).nox (x2x st) body) :
  Cal P w K mg base (k+1) x ps.length (fnD N.length body):=by
 obtain⟨f,fd,F,m,b⟩:=a
 exact⟨f,fd,ps,z81 F S (h f),m,F.kp,b⟩
section
variable {X:Cx}{a b c e:Expr}{es x2o:List Expr}{fa fb fc f:Den}{g:x47}{pos p p1 p2 cpos apos:Pos}
theorem x0a{j k:Nat}{F:List D->OD}(C:Cal X.prog X.w X.K X.mg X.base k x n F)(hr:Room j X.A)(hk:k<=j)(ha:QDA X (e::es) g)(hg:Gl X x:=by rfl)(hdb:(x==("__debug__":Str))=false:=by decide)(he:starEach (e::es) X.env=(false,eval e X.env)::starEach es X.env:=by rfl)(hpl:(backTo pos (starEach es X.env)).any (·.1)=false:=by rfl):QD X (.Call (.Name x p) (e::es) [] pos) (x0p F n g):=⟨have ha:=ha.o;by
 obtain⟨f,fd,ps,G,hm,hkp,hb⟩:=C
 exact z3a G (hr.mono hk) hm hkp hb j2h ha hg hdb he hpl⟩
end
theorem j0a{F:List D->OD}(h:∀ ns:List Int,ns.length<=63->∃ q,F [.lst (ns.map D.int)]=some (.bl true,q)){a:Addr}{ns:List Int}(hl:ns.length<=63)(hS:SqL K H a (ns.map V.int))(tb:TB K H){E:XK} :
  spD K 1 F [.ref a] H (fun v _=>v=.bl true) E:=by
 obtain⟨q,e⟩:=h ns hl
 have r:Rep K H (fun _=>none) .f 0 (.lst (ns.map D.int)) (.ref a) []:=by
  rcases SqL.cases hS with z|z
  ·exact .shr z rfl (x6k ns)
  ·exact .kl z (x6k ns)
 exact⟨rfl,[.lst (ns.map D.int)],fun _=>none,.bl true,q,(fun a o z=>nomatch z),⟨(fun a o z=>nomatch z),tb⟩,.cons (F:=[]) (G:=[]) r .nil (fun _ z=>nomatch z),e,fun v H' w' Fo _ _ rr=>by cases rr;rfl⟩
theorem j01{w:World}{k:Nat}{f:Addr}{fd:FuncData}(F:Fun K x x st f fd)(S:FnScope N ps (x0c st))
  (h:∀ (f:Addr) (cdv:Value) (A:Around) (outer:List Env) (s:Shared) (H:Hp) (E:XK),Room k (A.deeper (envOfC x (x0c st) s.heap.objs.size f cdv))->j1f (y7u CX0 P w K mg base N x (x0c st) f cdv A outer s H E).nox (x2x st) body) :
  FnOk P w K mg base CX0 (k+1) f fd ps (spD K ps.length (fnD N.length body)):=z81 F S (h f)
section
variable {prog:Program}{w:World}{A:Around}{E:Value->Shared->Prop}{s:Shared}
theorem x7t{vs:Array Value}{v:Value}(a:s.heap.IsTupleIter j p n)(b:s.heap.IsTuple p vs)(c:vs[n]? = some v)
  (k:∀ g:Heap,g.IsTupleIter j p (n+1)->Heap.SameBut j s.heap g->Q v { s with heap:=g }):wpAny (model prog w) A (Builtin.SmallTypes.nextOf (.ref j)) Q E s:=by
 obtain⟨oj,ej,kj,dj⟩:=id a
 obtain⟨op,ep,_,mp,dp⟩:=b
 unfold Builtin.SmallTypes.nextOf
 refine wpAny_bind (Q4 (name:=Str.ofString "__next__") a.typeIs Z1 (Q1 Z1 a.typeIs YB ?_ (Yt _)))
 show wpAny _ _ (field (.ref j) 0 >>= _) _ _ s
 refine wpAny_bind (Zw ej dj (x:=.ref p) rfl ?_)
 show wpAny _ _ (if(Value.ref p==Value.none)=true then _ else _) _ _ s
 rw[Qk (show ¬ ((Value.ref p==Value.none)=true)from Zp)]
 show wpAny _ _ (field (.ref j) 1 >>= _) _ _ s
 refine wpAny_bind (Zw ej dj (x:=.int n 0) rfl ?_)
 show wpAny _ _ (seqItems? (.ref p) >>= _) _ _ s
 refine wpAny_bind (ZH ep dp ?_)
 simp only[J2,c]
 refine wpAny_bind (YM ej dj (by simp) (Qd ⟨v,rfl,Qd (k _ ⟨_,ZM _ ej (Obj.isFreed_of_fields (JP dj _)),(Obj.cls_mapFields ..).trans kj,?_⟩ (ZJ ..))⟩))
 rw[JP dj]
 simp[rawInt]
theorem y3b{vs:Array Value}{Q:Value->Shared->Prop}(hh:A.handled=none)(a:s.heap.IsTupleIter j p n)(b:s.heap.IsTuple p vs)(c:vs[n]? = none)
  (k:∀ (g:Heap) x,Heap.ExtBut j s.heap g->(∃ o,g.get? x=some o/\o.cls=.type "StopIteration")->E (.ref x) { s with heap:=g }):wpAny (model prog w) A (Builtin.SmallTypes.nextOf (.ref j)) Q E s:=by
 obtain⟨oj,ej,kj,dj⟩:=id a
 obtain⟨op,ep,_,mp,dp⟩:=b
 unfold Builtin.SmallTypes.nextOf
 refine wpAny_bind (Q4 (name:=Str.ofString "__next__") a.typeIs Z1 (Q1 Z1 a.typeIs YB ?_ (Yt _)))
 show wpAny _ _ (field (.ref j) 0 >>= _) _ _ s
 refine wpAny_bind (Zw ej dj (x:=.ref p) rfl ?_)
 show wpAny _ _ (if(Value.ref p==Value.none)=true then _ else _) _ _ s
 rw[Qk (show ¬ ((Value.ref p==Value.none)=true)from Zp)]
 show wpAny _ _ (field (.ref j) 1 >>= _) _ _ s
 refine wpAny_bind (Zw ej dj (x:=.int n 0) rfl ?_)
 show wpAny _ _ (seqItems? (.ref p) >>= _) _ _ s
 refine wpAny_bind (ZH ep dp ?_)
 simp only[J2,c]
 refine wpAny_bind (Vs (wpAny_bind (YM ej dj (by simp) ?_)))
 show wpAny _ _ (newExc (.type "StopIteration") [] >>= _) _ _ _;refine wpAny_bind ?_;simp only[newExc,newTuple]
 refine wpAny_bind (Q0 ?_ (by size_fits));refine wpAny_bind (m:=firstArgMember _ _) (VM (a:=Value.none) (by first|rfl|(simp only[firstArgMember];rfl)) (Q0 ?_ (by size_fits)))
 simp only[raiseNew]
 refine wpAny_bind (wpAny_handled ?_);first|rw[show A.in1.handled=none from hh]|rw[hh]
 exact wpAny_bind (Qd (wpAny_throw (k _ _ (((ZJ ..).extBut.push _).push _) ⟨_,Qo _ rfl,rfl⟩)))
structure ZT (h:Heap) (z u o i1 i2 p1 p2:Addr) (f0:Value) (k1 k2:Nat):Prop where
 hz:IsZip h z u o f0
 hu:IsPair h u (.ref i1) (.ref i2)
 ho:∃ a b,IsPair h o a b
 h1:h.IsTupleIter i1 p1 k1
 h2:h.IsTupleIter i2 p2 k2
def zfp (z u o i1 i2:Addr):List Addr:=[z,u,o,i1,i2]
structure ZA (z u o i1 i2:Addr):Prop where
 nd:(zfp z u o i1 i2).Nodup
theorem ZA.ne{o:Addr}(d:ZA z u o i1 i2):z≠u/\z≠o/\z≠i1/\z≠i2/\u≠o/\u≠i1/\u≠i2/\o≠i1/\o≠i2/\i1≠i2:=by
 have:=d.nd
 simp only[zfp,QW,Qq,Qg,J4,not_or]at this
 obtain⟨⟨a,b,c,d⟩,⟨e,f,g⟩,⟨h,i⟩,j,_⟩:=this
 exact⟨a,b,c,d,e,f,g,h,i,j⟩
theorem y24{g:Heap}{o:Addr}{a b x:Value}{n:Nat}{Q:Unit->Shared->Prop}(e:IsPair s.heap o a b)
  (k:∀ g:Heap,g.get? o=some { cls:=.type "tuple",data:=.seq ((#[a,b]:Array Value).setIfInBounds n x) }->Heap.SameBut o s.heap g->Q () { s with heap:=g }):wpAny (model prog w) A (updateSeq o (·.setIfInBounds n x)) Q E s:=by
 refine wpAny_updateSeq e rfl (k _ ?_ (ZJ ..))
 rw[ZM _ e rfl];simp[Obj.mapSeq]
theorem y97{o:Addr}{x y:Value}{Q:Option Value->Shared->Prop}(d:ZA z u o i1 i2)(Z:ZT s.heap z u o i1 i2 p1 p2 .none n n)(t1:s.heap.IsTuple p1 xs)(t2:s.heap.IsTuple p2 ys)
  (n1:p1 ∉ zfp z u o i1 i2) (n2:p2 ∉ zfp z u o i1 i2) (ex:xs[n]? = some x) (ey:ys[n]? = some y)
  (k:∀ g:Heap,ZT g z u o i1 i2 p1 p2 (rawInt s.heap.objs.size) (n+1) (n+1)->IsPair g s.heap.objs.size x y->(∀ c q,c ∉ zfp z u o i1 i2->s.heap.get? c=some q->g.get? c=some q)->Q (some (.ref s.heap.objs.size)) { s with heap:=g }) :
  wpAny (model prog w) A (pyNext (.ref z)) Q E s:=by
 obtain⟨zu,zo,z1,z2,uo,u1,u2,o1,o2,i12⟩:=d.ne
 obtain⟨hz,hu,⟨a,b,ho⟩,h1,h2⟩:=Z
 have nz:∀ p,p ∉ zfp z u o i1 i2->p≠z/\p≠o/\p≠i1/\p≠i2:=fun p h=>by
  simp only[zfp,Qq,Qg,J4,not_or]at h
  exact⟨h.1,h.2.2.1,h.2.2.2.1,h.2.2.2.2⟩
 obtain⟨az,ao,a1,a2⟩:=nz p1 n1
 obtain⟨bz,bo,b1,b2⟩:=nz p2 n2
 have ty:s.TypeIs (.ref z) "zip":=⟨_,hz,rfl⟩
 unfold pyNext
 refine wpAny_bind (Ji (Q4 (name:=Str.ofString "__next__") ty Yu (Q1 Yu ty F.entry_zip_next ?_ (F.args_zip_next_1 _))))
 show wpAny _ _ (field (.ref z) 2 >>= _) _ _ _;refine wpAny_bind (Zw hz rfl (x:=.bool false) rfl ?_)
 show wpAny _ _ (field (.ref z) 3 >>= _) _ _ _;refine wpAny_bind (Zw hz rfl (x:=.ref u) rfl (wpAny_bind (ZH hu rfl ?_)))
 show wpAny _ _ (Builtin.SmallTypes.ownedTupleIsFree (.ref z) >>= _) _ _ _;refine wpAny_bind ?_;unfold Builtin.SmallTypes.ownedTupleIsFree
 refine wpAny_bind (Zw hz rfl (x:=.none) rfl (Qd ?_));simp only[ZD]
 refine wpAny_bind (Vs (wpAny_bind (Zw hz rfl (x:=.ref o) rfl (wpAny_bind (wpAny_setField_rec hz (by simp) fun g1 e1 b1'=>?_)))))
 replace e1:IsZip g1 z u o .ellipsis:=e1
 refine wpAny_bind ?_;simp only[List.zipIdx_cons,List.zipIdx_nil,Vz,VI]
 -- the first
 refine wpAny_bind (wpAny_bind (Y9 ?_));show wpAny _ _ (Builtin.SmallTypes.nextOf (.ref i1) >>= _) _ _ _
 refine wpAny_bind (x7t (h1.extBut b1'.extBut (Zi z1)) (t1.extBut b1'.extBut az) ex fun g2 e2 c2=>Qd ?_)
 have q2:IsPair g2 o a b:=c2.extBut _ _ o1 (b1'.extBut _ _ (Zi zo) ho)
 refine wpAny_bind (ZH q2 rfl (wpAny_bind (y24 (g:=g2) q2 fun g3 e3 c3=>wpAny_bind (wpAny_letGo (Qd ?_)))))
 replace e3:IsPair g3 o x b:=e3
 -- the second
 refine wpAny_bind (wpAny_bind (Y9 ?_));show wpAny _ _ (Builtin.SmallTypes.nextOf (.ref i2) >>= _) _ _ _
 refine wpAny_bind (x7t (((h2.extBut b1'.extBut (Zi z2)).extBut c2.extBut (Zi i12)).extBut c3.extBut (Zi o2)) (((t2.extBut b1'.extBut bz).extBut c2.extBut b1).extBut c3.extBut bo) ey fun g4 e4 c4=>Qd ?_)
 have q4:IsPair g4 o x b:=c4.extBut _ _ o2 e3
 refine wpAny_bind (ZH q4 rfl (wpAny_bind (y24 (g:=g4) q4 fun g5 e5 c5=>wpAny_bind (wpAny_letGo (Qd (Qd ?_))))))
 replace e5:IsPair g5 o x y:=e5
 refine wpAny_bind (ZH e5 rfl (wpAny_bind (wpAny_newTuple ?_)))
 have sz:g5.objs.size=s.heap.objs.size:=by rw[c5.1,c4.1,c3.1,c2.1,b1'.1]
 have z5:IsZip g5 z u o .ellipsis:=c5.extBut _ _ zo (c4.extBut _ _ z2 (c3.extBut _ _ zo (c2.extBut _ _ z1 e1)))
 have kp:∀ c q,c≠z->c≠o->c≠i1->c≠i2->s.heap.get? c=some q->g5.get? c=some q:=fun c q x1 x2 x3 x4 e=>c5.extBut _ _ x2 (c4.extBut _ _ x4 (c3.extBut _ _ x2 (c2.extBut _ _ x3 (b1'.extBut _ _ x1 e))))
 have w1:g5.IsTupleIter i1 p1 (n+1):=((e2.extBut c3.extBut (Zi o1)).extBut c4.extBut i12).extBut c5.extBut (Zi o1)
 have w2:g5.IsTupleIter i2 p2 (n+1):=e4.extBut c5.extBut (Zi o2)
 have zl:z<g5.objs.size:=Qm z5
 show wpAny _ _ (Builtin.SmallTypes.ownedTupleHandOut (.ref z) (.ref g5.objs.size) >>= _) _ _ _;refine wpAny_bind ?_;unfold Builtin.SmallTypes.ownedTupleHandOut
 have z6:IsZip (g5.push { cls:=.type "tuple",data:=.seq #[x,y] }) z u o .ellipsis:=Qb _ z5
 refine wpAny_bind (wpAny_setField_rec z6 (by simp) fun g7 e7 c7=>?_)
 replace e7:IsZip g7 z u o (rawInt g5.objs.size):=e7
 refine wpAny_setField_rec e7 (by simp) fun g8 e8 c8=>?_
 replace e8:IsZip g8 z u o (rawInt g5.objs.size):=e8
 have up:∀ c q,c≠z->g5.get? c=some q->g8.get? c=some q:=fun c q h e=>c8.extBut _ _ h (c7.extBut _ _ h (Qb _ e))
 have nw:IsPair g8 g5.objs.size x y:=c8.extBut _ _ (YA zl) (c7.extBut _ _ (YA zl) (Qo _ rfl))
 rw[sz]at e8 nw
 refine Qd ⟨_,rfl,Qd ?_⟩
 show Q (some (.ref g5.objs.size)) _
 rw[sz]
 refine k g8 ⟨e8,up _ _ (Zi zu) (kp _ _ (Zi zu) uo u1 u2 hu),⟨x,y,up _ _ (Zi zo) e5⟩,w1.at fun q e=>up _ q (Zi z1) e,w2.at fun q e=>up _ q (Zi z2) e⟩ nw fun c q h e=>?_
 obtain⟨y1,y2,y3,y4⟩:=nz c h
 exact up c q y1 (kp c q y1 y2 y3 y4 e)
theorem z3i{o:Addr}{Q:Option Value->Shared->Prop}(hh:A.handled=none)(d:ZA z u o i1 i2)(Z:ZT s.heap z u o i1 i2 p1 p2 .none n n)(t1:s.heap.IsTuple p1 xs)(t2:s.heap.IsTuple p2 ys)
  (n1:p1 ∉ zfp z u o i1 i2) (n2:p2 ∉ zfp z u o i1 i2) (en:xs[n]? = none\/ys[n]? = none)
  (k:∀ g:Heap,(∀ c q,c ∉ zfp z u o i1 i2->s.heap.get? c=some q->g.get? c=some q)->Q none { s with heap:=g }) :
  wpAny (model prog w) A (pyNext (.ref z)) Q E s:=by
 obtain⟨zu,zo,z1,z2,uo,u1,u2,o1,o2,i12⟩:=d.ne
 obtain⟨hz,hu,⟨a,b,ho⟩,h1,h2⟩:=Z
 have nz:∀ p,p ∉ zfp z u o i1 i2->p≠z/\p≠o/\p≠i1/\p≠i2:=fun p h=>by
  simp only[zfp,Qq,Qg,J4,not_or]at h
  exact⟨h.1,h.2.2.1,h.2.2.2.1,h.2.2.2.2⟩
 obtain⟨az,ao,a1,a2⟩:=nz p1 n1
 obtain⟨bz,bo,b1,b2⟩:=nz p2 n2
 have ty:s.TypeIs (.ref z) "zip":=⟨_,hz,rfl⟩
 unfold pyNext
 refine wpAny_bind (Ji (Q4 (name:=Str.ofString "__next__") ty Yu (Q1 Yu ty F.entry_zip_next ?_ (F.args_zip_next_1 _))))
 show wpAny _ _ (field (.ref z) 2 >>= _) _ _ _;refine wpAny_bind (Zw hz rfl (x:=.bool false) rfl ?_)
 show wpAny _ _ (field (.ref z) 3 >>= _) _ _ _;refine wpAny_bind (Zw hz rfl (x:=.ref u) rfl (wpAny_bind (ZH hu rfl ?_)))
 show wpAny _ _ (Builtin.SmallTypes.ownedTupleIsFree (.ref z) >>= _) _ _ _;refine wpAny_bind ?_;unfold Builtin.SmallTypes.ownedTupleIsFree
 refine wpAny_bind (Zw hz rfl (x:=.none) rfl (Qd ?_));simp only[ZD]
 refine wpAny_bind (Vs (wpAny_bind (Zw hz rfl (x:=.ref o) rfl (wpAny_bind (wpAny_setField_rec hz (by simp) fun g1 e1 b1'=>?_)))))
 replace e1:IsZip g1 z u o .ellipsis:=e1
 refine wpAny_bind ?_;simp only[List.zipIdx_cons,List.zipIdx_nil,Vz,VI]
 have away:∀ (g:Heap) x,IsZip g z u o .ellipsis->(∃ q,g.get? x=some q/\q.cls=.type "StopIteration")->x≠z:=fun g x e ⟨q,e',c'⟩ h=>by
  subst h;rw[e]at e';cases e';simp at c'
 refine wpAny_bind (wpAny_bind (Y9 ?_));show wpAny _ _ (Builtin.SmallTypes.nextOf (.ref i1) >>= _) _ _ _
 cases ex:xs[n]? with
 | none=>
  refine wpAny_bind (y3b hh (h1.extBut b1'.extBut (Zi z1)) (t1.extBut b1'.extBut az) ex fun g2 x c2 hx=>?_)
  have e2:IsZip g2 z u o .ellipsis:=c2 _ _ z1 e1
  have xz:=away g2 x e2 hx
  obtain⟨q,hq,cq⟩:=hx
  refine wpAny_setField_rec e2 (by simp) fun g3 _ c3=>?_
  refine wpAny_bind (JC (T:="StopIteration") (b:=true) ⟨q,c3.extBut _ _ xz hq,cq⟩ YN (Qd (k g3 fun c r h e=>?_)))
  obtain⟨y1,y2,y3,y4⟩:=nz c h
  exact c3.extBut _ _ y1 (c2 _ _ y3 (b1'.extBut _ _ y1 e))
 | some x=>
  have ey:ys[n]? = none:=by rcases en with h|h;rw[ex]at h;cases h;exact h
  refine wpAny_bind (x7t (h1.extBut b1'.extBut (Zi z1)) (t1.extBut b1'.extBut az) ex fun g2 e2 c2=>Qd ?_)
  have q2:IsPair g2 o a b:=c2.extBut _ _ o1 (b1'.extBut _ _ (Zi zo) ho)
  refine wpAny_bind (ZH q2 rfl (wpAny_bind (y24 (g:=g2) q2 fun g3 e3 c3=>wpAny_bind (wpAny_letGo (Qd ?_)))))
  refine wpAny_bind (wpAny_bind (Y9 ?_));show wpAny _ _ (Builtin.SmallTypes.nextOf (.ref i2) >>= _) _ _ _
  refine wpAny_bind (y3b hh (((h2.extBut b1'.extBut (Zi z2)).extBut c2.extBut (Zi i12)).extBut c3.extBut (Zi o2)) (((t2.extBut b1'.extBut bz).extBut c2.extBut b1).extBut c3.extBut bo) ey fun g4 x' c4 hx=>?_)
  have e4:IsZip g4 z u o .ellipsis:=c4 _ _ z2 (c3.extBut _ _ zo (c2.extBut _ _ z1 e1))
  have xz:=away g4 x' e4 hx
  obtain⟨q,hq,cq⟩:=hx
  refine wpAny_setField_rec e4 (by simp) fun g5 _ c5=>?_
  refine wpAny_bind (JC (T:="StopIteration") (b:=true) ⟨q,c5.extBut _ _ xz hq,cq⟩ YN (Qd (k g5 fun c r h e=>?_)))
  obtain⟨y1,y2,y3,y4⟩:=nz c h
  exact c5.extBut _ _ y1 (c4 _ _ y4 (c3.extBut _ _ y2 (c2.extBut _ _ y3 (b1'.extBut _ _ y1 e))))
theorem z3f(t1:s.heap.IsTuple p1 xs)(t2:s.heap.IsTuple p2 ys)
  (k:∀ g:Heap,ZT g (s.heap.objs.size+4) (s.heap.objs.size+2) (s.heap.objs.size+3) s.heap.objs.size (s.heap.objs.size+1) p1 p2 .none 0 0->(∀ c q,s.heap.get? c=some q->g.get? c=some q)->Q (.ref (s.heap.objs.size+4)) { s with heap:=g }) :
  wpAny (model prog w) A (call (.type "zip") [.ref p1,.ref p2]) Q E s:=by
 let g1:=s.heap.push { cls:=.type "tuple_iterator",data:=.fields #[.ref p1,.int 0 0] }
 let g2:=g1.push { cls:=.type "tuple_iterator",data:=.fields #[.ref p2,.int 0 0] }
 let g3:=g2.push { cls:=.type "tuple",data:=.seq #[.ref s.heap.objs.size,.ref g1.objs.size] }
 let g4:=g3.push { cls:=.type "tuple",data:=.seq #[.none,.none] }
 let g5:=g4.push { cls:=.type "zip",data:=.fields #[.none,.bool false,.bool false,.ref g2.objs.size,.ref g3.objs.size] }
 have mt:Meets (Builtin.«zip.__new__» ⟨[.type "zip",.ref p1,.ref p2],[]⟩) (fun _ R s'=>s'=s/\R (.ok (.ret (.ref g4.objs.size))) { s with heap:=g5 }):=.of_wp fun prog w A R s' h=>by
  obtain⟨rfl,h⟩:=h
  have hsub:=sub_zip
  obtain⟨hp,gn,dr,tk,os⟩:=s'
  have q1:Heap.IsTuple (Shared.heap ⟨hp,gn,dr,tk,os⟩) p1 xs:=t1
  have q2:Heap.IsTuple (Shared.heap ⟨hp.push { cls:=.type "tuple_iterator",data:=.fields #[.ref p1,.int 0 0] },gn,dr,tk,os⟩) p2 ys:=t2.push _
  wp_walk using YK q1,YK q2
  exact⟨_,rfl,h⟩
 refine callType_new F.called_zip (by decide) (F.typeCall_zip_2 _ _) (F.newCall_zip_2 _ _) (fun obj=>F.args_object_init_3 obj _ _) F.entry_zip_new mt ⟨rfl,?_⟩
 have s1:g1.objs.size=s.heap.objs.size+1:=Zt ..
 have s2:g2.objs.size=s.heap.objs.size+2:=by rw[Zt,s1]
 have s3:g3.objs.size=s.heap.objs.size+3:=by rw[Zt,s2]
 have s4:g4.objs.size=s.heap.objs.size+4:=by rw[Zt,s3]
 have a5:g5.get? g4.objs.size=some { cls:=.type "zip",data:=.fields #[.none,.bool false,.bool false,.ref g2.objs.size,.ref g3.objs.size] }:=Qo _ rfl
 have up4:∀ {c q},g3.get? c=some q->g5.get? c=some q:=fun e=>Qb _ (Qb _ e)
 have a4:g5.get? g3.objs.size=some { cls:=.type "tuple",data:=.seq #[.none,.none] }:=Qb _ (Qo _ rfl)
 have a3:g5.get? g2.objs.size=some { cls:=.type "tuple",data:=.seq #[.ref s.heap.objs.size,.ref g1.objs.size] }:=up4 (Qo _ rfl)
 have a2:g5.get? g1.objs.size=some { cls:=.type "tuple_iterator",data:=.fields #[.ref p2,.int 0 0] }:=up4 (Qb _ (Qo _ rfl))
 have a1:g5.get? s.heap.objs.size=some { cls:=.type "tuple_iterator",data:=.fields #[.ref p1,.int 0 0] }:=up4 (Qb _ (Qb _ (Qo _ rfl)))
 rw[s2,s3,s4]at a5
 rw[s3]at a4
 rw[s1,s2]at a3
 rw[s1]at a2
 show _/\_
 rw[s4]
 exact⟨⟨_,a5,rfl⟩,k g5 ⟨a5,a3,⟨_,_,a4⟩,⟨_,a1,rfl,rfl⟩,⟨_,a2,rfl,rfl⟩⟩ fun c q e=>up4 (Qb _ (Qb _ (Qb _ e)))⟩
end
theorem z0g{pins:List (Addr×Obj)}{s:Shared}{h':Heap}{t':Nat}{ch:List Addr}(I:Inv X pins σ H s)(k:∀ b o,b ∉ ch->s.heap.get? b=some o->h'.get? b=some o)(hf:∀ b∈ch,z0z X pins H b) :
  Inv X pins σ H { s with heap:=h',toks:=t' }:=by
 have nit:∀ b u,H b=some u->b ∉ ch:=fun b u e z=>by rw[(hf b z).1]at e;cases e
 refine I.step (g':=s.gens) (d':=s.drawn) (ch:=ch) (fun b hb=>?_) (fun b o _ _ hc e _=>k b o hc e) (fun b o _ _ hc e _=>⟨o.slots,k b o hc e⟩) (fun _ _ _ _ n=>n)
  (fun b o hc e=>⟨o,k b o hc e⟩) (fun _ _ e=>e) (fun _ _ _ e=>e) (fun b ps e=>⟨#[],by rw[e];simp⟩) (fun m hm=>?_) (fun b u e=>?_) I.bare
 ·obtain⟨f0,f1,f2,f3,f4,f5⟩:=hf b hb
  exact⟨f3,f1,f4,f5⟩
 ·obtain⟨o,es,ep,ho,r⟩:=hm
  exact⟨o,es,ep,k _ o (fun z=>(hf _ z).2.1 rfl) ho,r⟩
 ·refine(I.hok b u e).stay (fun c v hc q=>k c v ?_ q) (fun _ q=>q) fun _ _ q=>q
  rcases hc with z|z
  ·rw[z];exact nit b u e
  ·exact nit c _ z
def Itz (K:PySem.W.Frag)(p1 p2:Addr):It:=
 ⟨fun i H=>∃ xs ys x y,SqT K H p1 xs/\SqT K H p2 ys/\xs[i]? = some x/\ys[i]? = some y,
  fun i H v H'=>∃ T x y,v=.ref T/\H T=none/\(∀ xs,SqT K H p1 xs->xs[i]? = some x)/\(∀ ys,SqT K H p2 ys->ys[i]? = some y)/\H'=upd H T (.tup [x,y]),
  fun i H=>∃ xs ys,SqT K H p1 xs/\SqT K H p2 ys/\(xs.length<=i\/ys.length<=i)⟩
theorem z2n{w:World}{elts:List Expr}{kt:Nat}{tp:Pos}(z u o i1 i2 p1 p2:Addr)(d:ZA z u o i1 i2)(n1:p1 ∉ zfp z u o i1 i2)(n2:p2 ∉ zfp z u o i1 i2) :
  Turn P w K (.Tuple elts kt tp) (Itz K p1 p2) (zfp z u o i1 i2) z (fun i h=>ZT h z u o i1 i2 p1 p2 .none i i) where
 mem:=by simp[zfp]
 obj:=fun i h st b hb=>by
  obtain⟨hz,hu,⟨a,c,ho⟩,⟨o1,e1,c1,d1⟩,⟨o2,e2,c2,d2⟩⟩:=st
  simp only[zfp,Qq,Qg,J4]at hb
  rcases hb with rfl|rfl|rfl|rfl|rfl
  ·exact⟨_,hz,fun v e=>nomatch e⟩
  ·exact⟨_,hu,fun v e=>nomatch e⟩
  ·exact⟨_,ho,fun v e=>nomatch e⟩
  ·exact⟨_,e1,fun v e=>by rw[d1]at e;cases e⟩
  ·exact⟨_,e2,fun v e=>by rw[d2]at e;cases e⟩
 keep:=fun i h h' st k=>by
  obtain⟨hz,hu,⟨a,c,ho⟩,h1,h2⟩:=st
  exact⟨k z (by simp[zfp]) _ hz,k u (by simp[zfp]) _ hu,⟨a,c,k o (by simp[zfp]) _ ho⟩,h1.at fun q e=>k i1 (by simp[zfp]) q e,h2.at fun q e=>k i2 (by simp[zfp]) q e⟩
 item:=by
  intro X hP hw hK hc i pins s σ H E I hf st hg
  subst hP hw hK
  obtain⟨xs,ys,x,y,q1,q2,ex,ey⟩:=hg
  obtain⟨as,ra,ta,_⟩:=I.tuple q1
  obtain⟨bs,rb,tb,_⟩:=I.tuple q2
  obtain⟨ux,hx,rx⟩:=ra.get ex
  obtain⟨uy,hy,ry⟩:=rb.get ey
  refine y97 d st (show s.heap.IsTuple p1 as.toArray from ta) (show s.heap.IsTuple p2 bs.toArray from tb) n1 n2 (by simpa using hx) (by simpa using hy) fun g Z nw kp=>?_
  refine⟨_,rfl,wpAny_letOwnedTupleGo_zip (s:={ s with heap:=g }) Z.hz fun g' hz' sb=>?_⟩
  have fr:H s.heap.objs.size=none:=I.hok.fresh (Qi _)
  have I1:Inv X pins σ (upd H s.heap.objs.size (.tup [x,y])) { s with heap:=s.heap.push { cls:=.type "tuple",data:=.seq #[ux,uy] } }:=
   I.laid (t':=s.toks) (fun b q e=>Qb _ e) (Qi _) (show x1q X.prog X.w _ _ _ (.tup _)from⟨(by show 2<=sizeLine;decide),[ux,uy],.cons rx (.cons ry .nil),x4e.new _ _⟩)
  have lt:∀ b∈zfp z u o i1 i2,b<s.heap.objs.size:=fun b hb=>by
   obtain⟨hz,hu,⟨a,c,ho⟩,⟨o1,e1,_⟩,⟨o2,e2,_⟩⟩:=st
   simp only[zfp,Qq,Qg,J4]at hb
   rcases hb with rfl|rfl|rfl|rfl|rfl
   ·exact Qm hz
   ·exact Qm hu
   ·exact Qm ho
   ·exact Qm e1
   ·exact Qm e2
  have hn:∀ b∈zfp z u o i1 i2,upd H s.heap.objs.size (.tup [x,y]) b=none:=fun b hb=>by rw[x0e (QM (lt b hb))];exact(hf b hb).1
  have I2:Inv X pins σ (upd H s.heap.objs.size (.tup [x,y])) { s with heap:=g' }:=z0g (s:={ s with heap:=s.heap.push { cls:=.type "tuple",data:=.seq #[ux,uy] } }) (t':=s.toks) (ch:=zfp z u o i1 i2) I1 (fun b q nb e=>by
   have bz:b≠z:=fun h=>nb (by simp[zfp,h])
   rcases Heap.get?_push_cases e with⟨rfl,rfl⟩|e'
   ·exact sb.extBut _ _ bz nw
   ·exact sb.extBut _ _ bz (kp b q nb e')) fun b hb=>by
     obtain⟨f0,f1,f2,f3,f4,f5⟩:=hf b hb
     exact⟨hn b hb,f1,f2,f3,f4,f5⟩
  refine⟨.ref s.heap.objs.size,_,I2,rfl,⟨s.heap.objs.size,x,y,rfl,fr,fun zs hz=>?_,fun zs hz=>?_,rfl⟩,?_,hn⟩
  ·rw[I.tuple_inj hz q1];exact ex
  ·rw[I.tuple_inj hz q2];exact ey
  ·obtain⟨_,hu,⟨a,c,ho⟩,h1,h2⟩:=Z
   obtain⟨zu,zo,z1,z2,_⟩:=d.ne
   exact⟨hz',sb.extBut _ _ (Zi zu) hu,⟨a,c,sb.extBut _ _ (Zi zo) ho⟩,h1.extBut sb.extBut (Zi z1),h2.extBut sb.extBut (Zi z2)⟩
 done:=by
  intro X hP hw hK hc i pins s σ H E I hf st hg
  subst hP hw hK
  obtain⟨xs,ys,q1,q2,hx⟩:=hg
  obtain⟨as,ra,ta,_⟩:=I.tuple q1
  obtain⟨bs,rb,tb,_⟩:=I.tuple q2
  have la:=ra.length
  have lb:=rb.length
  refine z3i (I.ok.hd hc) d st (show s.heap.IsTuple p1 as.toArray from ta) (show s.heap.IsTuple p2 bs.toArray from tb) n1 n2 (by rcases hx with h|h;exact .inl (by simp;omega);exact .inr (by simp;omega)) fun g kp=>⟨rfl,?_⟩
  exact z0g (t':=s.toks) (ch:=zfp z u o i1 i2) I (fun b q nb e=>kp b q nb e) hf
 self:=fun _ _ _ _ _ st h=>wpAny_pyIter_zip st.hz h
section
variable {X:Cx}{a b c e:Expr}{es elts:List Expr}{fa fb fc f:Den}{g:x47}{pos p p1 p2 tp:Pos}{kt:Nat}
def j3t (K:PySem.W.Frag)(ta:TA):TI:=fun σ H R=>ta σ H fun vs H1=>∃ p1 p2,vs=[.ref p1,.ref p2]/\(∃ xs,SqT K H1 p1 xs)/\(∃ ys,SqT K H1 p2 ys)/\R (Itz K p1 p2) H1
theorem j0j{ta:TA}(hg:Gl X "zip")(hm:X.mg "zip" = none)(ha:PA X [a,b] ta)(hs:starEach [a,b] X.env=[(false,eval a X.env),(false,eval b X.env)]:=by rfl)(hs2:starEach [b] X.env=[(false,eval b X.env)]:=by rfl) :
  PI X (.Tuple elts kt tp) (.Call (.Name "zip" p) [a,b] [] pos) (j3t X.K ta):=by
 intro pins s σ H R I h
 refine Call_ (y1f I hg hm boot_zip (ZZ (thn (ha pos pins s σ H _ I h) fun us s1 ⟨vs,H1,I1,r1,q1⟩=>?_) (by rw[hs,hs2]) (by rw[hs2];rfl)))
 obtain⟨p1,p2,e,⟨xs,hx⟩,⟨ys,hy⟩,q⟩:=q1
 subst e
 cases r1 with
 | cons r rr=>
  cases rr with
  | cons r' rr=>
   cases rr
   cases r
   cases r'
   obtain⟨as,ra,ta',_⟩:=I1.tuple hx
   obtain⟨bs,rb,tb,_⟩:=I1.tuple hy
   have l1:p1<s1.heap.objs.size:=by obtain⟨_,e,_⟩:=ta';exact Qm e
   have l2:p2<s1.heap.objs.size:=by obtain⟨_,e,_⟩:=tb;exact Qm e
   refine z3f (show s1.heap.IsTuple p1 as.toArray from ta') (show s1.heap.IsTuple p2 bs.toArray from tb) fun g Z kp=>?_
   have I2:Inv X pins σ H1 { s1 with heap:=g }:=I1.kept (t':=s1.toks) kp
   refine wpAny_pyIter_zip Z.hz ?_
   have dd:ZA (s1.heap.objs.size+4) (s1.heap.objs.size+2) (s1.heap.objs.size+3) s1.heap.objs.size (s1.heap.objs.size+1):=⟨by
    generalize s1.heap.objs.size=n
    unfold zfp
    simp only[QW,Qq,Qg,J4,not_or,not_false_eq_true,Jp,and_true]
    have ne:∀ {x y:Nat},x≠y->(x:Addr)≠(y:Addr):=fun h=>h
    refine⟨⟨ne ?_,ne ?_,ne ?_,ne ?_⟩,⟨ne ?_,ne ?_,ne ?_⟩,⟨ne ?_,ne ?_⟩,ne ?_⟩<;>(intro h;have h':(_:Nat)=(_:Nat):=h;omega)⟩
   have far:∀ b∈zfp (s1.heap.objs.size+4) (s1.heap.objs.size+2) (s1.heap.objs.size+3) s1.heap.objs.size (s1.heap.objs.size+1),s1.heap.objs.size<=b:=fun b hb=>by
    simp only[zfp,Qq,Qg,J4]at hb
    rcases hb with rfl|rfl|rfl|rfl|rfl<;>first|exact Qi _|exact Yh _ _
   refine⟨s1.heap.objs.size+4,zfp (s1.heap.objs.size+4) (s1.heap.objs.size+2) (s1.heap.objs.size+3) s1.heap.objs.size (s1.heap.objs.size+1),_,_,H1,rfl,I2,z2n _ _ _ _ _ p1 p2 dd (fun h=>absurd (far _ h) (Nat.not_le_of_lt l1)) (fun h=>absurd (far _ h) (Nat.not_le_of_lt l2)),Z,fun b hb=>?_,q⟩
   exact I1.fpOk (far b hb) (I1.hok.fresh (far b hb))
@[simp] def z1v (g:x47):y6n:=fun ρ=>match g ρ with
 | some ([.tup ds,.tup es],ρ1)=>if ds.length<=1000 then some ((ds.zip es).map fun x=>.tup [x.1,x.2],ρ1)else none
 | _=>none
theorem It.zip{p1 p2:Addr}{ds es:List D}(l1:ds.length=vs.length)(l2:es.length=us.length):ItOk K (Itz K p1 p2) ((ds.zip es).map fun x=>.tup [x.1,x.2]) fun H w=>SqT K H p1 vs/\SqT K H p2 us/\Reps K H w .f 0 ds vs []/\Reps K H w .f 0 es us []:=by
 refine⟨fun i H w p hi=>?_,fun i H w x H' d p wl hd y=>?_,fun H w p=>⟨vs,us,p.1,p.2.1,?_⟩,fun H w H' w' p wl st=>⟨SqT.go wl st p.1,SqT.go wl st p.2.1,Reps.go wl st p.2.2.1 (fun _ z=>nomatch z),Reps.go wl st p.2.2.2 (fun _ z=>nomatch z)⟩⟩
 ·have hi':i<vs.length/\i<us.length:=by simp[Z8]at hi;omega
  exact⟨vs,us,vs[i]'hi'.1,us[i]'hi'.2,p.1,p.2.1,by simp[hi'.1],by simp[hi'.2]⟩
 ·obtain⟨T,v,u,rfl,hT,hv,hu,rfl⟩:=y
  obtain⟨q1,q2,r1,r2⟩:=p
  rw[Ql]at hd
  cases hz:(ds.zip es)[i]? with
  | none=>rw[hz]at hd;cases hd
  | some de=>
   rw[hz]at hd
   cases hd
   obtain⟨e1,e2⟩:=YU.mp hz
   obtain⟨v',hv',rv⟩:=r1.get e1
   obtain⟨u',hu',ru⟩:=r2.get e2
   have ev:v'=v:=by have:=hv vs q1;rw[hv']at this;exact QC this
   have eu:u'=u:=by have:=hu us q2;rw[hu']at this;exact QC this
   subst ev eu
   have mo:∀ a o,H a=some o->upd H T (.tup [v',u']) a=some o:=fun a o e=>by rw[x0e (x0r e hT)];exact e
   have st:x63 H w (upd H T (.tup [v',u'])) w:=fun a x e n=>⟨sm (mo a x e),n⟩
   exact⟨⟨mo,fun t=>t.upd rfl (.inl hT)⟩,.tup x0y (.cons (F:=[]) (G:=[]) (Rep.go0 rv wl st) (.cons (F:=[]) (G:=[]) (Rep.go0 ru wl st) .nil (fun _ z=>nomatch z)) (fun _ z=>nomatch z)),SqT.go wl st q1,SqT.go wl st q2,r1.go0 wl st,r2.go0 wl st⟩
 ·simp[Z8];omega
theorem z7g(hm:X.mg "zip" = none)(ha:QDA X [a,b] g)(hg:Gl X "zip":=by rfl)(hs:starEach [a,b] X.env=[(false,eval a X.env),(false,eval b X.env)]:=by rfl)(hs2:starEach [b] X.env=[(false,eval b X.env)]:=by rfl):QDI X (.Tuple elts kt tp) (.Call (.Name "zip" p) [a,b] [] pos) (z1v g):=⟨have ha:=ha.o;PI.imp (j0j hg hm ha hs hs2) fun σ H R hh0=>by
 obtain⟨ρ,w,t,ds,ρ',gd,ee,k⟩:=hh0
 unfold z1v at ee
 split at ee
 ·rename_i d1 d2 ρ1 h1
  split at ee
  ·rename_i hl
   cases ee
   refine⟨ρ,w,t,_,_,gd,h1,fun vs H1 w1 g1 go1 r1=>?_⟩
   obtain⟨v,v',rfl,rv,rv'⟩:=two r1
   obtain⟨p1,as,rfl,q1,s1⟩:=rv.seqT
   obtain⟨p2,bs,rfl,q2,s2⟩:=rv'.seqT
   refine⟨p1,p2,rfl,⟨_,q1⟩,⟨_,q2⟩,k _ _ H1 w1 g1 go1 (It.zip s1.length s2.length) ⟨q1,q2,s1,s2⟩ (x33 ?_)⟩
   simp[Z8];omega
  ·cases ee
 ·cases ee⟩
end
abbrev y2h:=List D->Rho->Option Rho
def j48 (K:PySem.W.Frag)(b:Nat)(pt:y2h):TGs:=fun vs σ H Q=>∃ ds ρ w t ρ',Good K ρ σ H w t/\Reps K H w .f 0 ds vs []/\pt ds ρ=some ρ'/\∀ σ' H' w',σ'.length=σ.length->(∀ i,i<b->σ'[i]? = σ[i]?)->Good K ρ' σ' H' w' t->Go H w H' w'->Q σ' H'
theorem PGs.imp{tg:List Expr}{t t':TGs}(h:PGs X tg t)(i:∀ v σ H Q,t' v σ H Q->t v σ H Q):PGs X tg t':=fun pins s σ H v u Q I r q=>h pins s σ H v u Q I r (i v σ H Q q)
abbrev j3w (X:Cx)(b:Nat)(tg:List Expr)(pt:y2h):Prop:=PGs X tg (j48 X.K b pt)
structure QDGs (X:Cx) (b:Nat) (e:List Expr) (f:y2h):Prop where mk::o:j3w X b e f
@[simp] def x5z:y2h:=fun ds ρ=>match ds with
 | []=>some ρ
 | _=>none
@[simp] def x13 (pt:x8u)(ps:y2h):y2h:=fun ds ρ=>match ds with
 | []=>none
 | d::r=>match pt d ρ with
  | some ρ1=>ps r ρ1
  | none=>none
@[simp] def y6b (ps:y2h):x8u:=fun d ρ=>match d with
 | .tup ds=>ps ds ρ
 | _=>none
section
variable {X:Cx}{k b:Nat}{e:Expr}{es:List Expr}{pt:x8u}{ps:y2h}{pos:Pos}
theorem x6z:QDGs X b [] x5z:=⟨PGs.imp z59 fun v σ H Q hh0=>by
 obtain⟨ds,ρ,w,t,ρ',g,r,e,k⟩:=hh0
 unfold x5z at e
 split at e
 ·cases e
  generalize hF:([]:List Addr)=F at r
  cases r
  exact⟨rfl,k σ H w rfl (fun _ _=>rfl) g Go.refl⟩
 ·cases e⟩
theorem x28(h1:QDG X b e pt)(h2:QDGs X b es ps)(hs:(assignEach (e::es) X.env).map (·.2)=assign e X.env::(assignEach es X.env).map (·.2):=by rfl):QDGs X b (e::es) (x13 pt ps):=⟨have h1:=h1.o;have h2:=h2.o;PGs.imp (z3g h1 h2 hs) fun v σ H Q hh0=>by
 obtain⟨ds,ρ,w,t,ρ',g,r,e,k⟩:=hh0
 unfold x13 at e
 split at e
 ·cases e
 ·rename_i d x2o
  split at e
  ·rename_i ρ1 h1
   generalize hF:([]:List Addr)=F at r
   cases r with
   | cons ra rb _=>
    have z1:=ra.zero
    have z2:=rb.zero
    subst z1 z2
    refine⟨_,_,rfl,d,ρ,w,t,ρ1,g,ra,h1,fun σ1 H1 w1 l1 s1 g1 go1=>⟨x2o,ρ1,w1,t,ρ',g1,rb.go0 g.wl go1.stab,e,fun σ2 H2 w2 l2 s2 g2 go2=>k σ2 H2 w2 (l2.trans l1) (fun i hi=>(s2 i hi).trans (s1 i hi)) g2 (go1.trans go2)⟩⟩
  ·cases e⟩
theorem x9w(hc:X.calm=true)(h:QDGs X b es ps)(hl:∀ ds ρ ρ',ps ds ρ=some ρ'->ds.length=n)(hn:(assignEach es X.env).length=n:=by rfl)(hst:(assignEach es X.env).findIdx? (·.1)=none:=by rfl):QDG X b (.Tuple es k pos) (y6b ps):=⟨have h:=h.o;PG.imp (j0w hc h hn hst) fun v σ H Q hh0=>by
 obtain⟨d,ρ,w,t,ρ',g,r,e,k⟩:=hh0
 unfold y6b at e
 split at e
 ·rename_i ds
  obtain⟨a,vs,rfl,hq,rs⟩:=r.seqT
  exact⟨a,vs,rfl,hq,by rw[<- rs.length];exact hl _ _ _ e,ds,ρ,w,t,ρ',g,rs,e,k⟩
 ·cases e⟩
theorem y1w{p q:x8u}:∀ ds ρ ρ',x13 p (x13 q x5z) ds ρ=some ρ'->ds.length=2:=fun ds ρ ρ' h=>by
 match ds with
 | []=>cases h
 | [_]=>unfold x13 at h;simp at h;split at h<;>cases h
 | [_,_]=>rfl
 | _::_::_::_=>
  exfalso
  unfold x13 at h
  simp at h
  split at h
  ·split at h<;>cases h
  ·cases h
end
theorem y3q:∀ {bs:List Bool} {us:List Value},x1w (bs.map V.bl) us->LSm.BoolsAre us bs
 | [],_,h=>by cases h;exact .nil
 | b::bs,_,h=>by
  cases h with
  | cons r rr=>
   cases r
   exact .cons b (y3q rr)
section
variable {X:Cx}{a b c e:Expr}{es:List Expr}{fa fb fc f:Den}{g:x47}{pos p p1 p2:Pos}
theorem z2q(hc:X.calm=true):x7b X (.builtin "all") (fun xs H Q=>∃ (a:Addr) (bs:List Bool),xs=[.ref a]/\SqL X.K H a (bs.map V.bl)/\Q (.bl (bs.all id)) H):=by
 intro pins s σ H xs us Q I r h
 obtain⟨l,bs,rfl,hq,q⟩:=h
 obtain⟨u,rfl,ru⟩:=x9m r
 cases ru
 obtain⟨its,rv,pl,hz⟩:=I.list hq
 have hb:=y3q rv
 have hl:s.heap.IsList l its.toArray:=pl.isList
 have lt:l<s.heap.objs.size:=by obtain⟨_,e,_⟩:=hl;exact Qm e
 refine call_all_walk (YZ hl ⟨s.heap.objs.size,[s.heap.objs.size,l],[s.heap.objs.size],its.toArray.size,_,_,fun i=>(bs[i]?).getD true,rfl,Walks.list (A:=X.A.in1) (I.ok.hd hc) _ l (QM lt) its.toArray,
  ⟨⟨_,Qo _ rfl,rfl,rfl⟩,hl.push _⟩,fun i v s' Q' E' hP hQ=>?_,fun h' tk hk=>?_⟩)
 ·obtain⟨b,e,rfl⟩:=hb.get i v (by simpa using hP)
  simp only[e,Option.getD_some]at hQ
  exact Ja hQ
 ·have e:((List.range its.toArray.size).all fun i=>(bs[i]?).getD true)=bs.all id:=by
   rw[Qn,hb.length];exact LSm.range_all bs
  rw[e]
  exact⟨.bl (bs.all id),H,I.kept fun b o z=>hk b o (fun m=>by rw[Q6.mp m]at z;exact QL _ (Qm z)) (Qb _ z),rfl,q⟩
def z40:List D->Option (List Bool)
 | []=>some []
 | .bl b::r=>(z40 r).map (b :: ·)
 | _=>none
def z7w:List D->Option D
 | [.lst ds]=>(z40 ds).map fun bs=>.bl (bs.all id)
 | _=>none
theorem y2q:∀ {ds:List D} {vs:List V} {bs:List Bool},Reps K H w o 0 ds vs []->z40 ds=some bs->vs=bs.map V.bl
 | ds,vs,bs,r,e=>by
  generalize hF:([]:List Addr)=F at r
  cases r with
  | nil=>cases e;rfl
  | @cons _ d v ds' vs' F' G' r1 r2 _=>
   have h2:G'=[]:=r2.zero
   subst h2
   cases r1 with
   | bl b=>
    unfold z40 at e
    cases e':z40 ds' with
    | none=>rw[e']at e;cases e
    | some bs'=>
     rw[e']at e
     cases e
     rw[y2q r2 e']
     rfl
   | _=>cases e
theorem z9q(hc:X.calm=true)(hm:X.mg "all" = none)(ha:QDA X [a] g)(hg:Gl X "all":=by rfl)(he:starEach [a] X.env=(false,eval a X.env)::starEach [] X.env:=by rfl)(hpl:(backTo pos (starEach [] X.env)).any (·.1)=false:=by rfl):QD X (.Call (.Name "all" p) [a] [] pos) (eB z7w g):=⟨have ha:=ha.o;PE.imp (x3i (z2q hc) hg hm PyProof.Rows.boot_all ha (by decide) (by decide) he hpl) (y8n fun ds d h=>by
  unfold z7w at h
  split at h
  ·rename_i ds0
   cases e:z40 ds0 with
   | none=>rw[e]at h;cases h
   | some bs=>
    rw[e]at h
    cases h
    refine⟨_,rfl,fun H w vs wl r Q hq=>?_⟩
    obtain⟨v,rfl,rv⟩:=one r
    obtain⟨p,ys,rfl,hs,rs⟩:=rv.seqL0
    rw[y2q rs e]at hs
    exact⟨p,bs,rfl,hs,hq⟩
  ·cases h)⟩
theorem z2y{α:Type}(l:List α)(f:α->Bool):z40 (l.map fun i=>.bl (f i))=some (l.map f):=by
 induction l with
 | nil=>rfl
 | cons a l ih=>rw[Qx,z40,ih];rfl
end
inductive IT where
 | int|bool|tuple|list|str
def IT.nm:IT->String
 | .int=>"int"
 | .bool=>"bool"
 | .tuple=>"tuple"
 | .list=>"list"
 | .str=>"str"
def isD:IT->D->Bool
 | .int,.int _=>true
 | .int,.bl _=>true
 | .bool,.bl _=>true
 | .tuple,.tup _=>true
 | .list,.lst _=>true
 | .str,.str _=>true
 | _,_=>false
def tyD:D->String
 | .non=>"NoneType"
 | .bl _=>"bool"
 | .int _=>"int"
 | .str _=>"str"
 | .tup _=>"tuple"
 | .dic _ _=>"dict"
 | .exc _=>"object"
 | .ob _ _ _ _=>"function"
 | .mp _ _=>"dict"
 | .lst _=>"list"
section
variable {X:Cx}{pins:List (Addr×Obj)}{σ:St}{H:Hp}{s:Shared}
theorem z9s{x:V}{u c:Value}{b:Bool}{A:Around}{E:Value->Shared->Prop}(I:Inv X pins σ H s)(rx:x2p x u)(r:Rep X.K H w o q d x F)
  (e:PySem.W.kitOne X.K (.type (tyD d)) c=some b) (hx:∀ nm,d ≠ .exc nm) (hi:∀ C fs ds,d ≠ .mp (.i C fs) ds) (h:∀ tk,Q (.bool b) { s with toks:=tk }):wpAny (model X.prog X.w) A (call (.builtin "isinstance") [u,c]) Q E s:=by
 cases r with
 | exc _ _ _=>exact absurd rfl (hx _)
 | ob h1 h2 x r=>
  cases rx
  obtain⟨e1,_⟩:=(show x1q X.prog X.w H s.heap _ (.frz _ _)from I.hok _ _ h1)
  exact Zl z25 I.kIn ⟨_,e1,x.1⟩ e (fun z=>nomatch z) h
 | non=>exact x1c I rx .non e h
 | bl y=>exact x1c I rx (.bl y) e h
 | int i=>exact x1c I rx (.int i) e h
 | str y=>exact x1c I rx (.str y) e h
 | tup ha _=>exact x1c I rx (.tup ha) e h
 | dic ha _ _=>exact x1c I rx (.dK ha) e h
 | kl ha _=>
  obtain⟨ob,its,n,hk,hc,hd,_⟩:=ha
  cases rx
  exact Zl YY I.kIn ⟨ob,I.kIn _ _ hk,hc⟩ e (fun z=>nomatch z) h
 | shr ha _ _=>
  rcases ha with ha|⟨ob,ha⟩
  ·exact x1c I rx (.lst ha) e h
  ·exact x1c I rx (.frz ha) e h
 | own ha _ _ _=>exact x1c I rx (.lst ha) e h
 | @mps a vs ds k y ha i _ _ _=>
  cases k with
  | t ks=>cases i;exact x1c I rx (.dT ha) e h
  | k ks=>cases i;exact x1c I rx (.dK ha) e h
  | i C fs=>exact absurd rfl (hi _ _ _)
 | @mpo q a vs ds k y ha i _ _ _=>
  cases k with
  | t ks=>cases i;exact x1c I rx (.dT ha) e h
  | k ks=>cases i;exact x1c I rx (.dK ha) e h
  | i C fs=>exact absurd rfl (hi _ _ _)
theorem z6s{C:Addr}{fs:List Str}{x:V}{u:Value}{A:Around}{E:Value->Shared->Prop}(I:Inv X pins σ H s)(rx:x2p x u)(r:Rep X.K H w o q (.mp (.i C fs) ds) x F)
  (T:IT) (h:∀ tk,Q (.bool false) { s with toks:=tk }):wpAny (model X.prog X.w) A (call (.builtin "isinstance") [u,.type T.nm]) Q E s:=by
 cases r with
 | mps ha i _ _ _=>
  obtain⟨dx,rfl,c⟩:=i
  exact x1c I rx (.ins ha c.cl c.ha c.hn c.htk c.hm) (c.no _ (by cases T<;>simp[IT.nm])) h
 | mpo ha i _ _ _=>
  obtain⟨dx,rfl,c⟩:=i
  exact x1c I rx (.ins ha c.cl c.ha c.hn c.htk c.hm) (c.no _ (by cases T<;>simp[IT.nm])) h
theorem z5p(T:IT)(d:D)(hx:∀ nm,d ≠ .exc nm):PySem.W.kitOne K (.type (tyD d)) (.type T.nm)=some (isD T d):=by
 cases T<;>cases d<;>first|rfl|exact absurd rfl (hx _)
end
section
variable {X:Cx}{a b c e:Expr}{es:List Expr}{fa fb fc f:Den}{ga gb:x4x}{g:x47}{pos p p1 p2 pT:Pos}
theorem z1y(T:IT):x7b X (.builtin "isinstance") (fun xs H Q=>∃ x w o q F d,xs=[x,.ty T.nm]/\Rep X.K H w o q d x F/\Q (.bl (isD T d)) H):=by
 intro pins s σ H xs us Q I r h
 obtain⟨x,w,o,q,F,d,rfl,rd,hq⟩:=h
 obtain⟨u,v,rfl,ru,rv⟩:=z9l r
 cases rv
 by_cases hx:∃ nm,d=.exc nm
 ·obtain⟨nm,rfl⟩:=hx
  cases rd with
  | exc ha xo _=>
   obtain⟨C,hc,k⟩:=xo
   cases ru
   obtain⟨e1,_⟩:=(show x1q X.prog X.w H s.heap _ (.frz _ _)from I.hok _ _ ha)
   have hT:isD T (.exc nm)=false:=by cases T<;>rfl
   rw[hT]at hq
   refine z88 (x:=_) I.kIn ⟨e1,hc⟩ k.xc (by cases T<;>kernel_rfl) (k.no _ (by cases T<;>simp[IT.nm])) ⟨.bl false,H,I.tok _,rfl,hq⟩
 ·by_cases hi:∃ C fs ds,d=.mp (.i C fs) ds
  ·obtain⟨C,fs,ds,rfl⟩:=hi
   exact z6s I ru rd T fun tk=>⟨.bl (isD T (.mp (.i C fs) ds)),H,I.tok _,by cases T<;>rfl,hq⟩
  ·exact z9s I ru rd (z5p T d fun nm z=>hx ⟨nm,z⟩) (fun nm z=>hx ⟨nm,z⟩) (fun C fs ds z=>hi ⟨C,fs,ds,z⟩) fun tk=>⟨.bl (isD T d),H,I.tok _,rfl,hq⟩
@[simp] def z7v (T:IT)(fa:Den):Den:=fun ρ=>match fa ρ with
 | some (d,_,ρ1)=>some (.bl (isD T d),9,ρ1)
 | none=>none
theorem y6i(T:IT){t:Str}(hm:X.mg "isinstance" = none)(hmT:X.mg t=none)(hbT:bootBuiltins t=some (.type T.nm))(ha:QD X a fa)(hg:Gl X "isinstance":=by rfl)(hgT:Gl X t:=by rfl)(hnT:t ≠ "__name__":=by decide)(hdT:(t==("__debug__":Str))=false:=by decide)(hs:starEach [a,.Name t pT] X.env=(false,eval a X.env)::starEach [.Name t pT] X.env:=by rfl)(hpl:(backTo pos (starEach [.Name t pT] X.env)).any (·.1)=false:=by rfl):QD X (.Call (.Name "isinstance" p) [a,.Name t pT] [] pos) (z7v T fa):=⟨have ha:=ha.o;PE.imp (x3i (z1y T) hg hm PyProof.Rows.boot_isinstance (x3y ha (x3y (z7r (v:=.ty T.nm) hgT hmT hbT rfl hnT hdT) x65 x04) hs) (by decide) (by decide) hs hpl) fun σ H Q hh0=>by
 obtain⟨ρ,w,t,r',q,ρ',gd,ee,k⟩:=hh0
 unfold z7v at ee
 split at ee
 ·rename_i d q1 ρ1 h1
  cases ee
  refine⟨ρ,w,t,_,_,_,gd,h1,fun v H1 w1 F1 g1 go1 r1=>?_⟩
  exact⟨v,w1,_,_,F1,d,rfl,r1,k _ H1 (x1l t w1) [] g1.drop.up (go1.drop gd.wt) (.bl _)⟩
 ·cases ee⟩
@[simp] def eCh (g1 g2:D->D->Option D)(fa fb fc:Den):Den:=fun ρ=>match fa ρ with
 | some (x,_,ρ1)=>match fb ρ1 with
  | some (y,_,ρ2)=>match g1 x y with
   | some (.bl true)=>match fc ρ2 with
    | some (z,_,ρ3)=>match g2 y z with
     | some d=>some (d,9,ρ3)
     | none=>none
    | none=>none
   | some (.bl false)=>some (.bl false,9,ρ2)
   | _=>none
  | none=>none
 | none=>none
theorem j0l{op op':CmpOp}{g1 g2:Int->Int->Option D}{h1 h2:Int->Int->V}(ho:OpR X (compareOp op) (rI0 h1))(ho':OpR X (compareOp op') (rI0 h2))(e1:∀ i j d,g1 i j=some d->y2i d=some (h1 i j))(e2':∀ i j d,g2 i j=some d->y2i d=some (h2 i j))
  (ha:PD X a fa) (hb:PD X b fb) (hc:PD X c fc) (hm:lastMarks [op,op'] [b,c]=false:=by with_unfolding_all rfl):PD X (.Compare a [op,op'] [b,c] pos) (eCh (gI g1) (gI g2) fa fb fc):=PE.imp (z3b ho ho' ha hb hc hm) fun σ H Q hh0=>by
 obtain⟨ρ,w,t,r',q,ρ',gd,ee,k⟩:=hh0
 unfold eCh at ee
 split at ee
 ·rename_i x q1 ρ1 a1
  split at ee
  ·rename_i y q2 ρ2 a2
   refine z5y gd a1 a2 fun u v H2 w2 F1 F2 g2' go2 r1 r2=>?_
   have gg:=g2'.drop (t':=t)
   split at ee
   ·rename_i hg
    obtain⟨i,j,rfl,rfl,hg'⟩:=y03 hg
    refine⟨i,j,x3l r1,x3l r2,true,by have:=e1 i j _ hg';simpa [y2i]using this.symm,?_⟩
    rw[Qj rfl]
    split at ee
    ·rename_i z q3 ρ3 a3
     refine⟨ρ2,x1l t w2,t,z,q3,ρ3,gg,a3,fun v3 H3 w3 F3 g3 go3 r3=>?_⟩
     split at ee
     ·rename_i d hd
      cases ee
      obtain⟨j',l,ej,rfl,hd'⟩:=y03 hd
      cases ej
      exact⟨j,l,x3l r2,x3l r3,z19 k gd g3 ((go2.drop gd.wt).trans go3) (y1y (e2' j l _ hd'))⟩
     ·cases ee
    ·cases ee
   ·rename_i hg
    obtain⟨i,j,rfl,rfl,hg'⟩:=y03 hg
    cases ee
    refine⟨i,j,x3l r1,x3l r2,false,by have:=e1 i j _ hg';simpa [y2i]using this.symm,?_⟩
    rw[Qk (by decide)]
    exact z19 k gd g2' go2 (.bl false)
   ·cases ee
  ·cases ee
 ·cases ee
theorem y57(ha:QD X a fa)(hb:QD X b fb)(hc:QD X c fc)(hm:lastMarks [.LtE,.Lt] [b,c]=false:=by with_unfolding_all rfl):QD X (.Compare a [.LtE,.Lt] [b,c] pos) (eCh dLe dLt fa fb fc):=⟨have ha:=ha.o;have hb:=hb.o;have hc:=hc.o;j0l j2m j0z (fun i j d h=>by cases h;rfl) (fun i j d h=>by cases h;rfl) ha hb hc hm⟩
@[simp] def j4l (fa:Den):Den:=fun ρ=>match fa ρ with
 | some (.int i,_,ρ1)=>some (.int (-i),9,ρ1)
 | _=>none
section
variable {prog:Program}{w:World}{A:Around}{E:Value->Shared->Prop}{s:Shared}
theorem z2m(l b:Addr)(us vs:Array Value)(n m:Nat)(d1 d2:Option Addr)(s1 s2:Array (Option Value))(h0:us.isEmpty=true) :
  Meets (Builtin.«tuple.__add__» ⟨[.ref l,.ref b],[]⟩) (fun _ R s=>s.heap.get? l=some { cls:=.type "tuple",dict:=d1,data:=.seq us n,slots:=s1 }/\s.heap.get? b=some { cls:=.type "tuple",dict:=d2,data:=.seq vs m,slots:=s2 }/\R (.ok (.ret (.ref b))) s):=
 .of_wp fun prog w A R s h=>by
  obtain⟨hp,g,d,tk,os⟩:=s
  obtain⟨hl,hb,h⟩:=h
  have f2:=AutoSeq1.sub_tuple_tuple
  wp_walk using wpAny_loadPart' hl,wpAny_loadPart' hb
  exact⟨_,rfl,h⟩
theorem y9n{t b:Addr}{ws:List Value}(ht:IsTup s.heap t #[])(hb:IsTup s.heap b ws.toArray)(h:Q (.ref b) s):wpAny (model prog w) A (binaryOp .Add (.ref t) (.ref b)) Q E s:=by
 obtain⟨⟨c1,d1,a1,s1⟩,e1,hc1,n1,ha1⟩:=id ht
 obtain⟨⟨c2,d2,a2,s2⟩,e2,hc2,n2,ha2⟩:=id hb
 simp only at hc1 ha1 hc2 ha2
 subst hc1 ha1 hc2 ha2
 exact Vo ⟨_,e1,rfl⟩ ⟨_,e2,rfl⟩ Vf seq_tuple_add JY JS (JI _ _) (z2m t b #[] ws.toArray n1 n2 d1 d2 s1 s2 rfl) ⟨e1,e2,h⟩
end
theorem z58:OpR X (binaryOp .Add) (fun x y H Q=>∃ a b ys,x=.ref a/\y=.ref b/\SqT X.K H a []/\SqT X.K H b ys/\Q (.ref b) H):=by
 intro pins s σ H x y v u Q I rx ry h
 obtain⟨a,b,ys,rfl,rfl,ha,hb,q⟩:=h
 cases rx
 cases ry
 obtain⟨its,r1,p1,_⟩:=I.tuple ha
 obtain⟨its2,r2,p2,_⟩:=I.tuple hb
 cases r1
 exact y9n p1 p2 ⟨.ref b,H,I,rfl,q⟩
theorem OpR.or{f:Value->Value->Sem Value}{r r':R2}(h:OpR X f r)(h':OpR X f r'):OpR X f (fun x y H Q=>r x y H Q\/r' x y H Q):=fun pins s σ H x y v u Q I rx ry q=>q.elim (fun z=>h pins s σ H x y v u Q I rx ry z) fun z=>h' pins s σ H x y v u Q I rx ry z
@[simp] def z7x (fa fb:Den):Den:=fun ρ=>match fa ρ with
 | some (.tup ds,_,ρ1)=>match fb ρ1 with
  | some (.tup es,_,ρ2)=>if ds.length+es.length<=1000 then some (.tup (ds++es),9,ρ2)else none
  | _=>none
 | _=>none
theorem y8t(ha:QD X a fa)(hb:QD X b fb):QD X (.BinOp a .Add b pos) (z7x fa fb):=⟨have ha:=ha.o;have hb:=hb.o;PE.imp (y3o (OpR.or z58 z4t) ha hb) fun σ H Q hh0=>by
 obtain⟨ρ,w,t,r',q,ρ',gd,ee,k⟩:=hh0
 unfold z7x at ee
 split at ee
 ·rename_i ds q1 ρ1 h1
  split at ee
  ·rename_i es q2 ρ2 h2
   split at ee
   ·rename_i hl
    cases ee
    refine z5y gd h1 h2 fun u u' H2 w2 F1 F2 g2 go r1 r2=>?_
    have r10:=r1.drop (o:=.f) (Qi t)
    have r20:=r2.drop (o:=.f) (JT t)
    have gg:=g2.drop (t':=t)
    have gog:=go.drop gd.wt
    obtain⟨p1,vs,rfl,q1',s1⟩:=r10.seqT
    obtain⟨p2,us,rfl,q2',s2⟩:=r20.seqT
    have l1:=s1.length
    have l2:=s2.length
    cases ds with
    | nil=>
     have:vs=[]:=ZC.mp (by rw[<- l1];rfl)
     subst this
     refine .inl ⟨p1,p2,us,rfl,rfl,q1',q2',k _ H2 (x1l t w2) [] gg.up gog ?_⟩
     exact(Rep.go gg.wl (fun a x e n=>⟨sm e,n⟩) r20 (fun _ z=>nomatch z):Rep X.K H2 (x1l t w2) (.t t) 0 _ _ []).nolist rfl |>.2 9
    | cons d ds=>
     refine .inr ⟨p1,p2,vs,us,rfl,rfl,q1',q2',(fun z=>by rw[z]at l1;cases l1),x9e (by rw[<- l1,<- l2];exact hl),fun z=>?_,fun _ p hp=>?_⟩
     ·have:es=[]:=ZC.mp (by rw[l2,z];rfl)
      subst this
      rw[Z5]at k
      exact k _ H2 (x1l t w2) [] gg.up gog ((Rep.go gg.wl (fun a x e n=>⟨sm e,n⟩) r10 (fun _ z=>nomatch z):Rep X.K H2 (x1l t w2) (.t t) 0 _ _ []).nolist rfl |>.2 9)
     ·obtain⟨a1,a2,a3⟩:=y0t gg hp (s2.app s1)
      exact k _ _ _ _ a1 (gog.trans a2) a3
   ·cases ee
  ·cases ee
 ·cases ee⟩
abbrev z2w:=Rho->Option (Option Int×Rho)
def tDO (K:PySem.W.Frag)(f:z2w):TO:=fun σ H Q=>∃ ρ w t o ρ',Good K ρ σ H w t/\f ρ=some (o,ρ')/\∀ H' w',Good K ρ' σ H' w' t->Go H w H' w'->Q o H'
abbrev PDO (X:Cx)(e:Option Expr)(f:z2w):Prop:=PO X e (tDO X.K f)
structure QDO (X:Cx) (e:Option Expr) (f:z2w):Prop where mk::o:PDO X e f
@[simp] def x7f:z2w:=fun ρ=>some (none,ρ)
@[simp] def x6e (f:Den):z2w:=fun ρ=>match f ρ with
 | some (.int i,_,ρ1)=>some (some i,ρ1)
 | _=>none
theorem PO.imp{e:Option Expr}{t t':TO}(h:PO X e t)(i:∀ σ H Q,t' σ H Q->t σ H Q):PO X e t':=fun pins s σ H Q I q=>h pins s σ H Q I (i σ H Q q)
theorem x71:QDO X none x7f:=⟨PO.imp z7m fun σ H Q hh0=>by
 obtain⟨ρ,w,t,o,ρ',gd,ee,k⟩:=hh0
 cases ee
 exact k H w gd Go.refl⟩
theorem x7c(h:QD X e f):QDO X (some e) (x6e f):=⟨have h:=h.o;PO.imp (z55 h) fun σ H Q hh0=>by
 obtain⟨ρ,w,t,o,ρ',gd,ee,k⟩:=hh0
 unfold x6e at ee
 split at ee
 ·rename_i i q1 ρ1 h1
  cases ee
  exact⟨ρ,w,t,_,_,_,gd,h1,fun v H1 w1 F1 g1 go1 r1=>⟨i,x3l r1,k H1 (x1l t w1) g1.drop (go1.drop gd.wt)⟩⟩
 ·cases ee⟩
section
variable {prog:Program}{w:World}{A:Around}{E:Value->Shared->Prop}{s:Shared}
theorem y6r{t sl:Addr}{us:Array Value}{vl vu:Value}{lo hi:Option Int}(ht:IsTup s.heap t us)(hs:s.heap.IsSliceOf sl vl vu .none)(pl:IsPart vl lo)(pu:IsPart vu hi)
  (hw:HT.sIx us.size 0 lo=0/\HT.sIx us.size us.size hi=us.size) (h:Q (.ref t) s):wpAny (model prog w) A (getItem (.ref t) (.ref sl)) Q E s:=by
 obtain⟨os,hos,hcs,hds⟩:=id hs
 have ts:s.TypeIs (.ref sl) "slice":=⟨os,hos,hcs⟩
 unfold getItem
 try with_reducible refine Za ?_
 first|refine wpAny_bind (Qd ?_)|skip
 refine wpAny_bind (wpAny_sequenceKey ht.typeIs (by decide) (wpAny_bind (Q4 (name:=Str.ofString "__getitem__") ht.typeIs Zj (Q1 Zj ht.typeIs entry_tuple_getitem ?_ (args_tuple_getitem _ _)))))
 show wpAny _ _ (Builtin.Tuple.tupleItemsOf (.ref t) >>= _) _ _ s
 refine wpAny_bind (tupleItemsOf_ ht (wpAny_bind (JZ ts ?_)))
 rw[Qj (by decide)]
 refine wpAny_bind (HT.x8r hs pl pu ?_)
 have yes:(((HT.sIx us.size 0 lo:Nat):Int)==0&&(1:Int)==1&&(HT.sIx us.size us.size hi-HT.sIx us.size 0 lo)==us.size)=true:=by rw[hw.1,hw.2];simp
 show wpAny _ _ (if(((HT.sIx us.size 0 lo:Nat):Int)==0&&(1:Int)==1&&(HT.sIx us.size us.size hi-HT.sIx us.size 0 lo)==us.size)=true then _ else _) _ _ s
 rw[Qj yes]
 refine wpAny_bind (m:=Builtin.Tuple.tupleIsExact _) ?_
 unfold Builtin.Tuple.tupleIsExact
 refine wpAny_bind (JZ ht.typeIs (Qd ?_))
 rw[Qj (by decide)]
 exact wpAny_bind (Vs (Qd ⟨_,rfl,Qd h⟩))
end
def z46 (xs:List D)(lo hi:Option Int):List D:=(xs.drop (HT.sIx xs.length 0 lo)).take (HT.sIx xs.length xs.length hi-HT.sIx xs.length 0 lo)
@[simp] def eSl (fa:Den)(fl fh:z2w):Den:=fun ρ=>match fa ρ with
 | some (.tup ds,_,ρ1)=>match fl ρ1 with
  | some (lo,ρ2)=>match fh ρ2 with
   | some (hi,ρ3)=>some (.tup (z46 ds lo hi),9,ρ3)
   | none=>none
  | none=>none
 | _=>none
theorem Reps.take0:∀ {ds:List D} {vs:List V} (i:Nat),Reps K H w .f 0 ds vs []->Reps K H w .f 0 (ds.take i) (vs.take i) []
 | _,_,0,_=>by rw[List.take_zero,List.take_zero];exact .nil
 | ds,vs,i+1,r=>by
  generalize hF:([]:List Addr)=F at r
  cases r with
  | nil=>exact .nil
  | cons r s _=>
   have h2:=s.zero
   have h1:=r.zero
   subst h2
   subst h1
   exact .cons (F:=[]) (G:=[]) r (Reps.take0 i s) (fun _ z=>nomatch z)
theorem z21:SlR X (fun x lo hi H Q=>∃ a xs,x=.ref a/\SqT X.K H a xs/\(HT.sIx xs.length 0 lo=0/\HT.sIx xs.length xs.length hi=xs.length)/\Q (.ref a) H):=by
 intro pins s σ H x v vl vu lo hi sl Q I rx hs pl pu h
 obtain⟨a,xs,rfl,hx,hw,q⟩:=h
 cases rx
 obtain⟨its,r,ht,hz⟩:=I.tuple hx
 have hlen:its.toArray.size=xs.length:=by rw[Qn];exact r.length.symm
 exact⟨"tuple",_,Zj.lookup,ht.typeIs,y6r ht hs pl pu (by rw[hlen];exact hw) ⟨.ref a,H,I,rfl,q⟩⟩
theorem z32{lo hi:Option Expr}{fl fh:z2w}(ha:QD X a fa)(hl:QDO X lo fl)(hh:QDO X hi fh):QD X (.Subscript a (.Slice lo hi none p2) pos) (eSl fa fl fh):=⟨have ha:=ha.o;have hl:=hl.o;have hh:=hh.o;PE.imp (y5q (z21.or j10) ha hl hh) fun σ H Q hh0=>by
 obtain⟨ρ,w,t,r',q,ρ',gd,ee,k⟩:=hh0
 unfold eSl at ee
 split at ee
 ·rename_i ds q1 ρ1 h1
  split at ee
  ·rename_i lo ρ2 h2
   split at ee
   ·rename_i hi ρ3 h3
    cases ee
    refine⟨ρ,w,t,_,_,_,gd,h1,fun v H1 w1 F1 g1 go1 r1=>?_⟩
    have gg1:=g1.drop (t':=t)
    have r0:=r1.drop (o:=.f) (Qi t)
    refine⟨ρ1,x1l t w1,t,_,_,gg1,h2,fun H2 w2 g2 go2=>⟨ρ2,w2,t,_,_,g2,h3,fun H3 w3 g3 go3=>?_⟩⟩
    have r3:=(r0.go0 gg1.wl go2.stab).go0 g2.wl go3.stab
    obtain⟨p1,vs,rfl,q1',s1⟩:=r3.seqT
    have l1:=s1.length
    by_cases hw:HT.sIx ds.length 0 lo=0/\HT.sIx ds.length ds.length hi=ds.length
    ·have ec:z46 ds lo hi=ds:=by unfold z46;rw[hw.1,hw.2,List.drop_zero,Nat.sub_zero,JD]
     rw[ec]at k
     refine .inl ⟨p1,vs,rfl,q1',by rw[<- l1];exact hw,?_⟩
     exact k _ H3 w3 [] g3.up (((go1.drop gd.wt).trans go2).trans go3) ((Rep.go g3.wl (fun a x e n=>⟨sm e,n⟩) r3 (fun _ z=>nomatch z):Rep X.K H3 w3 (.t t) 0 _ _ []).nolist rfl |>.2 9)
    ·refine .inr ⟨p1,vs,rfl,q1',by rw[<- l1];exact hw,fun p hp=>?_⟩
     have s4:Reps X.K H3 w3 .f 0 (z46 ds lo hi) (z17 vs lo hi) []:=by
      unfold z46 z17
      rw[<- l1]
      exact(s1.drop0 _).take0 _
     obtain⟨a1,a2,a3⟩:=y0t g3 hp s4
     exact k _ _ _ _ a1 ((((go1.drop gd.wt).trans go2).trans go3).trans a2) a3
   ·cases ee
  ·cases ee
 ·cases ee⟩
end
section
variable {X:Cx}{k b n:Nat}{a c e tg:Expr}{es:List Expr}{pt:x8u}{ps:y2h}{pos:Pos}{fa fb f:Den}
theorem z74{p q r:x8u}:∀ ds ρ ρ',x13 p (x13 q (x13 r x5z)) ds ρ=some ρ'->ds.length=3:=fun ds ρ ρ' h=>by
 match ds with
 | []=>cases h
 | [_]=>unfold x13 at h;simp at h;split at h<;>cases h
 | [_,_]=>unfold x13 at h;simp at h;split at h;(split at h<;>cases h);cases h
 | [_,_,_]=>rfl
 | _::_::_::_::_=>
  exfalso
  unfold x13 at h
  simp at h
  split at h
  ·split at h
   ·split at h<;>cases h
   ·cases h
  ·cases h
end
theorem y7n:fillsNumberSlot (.type "tuple") "mul" = pure false:=PySem.fillsNumberSlot_seq (id:="tuple.__mul__") (r:=some (.builtin "tuple.__rmul__")) Yj.lookup (by decide +kernel) F.slot_tuple_rmul.lookup (by decide +kernel)
theorem y7o:seqRepeat? (.type "tuple")=pure (some (.builtin "tuple.__mul__")):=by
 unfold seqRepeat?
 rw[PySem.seqSlot_of (T:="tuple") (name:="__mul__") (id:="tuple.__mul__") Yj.lookup (by decide +kernel),PySem.seqSlot_of (T:="tuple") (name:="__rmul__") (id:="tuple.__rmul__") F.slot_tuple_rmul.lookup (by decide +kernel)];rfl
theorem y41(a:Int)(t:Tok)(l:Addr)(us:Array Value)(n:Nat)(dd:Option Addr)(sl:Array (Option Value)) :
  Meets (Builtin.«int.__rmul__» ⟨[.int a t,.ref l],[]⟩) (fun _ R s=>s.heap.get? l=some { cls:=.type "tuple",dict:=dd,data:=.seq us n,slots:=sl }/\R (.ok (.ret Value.notImplemented)) s):=.of_wp fun prog w A R s h=>by
 obtain⟨hp,g,d,tk,os⟩:=s
 obtain⟨hl,h⟩:=h
 wp_walk
 exact⟨_,rfl,h⟩
theorem z2j(t:Tok)(l:Addr)(us:Array Value)(n:Nat)(dd:Option Addr)(sl:Array (Option Value)) :
  Meets (Builtin.«tuple.__mul__» ⟨[.ref l,.int 1 t],[]⟩) (fun _ R s=>s.heap.get? l=some { cls:=.type "tuple",dict:=dd,data:=.seq us n,slots:=sl }/\R (.ok (.ret (.ref l))) s):=.of_wp fun prog w A R s h=>by
 obtain⟨hp,g,d,tk,os⟩:=s
 obtain⟨hl,h⟩:=h
 have f1:=AutoSeq1.idx_int
 wp_walk using wpAny_loadPart' hl
 exact⟨_,rfl,h⟩
theorem z3v(k:Int)(t:Tok)(l:Addr)(us:Array Value)(n:Nat)(dd:Option Addr)(sl:Array (Option Value))(h2:¬ (decide (k < -(2 ^ 63))||decide (k ≥ 2 ^ 63))=true)(h3:¬ (us.isEmpty||k==1)=true)(h4:¬ (decide (k<=0)||us.isEmpty)=true)(h5:¬ (us.size:Int)*k > (2 ^ 63-1) / 8)(h6:¬ Builtin.Tuple.tupleTooMany ((us.size:Int)*k)=true)(hsz:(List.foldl (· ++ ·) #[] (List.replicate k.toNat us)).size<=sizeLine) :
  Meets (Builtin.«tuple.__mul__» ⟨[.ref l,.int k t],[]⟩) (fun _ R s=>s.heap.get? l=some { cls:=.type "tuple",dict:=dd,data:=.seq us n,slots:=sl }/\R (.ok (.ret (.ref s.heap.objs.size))) { s with heap:=s.heap.push { cls:=.type "tuple",data:=.seq (List.foldl (· ++ ·) #[] (List.replicate k.toNat us)) } }):=.of_wp fun prog w A R s h=>by
 obtain⟨hp,g,d,tk,os⟩:=s
 obtain⟨hl,h⟩:=h
 have f1:=AutoSeq1.idx_int
 wp_walk using wpAny_loadPart' hl
 rw[Qk h2]
 wp_walk using wpAny_loadPart' hl
 rw[Qk h5]
 wp_walk using wpAny_loadPart' hl
 exact⟨_,rfl,h⟩
section
variable {X:Cx}{a b c e:Expr}{fa fb fc f:Den}{pos:Pos}
theorem z7u:OpR X (binaryOp .Mult) (fun x y H Q=>∃ a k xs,x=.ref a/\y=.int k/\SqT X.K H a xs/\xs ≠ []/\1<=k/\xs.length*k.toNat<=1000/\(k=1->Q (.ref a) H)/\(k≠1->∀ p,H p=none->Q (.ref p) (upd H p (.tup (List.replicate k.toNat xs).flatten)))):=by
 intro pins s σ H x y v u Q I rx ry h
 obtain⟨l,k,xs,rfl,rfl,hq,hne,h1,hz,q1,q2⟩:=h
 cases rx
 obtain⟨t,rfl⟩:=ry
 obtain⟨its,r,pt,_⟩:=I.tuple hq
 obtain⟨⟨c1,d1,a1,s1⟩,e,hc1,n1,ha1⟩:=id pt
 simp only at hc1 ha1
 subst hc1 ha1
 have hl:=r.length
 have hpos:0<its.length:=by rw[<- hl];exact Yy.mpr hne
 refine YT (T:="tuple") (U:="int") (by decide) ⟨_,e,rfl⟩ (fun s'=>Vq s' k t) y7n F.fills_int_mul Yr y7o F.slot_int_index.lookup
  (JO Yr (Vq s k t) F.entry_int_rmul (F.args_int_rmul_2 _ _) (y41 k t l its.toArray n1 d1 s1) ⟨e,rfl,⟨_,e,rfl⟩,?_⟩)
 by_cases hk:k=1
 ·subst hk
  exact JO Yj ⟨_,e,rfl⟩ F.entry_tuple_mul (F.args_tuple_mul_2 _ _) (z2j t l its.toArray n1 d1 s1) ⟨e,⟨.ref l,H,I,rfl,q1 rfl⟩⟩
 ·have hm:its.length*k.toNat<=1000:=by rw[<- hl];exact hz
  have hk':k.toNat<=1000:=by
   have:=Nat.le_mul_of_pos_left k.toNat hpos
   omega
  have f0:List.foldl (fun x1 x2=>x1++x2) #[] (List.replicate k.toNat its.toArray)=(List.replicate k.toNat its).flatten.toArray:=by
   have:=y00 its k.toNat []
   rw[List.nil_append]at this
   exact this
  have lf:(List.replicate k.toNat its).flatten.length<=1000:=by rw[y4l,VU];exact hm
  have em:((its.toArray.size:Nat):Int)*k=((its.length*k.toNat:Nat):Int):=by
   rw[Qn,Int.natCast_mul,Jm (by omega)]
  refine JO Yj ⟨_,e,rfl⟩ F.entry_tuple_mul (F.args_tuple_mul_2 _ _) (z3v k t l its.toArray n1 d1 s1 (by simp;omega) (by simp[hk];exact YW hpos) (by simp;exact⟨by omega,YW hpos⟩) (by rw[em];omega) (by
   unfold Builtin.Tuple.tupleTooMany
   rw[em]
   simp only[gt_iff_lt,ZU,Int.not_lt]
   have:(1000:Nat)<=sizeLine:=by decide
   omega) (by rw[f0,Qn];exact x9e lf)) ⟨e,?_⟩
  rw[f0]
  refine⟨.ref s.heap.objs.size,_,I.laid (t':=s.toks) (o:=.tup (List.replicate k.toNat xs).flatten) (fun b ob q=>Qb _ q) (Qi _) ?_,rfl,q2 hk _ (I.hok.fresh (Qi _))⟩
  exact⟨x9e (by rw[y4l,VU];exact hz),_,r.rep k.toNat,x4e.new _ _⟩
@[simp] def z5c (fa fb:Den):Den:=fun ρ=>match fa ρ with
 | some (.tup ds,_,ρ1)=>match fb ρ1 with
  | some (.int n,_,ρ2)=>if ds.isEmpty=false/\1<=n/\ds.length*n.toNat<=1000 then some (.tup (List.replicate n.toNat ds).flatten,9,ρ2)else none
  | _=>none
 | _=>none
theorem z6c(ha:QD X a fa)(hb:QD X b fb):QD X (.BinOp a .Mult b pos) (z5c fa fb):=⟨have ha:=ha.o;have hb:=hb.o;PE.imp (y3o z7u ha hb) fun σ H Q hh0=>by
 obtain⟨ρ,w,t,r',q,ρ',gd,ee,k⟩:=hh0
 unfold z5c at ee
 split at ee
 ·rename_i ds q1 ρ1 h1
  split at ee
  ·rename_i n q2 ρ2 h2
   split at ee
   ·rename_i hl
    cases ee
    obtain⟨hd,hn,hz⟩:=hl
    refine z5y gd h1 h2 fun u u' H2 w2 F1 F2 g2 go r1 r2=>?_
    have r10:=r1.drop (o:=.f) (Qi t)
    have gg:=g2.drop (t':=t)
    have gog:=go.drop gd.wt
    obtain⟨p1,vs,rfl,q1',s1⟩:=r10.seqT
    have l1:=s1.length
    refine⟨p1,n,vs,rfl,x3l r2,q1',fun z=>?_,hn,by rw[<- l1];exact hz,fun z=>?_,fun _ p hp=>?_⟩
    ·subst z
     have:ds=[]:=ZC.mp l1
     subst this
     cases hd
    ·subst z
     have e:(List.replicate (Int.toNat 1) ds).flatten=ds:=by show(List.replicate 1 ds).flatten=ds;simp
     rw[e]at k
     exact k _ H2 (x1l t w2) [] gg.up gog ((Rep.go gg.wl (fun a x e n=>⟨sm e,n⟩) r10 (fun _ z=>nomatch z):Rep X.K H2 (x1l t w2) (.t t) 0 _ _ []).nolist rfl |>.2 9)
    ·obtain⟨a1,a2,a3⟩:=y0t gg hp (s1.times n.toNat)
     exact k _ _ _ _ a1 (gog.trans a2) a3
   ·cases ee
  ·cases ee
 ·cases ee⟩
end
section
variable {X:Cx}{a b c e:Expr}{es:List Expr}{fa fb fc f:Den}{ga gb gc:x4x}{g:x47}{qa qb:y6x}{s:x1g}{pos p p1 p2 cpos apos:Pos}
@[simp] def y7q:x1g:=fun _=>none
theorem z0c:QDS X st y7q:=⟨PS.imp z28 fun D σ H hh0=>by obtain⟨ρ,w,o,g,ee,k⟩:=hh0;cases ee⟩
def x5f (c:x4x)(b:x1g):Nat->Rho->Option Out
 | 0,_=>none
 | m+1,ρ=>match c ρ with
  | none=>none
  | some (t,ρ1)=>if t=true then match b ρ1 with
    | none=>none
    | some (.nx ρ2)=>x5f c b m ρ2
    | some (.ct ρ2)=>x5f c b m ρ2
    | some (.bk ρ2)=>some (.nx ρ2)
    | some (.rt d q)=>some (.rt d q)
   else some (.nx ρ1)
def y9p (c:x4x)(b:x1g):x1g:=x5f c b 1000
theorem y9m{body:List Stmt}(hp:PassesOwn (model X.prog X.w) X.A X.env X.xe)(hc:QDT X c gc)(hb:QDSs X body s):QDS X (.While c body [] pos) (y9p gc s):=⟨have hc:=hc.o;have hb:=hb.o;PS.imp (z36 hp hc hb) fun D σ H hh0=>by
 obtain⟨ρ,w,o,g,ee,k⟩:=hh0
 refine⟨fun m σ' H'=>σ'.length=σ.length/\∃ ρ' w',Good X.K ρ' σ' H' w' 0/\x5f gc s m ρ'=some o/\y0h X.K D σ.length H' w' o,⟨1000,rfl,ρ,w,g,ee,k⟩,?_⟩
 rintro m σ' H' ⟨hσ,ρ',w',g',e',k'⟩
 cases m with
 | zero=>cases e'
 | succ m=>
  unfold x5f at e'
  split at e'
  ·cases e'
  ·rename_i t ρ1 h1
   refine⟨ρ',w',0,t,ρ1,g',h1,fun H1 w1 g1 go1=>?_⟩
   cases t with
   | true=>
    rw[Qj rfl]at e' ⊢
    refine⟨fun σ2 H2=>σ2.length=σ.length/\∃ ρ2 w2,Good X.K ρ2 σ2 H2 w2 0/\x5f gc s m ρ2=some o/\y0h X.K D σ.length H2 w2 o,fun σ2 H2 n2=>⟨m,Zv m,n2⟩,?_⟩
    have nx:∀ {ρ5:Rho},x5f gc s m ρ5=some o->∀ σ5 H5 w5,σ5.length=σ'.length->Good X.K ρ5 σ5 H5 w5 0->Go H1 w1 H5 w5->σ5.length=σ.length/\∃ ρ2 w2,Good X.K ρ2 σ5 H5 w2 0/\x5f gc s m ρ2=some o/\y0h X.K D σ.length H5 w2 o:=fun {ρ5} e5 σ5 H5 w5 l5 g5 go5=>⟨by rw[l5,hσ],ρ5,w5,g5,e5,k'.trans (go1.trans go5)⟩
    cases h6:s ρ1 with
    | none=>rw[h6]at e';cases e'
    | some o6=>
     rw[h6]at e'
     refine⟨ρ1,w1,o6,g1,h6,?_⟩
     cases o6 with
     | nx ρ5=>exact nx e'
     | ct ρ5=>exact nx e'
     | bk ρ5=>
      cases e'
      exact fun σ5 H5 w5 l5 g5 go5=>k' σ5 H5 w5 (by rw[l5,hσ]) g5 (go1.trans go5)
     | rt d q=>
      cases e'
      exact fun v H5 w5 F wl5 go5 r5=>k' v H5 w5 F wl5 (go1.trans go5) r5
   | false=>
    rw[Qk (by decide)]at e' ⊢
    cases e'
    exact k' σ' H1 w1 hσ g1 go1⟩
@[simp] def j4c (n:Nat)(qi:y6x)(fe:Den):x1g:=fun ρ=>match fe ρ with
 | some (d,_,ρ1)=>match qi ρ1,ρ1[n]? with
  | some i,some (some (.lst ds,1))=>match ixN ds.length i with
   | some m=>some (.nx (ρ1.set n (some (.lst (ds.set m d),1))))
   | none=>none
  | _,_=>none
 | none=>none
def j1n (K:PySem.W.Frag):R2:=fun x y H Q=>∃ l b xs zs,x=.ref l/\y=.ref b/\SqL K H l xs/\SqL K H b zs/\xs.length+zs.length<=sizeLine/\∀ p,H p=none->Q (.ref p) (upd H p (.lst (xs++zs)))
theorem z78:OpR X (binaryOp .Add) (j1n X.K):=by
 intro pins s σ H x y v u Q I rx ry h
 obtain⟨l,b,xs,zs,rfl,rfl,hH,hB,hz,q⟩:=h
 cases rx
 cases ry
 obtain⟨its,r,pl,z⟩:=I.list hH
 obtain⟨its2,r2,pl2,z2⟩:=I.list hB
 obtain⟨⟨cls,dd,data,sl⟩,n,ho,hc,_,hd⟩:=pl
 obtain⟨⟨cls2,dd2,data2,sl2⟩,n2,ho2,hc2,_,hd2⟩:=pl2
 simp only at hc hd hc2 hd2
 subst hc hd hc2 hd2
 have l1:=r.length
 have l2:=r2.length
 refine Vo ⟨_,ho,rfl⟩ ⟨_,ho2,rfl⟩ noFill_list_add seq_list_add PySem.F.slot_list_add PySem.F.entry_list_add (PySem.F.args_list_add_2 _ _) (list_addW l b its.toArray its2.toArray n n2 dd dd2 sl sl2 (by rw[Qn,Qn,<- l1,<- l2];exact hz)) ⟨ho,ho2,?_⟩
 have e:its.toArray++its2.toArray=(its++its2).toArray:=by simp
 rw[e]
 exact⟨.ref _,_,I.lnew (t':=s.toks) (r.append r2) (by rw[Qw];omega),rfl,q _ I.fresh⟩
@[simp] def z1z (fa fb:Den):Den:=fun ρ=>match fa ρ with
 | some (.lst ds,_,ρ1)=>match fb ρ1 with
  | some (.lst es,_,ρ2)=>if ds.length+es.length<=1000 then some (.lst (ds++es),1,ρ2)else none
  | _=>none
 | _=>none
theorem z4x(ha:QD X a fa)(hb:QD X b fb):QD X (.BinOp a .Add b pos) (z1z fa fb):=⟨have ha:=ha.o;have hb:=hb.o;PE.imp (y3o z78 ha hb) fun σ H Q hh0=>by
 obtain⟨ρ,w,t,r',q,ρ',gd,ee,k⟩:=hh0
 unfold z1z at ee
 split at ee
 ·rename_i ds q1 ρ1 h1
  split at ee
  ·rename_i es q2 ρ2 h2
   split at ee
   ·rename_i hl
    cases ee
    refine z5y gd h1 h2 fun u u' H2 w2 F1 F2 g2 go r1 r2=>?_
    have r10:=r1.drop (o:=.f) (Qi t)
    have r20:=r2.drop (o:=.f) (JT t)
    have gg:=g2.drop (t':=t)
    have gog:=go.drop gd.wt
    obtain⟨p1,vs,rfl,q1',s1⟩:=r10.seqL0
    obtain⟨p2,us,rfl,q2',s2⟩:=r20.seqL0
    refine⟨p1,p2,vs,us,rfl,rfl,q1',q2',x9e (by rw[<- s1.length,<- s2.length];exact hl),fun p hp=>?_⟩
    obtain⟨a1,a2,a3⟩:=y0k gg hp (s2.app s1)
    exact k _ _ _ _ a1 (gog.trans a2) a3
   ·cases ee
  ·cases ee
 ·cases ee⟩
end
section
variable {X:Cx}{a b c e:Expr}{es:List Expr}{fa fb fc f:Den}{ga gb gc:x4x}{g:x47}{qa qb:y6x}{s:x1g}{pos p p1 p2 p3 cpos apos:Pos}
@[simp] def x8e (n:Nat)(c:Int):y6x:=fun ρ=>match ρ[n]? with
 | some (some (.tup es,_))=>match L2.atI es c with
  | some d=>match y02 d with
   | some m=>some (Int.ofNat m)
   | none=>none
  | none=>none
 | _=>none
theorem y5i{n j:Nat}{c:Int}(hm:X.mg "len" = none)(h:QE X (.Name x p1) (y3s n))(hg:Gl X "len":=by rfl)(hs:x84 (.Constant (.int c) j p2):=by exact fun _ _=>rfl)(he:starEach [.Subscript (.Name x p1) (.Constant (.int c) j p2) p3] X.env=(false,eval (.Subscript (.Name x p1) (.Constant (.int c) j p2) p3) X.env)::starEach [] X.env:=by rfl)(hpl:(backTo pos (starEach [] X.env)).any (·.1)=false:=by rfl):QQ X (.Call (.Name "len" p) [.Subscript (.Name x p1) (.Constant (.int c) j p2) p3] [] pos) (x8e n c):=⟨have h:=h.o;PE.imp (x3i x5n hg hm VJ (x3y (z0b y3u h z4n hs) x65 he) (by decide) (by decide) he hpl) fun σ H Q hh0=>by
 obtain⟨ρ,w,t,i,gd,ee,k⟩:=hh0
 unfold x8e at ee
 split at ee
 ·rename_i es q e0
  split at ee
  ·rename_i d hd
   split at ee
   ·rename_i m hm'
    cases ee
    obtain⟨v,F,h1,h2⟩:=gd.slot n _ _ e0
    obtain⟨p0,vs,rfl,hq,rs⟩:=h2.seqT
    obtain⟨u,hu,ru⟩:=rs.atI hd
    obtain⟨p',ys,rfl,hs',hl⟩:=ru.len hm'
    exact⟨_,h1,.inr (.inl ⟨p0,vs,c,_,rfl,rfl,hq,hu,p',ys,rfl,hs',by rw[hl];exact k⟩)⟩
   ·cases ee
  ·cases ee
 ·cases ee⟩
@[simp] def y7w (k l:Str)(qa qb:y6x):Den:=fun ρ=>match qa ρ,qb ρ with
 | some i,some j=>some (.dic [k,l] [.int i,.int j],9,ρ)
 | _,_=>none
theorem z9y{t:Nat}{H1:Hp}{p:Addr}{ks:List Str}{w1:Wn}(g:Good K ρ σ H1 w1 t)(hp:H1 p=none)(r:Reps K H1 w1 .f 0 ds vs []) :
  Good K ρ σ (upd H1 p (.dK (kvL ks vs))) w1 (t+1)/\Go H1 w1 (upd H1 p (.dK (kvL ks vs))) w1/\Rep K (upd H1 p (.dK (kvL ks vs))) w1 (.t t) 9 (.dic ks ds) (.ref p) []:=by
 have ne:∀ a x,H1 a=some x->a≠p:=fun a x e=>x0r e hp
 have nw:∀ a o,w1 a=some o->a≠p:=fun a o e=>by obtain⟨vs,q⟩:=g.wl a o e;exact ne a _ q
 have st:x63 H1 w1 (upd H1 p (.dK (kvL ks vs))) w1:=fun a x e n=>⟨sm (by rw[x0e (ne a x e)];exact e),n⟩
 refine⟨⟨⟨fun a o e=>?_,g.wl.tb.upd rfl (.inl hp)⟩,g.ws,fun a i e=>Zr (g.wt a i e),g.len,fun i d q e=>?_⟩,⟨st,fun a o e _=>⟨x0e (nw a o e),e⟩⟩,?_⟩
 ·obtain⟨us,q⟩:=g.wl a o e
  exact⟨us,by rw[x0e (nw a o e)];exact q⟩
 ·obtain⟨v,F,h1,h2⟩:=g.slot i d q e
  exact⟨v,F,h1,Rep.go g.wl st h2 fun a m=>⟨x0e (nw a _ (h2.owns a m)),h2.owns a m⟩⟩
 ·exact .dic x0y (by
   cases q:w1 p with
   | none=>rfl
   | some o=>exact absurd rfl (nw p o q)) (Reps.go g.wl st r (fun _ z=>nomatch z))
theorem z5f{k l:Str}{j1 j2:Nat}(hkl:k≠l)(ha:QQ X a qa)(hb:QQ X b qb):QD X (.Dict [some (.Constant (.str k) j1 p1),some (.Constant (.str l) j2 p2)] [a,b] pos) (y7w k l qa qb):=⟨have ha:=ha.o;have hb:=hb.o;PE.imp (z50 (y5o y82 ha (y5o y82 hb z7n)) rfl rfl (by simp) (by show 2<=15;decide)) fun σ H Q hh0=>by
 obtain⟨ρ,w,t,r',q,ρ',gd,ee,kk⟩:=hh0
 unfold y7w at ee
 split at ee
 ·rename_i i j hi hj
  cases ee
  intro p0 hp
  have ne:∀ a x,H a=some x->upd H p0 (.dK []) a=some x:=fun a x e=>by rw[x0e (x0r e hp)];exact e
  obtain⟨g1,go1⟩:=gd.more ⟨ne,fun t=>t.upd rfl (.inl hp)⟩
  refine⟨ρ,w,t,i,g1,hi,ρ,w,t,j,g1,hj,x0y,[(.inr k,.int i),(.inr l,.int j)],rfl,by show 2<=15;decide,?_⟩
  have e:x9o [] [((.inr k:Key),V.int i),(.inr l,.int j)]=kvL [k,l] [.int i,.int j]:=by
   have hkl':¬ ((Sum.inr k:Key)=.inr l):=fun z=>hkl (V2 z)
   simp[x9o,y21,kvL,hkl']
  rw[e,z5d]
  obtain⟨a1,a2,a3⟩:=z9y (ks:=[k,l]) (ds:=[.int i,.int j]) (vs:=[.int i,.int j]) gd hp (.cons (F:=[]) (G:=[]) (.int i) (.cons (F:=[]) (G:=[]) (.int j) .nil (fun _ z=>nomatch z)) (fun _ z=>nomatch z))
  exact kk _ _ _ _ a1 a2 a3
 ·cases ee⟩
def y44:List Str->List D->Str->Option D
 | x::ks,d::ds,k=>if x=k then some d else y44 ks ds k
 | _,_,_=>none
@[simp] def z5q (fo fe ff:Den):Den:=fun ρ=>match fo ρ with
 | some (.dic ks ds,_,ρ1)=>match fe ρ1 with
  | some (.str k,_,ρ2)=>match ff ρ2 with
   | some (z,_,ρ3)=>some ((y44 ks ds k).getD z,y0a ((y44 ks ds k).getD z),ρ3)
   | none=>none
  | _=>none
 | _=>none
theorem y6p(k:Str):∀ {ks:List Str} {ds:List D} {vs:List V},Reps K H w o 0 ds vs []->
  (∀ d,y44 ks ds k=some d->∃ v,y2o (kvL ks vs) (.inr k)=some v/\Rep K H w o 0 d v [])/\(y44 ks ds k=none->y2o (kvL ks vs) (.inr k)=none)
 | [],ds,vs,r=>by
  refine⟨fun d h=>?_,fun _=>rfl⟩
  unfold y44 at h
  cases h
 | x::ks,ds,vs,r=>by
  generalize hF:([]:List Addr)=F at r
  cases r with
  | nil=>exact⟨(fun d h=>by unfold y44 at h;cases h),fun _=>rfl⟩
  | @cons _ d' v' ds' vs' F' G' r s _=>
   have h1:F'=[]:=r.zero
   have h2:G'=[]:=s.zero
   subst h1 h2
   have ih:=y6p k (ks:=ks) s
   by_cases hx:x=k
   ·subst hx
    refine⟨fun d h=>?_,fun h=>?_⟩
    ·unfold y44 at h
     rw[Qj rfl]at h
     cases h
     exact⟨v',x77 rfl,r⟩
    ·unfold y44 at h
     rw[Qj rfl]at h
     cases h
   ·have hk:¬ ((Sum.inr x:Key)=.inr k):=fun z=>hx (V2 z)
    have e:y2o (kvL (x::ks) (v'::vs')) (.inr k)=y2o (kvL ks vs') (.inr k):=x7k hk
    rw[e]
    unfold y44
    rw[Qk hx]
    exact ih
theorem z51{k:Nat}(hr:Room k X.A)(ho:QD X a fa)(he:QD X b fb)(hf:QD X c fc)(hbase:attributeBase a "get" X.env (eval a X.env)=eval a X.env:=by rfl)(hfew:((backTo cpos (starEach [b,c] X.env)).all (fun x=>!x.1)&&(backToKw cpos (keywordEach [] X.env)).all (fun x=>x.1.isSome)
   && decide (([b,c]:List Expr).length+([]:List Keyword).length+(if([]:List Keyword).isEmpty then 0 else 1)<30))=true:=by rfl) (hline:(apos.endLine==cpos.line)=true:=by rfl) (htr:backTo cpos (starEach [b,c] X.env)=[(false,eval b X.env),(false,eval c X.env)]:=by rfl):QD X (.Call (.Attribute a "get" apos) [b,c] [] cpos) (z5q fa fb fc):=⟨have ho:=ho.o;have he:=he.o;have hf:=hf.o;PE.imp (y61 (z1g hr) ho he hf ⟨hbase,hfew,hline,htr⟩) fun σ H Q hh0=>by
 obtain⟨ρ,w,t,r',q,ρ',gd,ee,kk⟩:=hh0
 unfold z5q at ee
 split at ee
 ·rename_i ks ds q1 ρ1 h1
  split at ee
  ·rename_i k0 q2 ρ2 h2
   split at ee
   ·rename_i z q3 ρ3 h3
    cases ee
    refine⟨ρ,w,t,_,_,_,gd,h1,fun x H1 w1 F1 g1 go1 r1=>?_⟩
    have r1':=r1
    cases r1' with
    | @dic _ a0 _ vs0 _ hH0 _ _=>
     refine⟨a0,rfl,.inl ⟨_,.inl hH0⟩,ρ1,w1,t+1,_,_,_,g1,h2,fun y H2 w2 F2 g2 go2 r2=>⟨ρ2,w2,t+2,_,_,_,g2,h3,fun zv H3 w3 F3 g3 go3 r3=>?_⟩⟩
     have hy:y=kV (.inr k0):=by cases r2;rfl
     subst hy
     have r13:=(r1.gone g1.wl (go2.trans go3)).drop (o:=.t t) (Qi t)
     have rz:=r3.drop (o:=.t t) (t':=t) (by omega)
     have go:=(go1.trans go2).trans go3
     cases r13 with
     | @dic _ _ _ vs _ hH _ rs=>
      obtain⟨v1,v2⟩:=y6p (ks:=ks) k0 rs
      refine⟨_,y7j.k hH,?_⟩
      cases hg:y44 ks ds k0 with
      | none=>
       rw[v2 hg]
       rw[hg]at kk
       exact z19 kk gd g3 go rz.dep
      | some d=>
       obtain⟨v,ev,rv⟩:=v1 d hg
       rw[ev]
       rw[hg]at kk
       exact z19 kk gd g3 go rv.dep
   ·cases ee
  ·cases ee
 ·cases ee⟩
theorem z7l{x2o:List Expr}{env:Env}{ks:List (Option Expr)}{vs:List Expr}:starEach (.Dict ks vs pos::x2o) env=(false,eval (.Dict ks vs pos) env)::starEach x2o env:=by simp only[starEach]
end
end L3
namespace L3
open PySem PySem.Spec PyProof.Rows PySem.W L2
structure Fly (P:Program) (w:World) (outer:List Env) (H:Hp) (s:Shared) (a C t:Addr) (B:Heap) (H':Hp) (s':Shared):Prop where
 os:s'.os=s.os
 bare:AllBare s'.gens
 un:Un (frs outer) [] H H' s.heap s'.heap
 hok:HOk P w H' s'.heap
 fl:Heap.FlyingW B outer a (.ref C) (.ref t) s'.heap
 old:∀ b o,s.heap.get? b=some o->H b=none->b ∉ frs outer->B.get? b=some o
 oldT:∀ b o,s.heap.get? b=some o->b ∉ frs outer->∃ o',B.get? b=some o'
 trk:∀ b u o,H' b=some u->s'.heap.get? b=some o->B.get? b=some o
 free:H' a=none
abbrev j4j:=Rho->Option Str
theorem Good.grow{K:PySem.W.Frag}{ρ:Rho}{σ:St}{H H':Hp}{w:Wn}{t:Nat}(g:Good K ρ σ H w t)(h:∀ b o,H b=some o->Sm o (H' b))(tb:TB K H'):Good K ρ σ H' w t/\Go H w H' w:=by
 have st:x63 H w H' w:=fun a x e n=>⟨h a x e,n⟩
 have kp:∀ a o,w a=some o->H' a=H a:=fun a o e=>by
  obtain⟨vs,q⟩:=g.wl a o e
  rw[q,(h a _ q).eq (by cases vs<;>rfl)]
 refine⟨⟨⟨fun a o e=>?_,tb⟩,g.ws,g.wt,g.len,fun i d q e=>?_⟩,st,fun a o e _=>⟨kp a o e,e⟩⟩
 ·obtain⟨vs,q⟩:=g.wl a o e
  exact⟨vs,(h a _ q).eq (by cases vs<;>rfl)⟩
 ·obtain⟨v,F,h1,h2⟩:=g.slot i d q e
  exact⟨v,F,h1,Rep.go g.wl st h2 fun a m=>⟨kp a _ (h2.owns a m),h2.owns a m⟩⟩
end L3
namespace L3
open PySem PySem.Spec PyProof.Rows PySem.W L2 PySem.SeqAt
end L3
namespace L3
open PySem PySem.Spec PyProof.Rows L2
section
variable {X:Cx}{a b c e:Expr}{fa fb fc f:Den}{pos p p1 p2 pT cpos apos:Pos}
@[simp] def z80 (fa:Den)(fl fh:z2w):Den:=fun ρ=>match fa ρ with
 | some (.lst ds,_,ρ1)=>match fl ρ1 with
  | some (lo,ρ2)=>match fh ρ2 with
   | some (hi,ρ3)=>some (.lst (z46 ds lo hi),1,ρ3)
   | none=>none
  | none=>none
 | _=>none
theorem z9b{lo hi:Option Expr}{fl fh:z2w}(ha:QD X a fa)(hl:QDO X lo fl)(hh:QDO X hi fh):QD X (.Subscript a (.Slice lo hi none p2) pos) (z80 fa fl fh):=⟨have ha:=ha.o;have hl:=hl.o;have hh:=hh.o;PE.imp (y5q z70 ha hl hh) fun σ H Q hh0=>by
 obtain⟨ρ,w,t,r',q,ρ',gd,ee,k⟩:=hh0
 unfold z80 at ee
 split at ee
 ·rename_i ds q1 ρ1 h1
  split at ee
  ·rename_i lo ρ2 h2
   split at ee
   ·rename_i hi ρ3 h3
    cases ee
    refine⟨ρ,w,t,_,_,_,gd,h1,fun v H1 w1 F1 g1 go1 r1=>?_⟩
    have gg1:=g1.drop (t':=t)
    have r0:=r1.drop (o:=.f) (Qi t)
    refine⟨ρ1,x1l t w1,t,_,_,gg1,h2,fun H2 w2 g2 go2=>⟨ρ2,w2,t,_,_,g2,h3,fun H3 w3 g3 go3=>?_⟩⟩
    have r3:=(r0.go0 gg1.wl go2.stab).go0 g2.wl go3.stab
    obtain⟨p1,vs,rfl,q1',s1⟩:=r3.seqL0
    have l1:=s1.length
    refine⟨p1,vs,rfl,q1',fun p hp=>?_⟩
    have s4:Reps X.K H3 w3 .f 0 (z46 ds lo hi) (z17 vs lo hi) []:=by
     unfold z46 z17
     rw[<- l1]
     exact(s1.drop0 _).take0 _
    obtain⟨a1,a2,a3⟩:=y0k g3 hp s4
    exact k _ _ _ _ a1 ((((go1.drop gd.wt).trans go2).trans go3).trans a2) a3
   ·cases ee
  ·cases ee
 ·cases ee⟩
end
end L3
namespace L3
open PySem PySem.Spec PyProof.Rows PySem.W L2
abbrev j4k:=Rho->Option (Str×Rho)
def CE (Y:Cx)(pins:List (Addr×Obj))(σ:St)(H:Hp)(w:Wn)(nm:Str)(ρ1:Rho)(ev:Value)(s':Shared):Prop:=
 ∃ s1 H1 w1 a C t B H',ev=.ref a/\Inv Y.nox pins σ H1 s1/\Good Y.K ρ1 σ H1 w1 0/\Go H w H1 w1/\Fly Y.prog Y.w Y.stack H1 s1 a C t B H' s'/\nsIn Y.K mainGlobals nm=some (some (.ref C))/\(∀ b o,H1 b=some o->Sm o (H' b))/\TB Y.K H'
structure Lm (K:PySem.W.Frag) (mg:Str->Option Value) (base:Heap):Prop where
 bm:∃ bm o,mg "__builtins__" = some (.ref bm)/\bm≠builtinsNs/\base.get? bm=some o/\o.cls=.type "module" /\ o.dict=some builtinsNs/\o.data=.plain
 cd:∀ x∈x9q,∀ c P,tabIn K x=some (c,P)->CodeHd base c P
end L3
namespace L3
open PySem PySem.Spec PyProof.Rows L2
theorem Rep.seqV{K:PySem.W.Frag}{H:Hp}{w:Wn}{o:Ow}{q:Nat}{ds:List D}{v:V}{F:List Addr}(r:Rep K H w o q (.lst ds) v F)(hq:q<=1):∃ a vs,v=.ref a/\SqL K H a vs/\Reps K H w o 0 ds vs []:=by
 cases r with
 | kl h r=>exact⟨_,_,rfl,h.sq,r⟩
 | shr h n r=>exact⟨_,_,rfl,.inl h,r⟩
 | own h n r ne=>
  rename_i q' _ _ _
  obtain rfl:q'=0:=by omega
  have e:=r.zero
  subst e
  exact⟨_,_,rfl,SqL.of h,r⟩
end L3
namespace L3
open PySem PySem.Spec PyProof.Rows PySem.W L2
variable {Q:Bool->Shared->Prop}
abbrev met (ks:List Int):List Int:=firstMet (fun i=>ks.getD i 0) ks.length
theorem z4q{K:PySem.W.Frag}{H:Hp}{w:Wn}{o:Ow}:∀ {ks:List Int} {vs:List V} {F:List Addr},Reps K H w o 0 (ks.map D.int) vs F->vs=ks.map V.int
 | [],_,_,h=>by cases h;rfl
 | k::ks,_,_,h=>by
  cases h with
  | cons r rs _=>rw[x3l r,z4q rs];rfl
def bl (m:Nat):List Nat:=(List.range 5).filter fun i=>m.testBit i
def bt (m:Nat)(led:Bool):SetTable:={ mask:=if(bl m).length<5 then 7 else 31,place:=(bl m).toArray,dummies:=#[],finger:=0,led:=led,moves:=if(bl m).length<5 then 0 else 1,plain:=true }
def esL (m:Nat)(z:Nat->Tok):Array (Int×Value):=((bl m).map fun v:Nat=>(Int.ofNat v,Value.int (Int.ofNat v) (z v))).toArray
def so (m:Nat)(z:Nat->Tok)(ep:Nat)(led:Bool):Obj:={ cls:=.type "set",dict:=none,data:=.set (esL m z) ep (bt m led) }
def bor (m v:Nat):Nat:=m ||| 1 <<< v
def mb (val:Nat->Nat):Nat->Nat
 | 0=>0
 | i+1=>bor (mb val i) (val i)
section
variable {prog:Program}{w:World}{A:Around}{E:Value->Shared->Prop}{s:Shared}
abbrev byT (w:World):Bool:=w.params.followText "set-order"
theorem z41(led:Bool):(so 0 (fun _=>0) 0 led)={ cls:=.type "set",dict:=none,data:=.set #[] 0 (.fresh 0 0 led) }:=by unfold so;congr 1
theorem j46(a:Value){Q₁:Value->Shared->Prop}(h:Q₁ (.ref s.heap.objs.size) { s with heap:=s.heap.push (so 0 (fun _=>0) 0 (!byT w)) }) :
  codeAny (model prog w) A (.call (.builtin "set.__new__") ⟨[.type "set",a],[]⟩) (wants Q₁ E) s:=by
 refine codeAny_of_tree ?_
 show wpAny _ A.in1 (do checkBuiltinCall "set.__new__" ⟨[.type "set",a],[]⟩;again (.builtin "set.__new__" ⟨[.type "set",a],[]⟩)) _ _ s
 refine wpAny_bind (VM (PySem.F.newCall_set_1 a) (Qd ⟨plainId_quiet VE _,ZW PySem.F.entry_set_new ?_⟩))
 rw[Je VE _]
 unfold Builtin.«set.__new__» Builtin.Frozenset.newClass
 have hsub:=sub_set_self
 obtain⟨hp,g,d,tk,os⟩:=s
 dsimp only
 wp_walk
 refine Vk (Qd ?_)
 dsimp only
 simp only[newObj]
 refine wpAny_bind (wpAny_alloc (Qd ?_))
 rw[z41]at h
 exact Qd h
end
theorem z0f{α:Type}(next:Nat->Nat):∀ (fuel k:Nat) (x31:List α) (out:Array α),x31.length=fuel->(pickOrder.go next fuel k x31 out).toList.Perm (out.toList++x31)
 | 0,k,x31,out,h=>by
  rw[List.eq_nil_of_length_eq_zero h,Z5];exact .rfl
 | fuel+1,k,x31,out,h=>by
  unfold pickOrder.go
  have hlt:next k % x31.length<x31.length:=Vt _ (by omega)
  rw[Qa hlt]
  dsimp only
  refine(z0f next fuel (k+1) _ _ (by rw[VN,Qj hlt];omega)).trans ?_
  rw[Array.toList_push,Jz]
  refine VF _ ?_
  rw[List.eraseIdx_eq_take_drop_succ]
  have e:x31=x31.take (next k % x31.length)++x31[next k % x31.length]::x31.drop (next k % x31.length+1):=by
   rw[List.getElem_cons_drop];exact(Ye _ _).symm
  conv=>rhs;rw[e]
  show List.Perm (x31[next k % x31.length]::(x31.take (next k % x31.length)++x31.drop (next k % x31.length+1))) _
  exact List.perm_middle.symm
theorem y8r{α:Type}(next:Nat->Nat)(xs:Array α):(pickOrder next xs).toList.Perm xs.toList:=by
 unfold pickOrder
 exact z0f next _ 0 _ #[] (by simp)
theorem z3n:entryFor table "set.__iter__" = some Builtin.«frozenset.__iter__»:=
 entryFor_alias (id':="frozenset.__iter__") (by kernel_rfl) rfl (by decide +kernel) (by kernel_rfl)
theorem x89:Slot "set_iterator" "__next__" "set_iterator.__next__" :=
 .of (owner:="set_iterator") (n:="__next__") (by rw[Ys,Jy];kernel_rfl) (by decide +kernel) (by decide +kernel) (by decide +kernel)
  (by first|exact .inl (by decide +kernel)|exact .inr (by decide +kernel)) (by rw[J1];kernel_rfl)
theorem y6m:entryFor table "set_iterator.__next__" = some Builtin.«set_iterator.__next__»:=entryFor_of_tree (by kernel_rfl)
theorem z0m(a:Value):argsOk "set_iterator.__next__" ⟨[a],[]⟩:=by unfold argsOk;kernel_rfl
theorem y62:Slot "set_iterator" "__iter__" "set_iterator.__iter__" :=
 .of (owner:="set_iterator") (n:="__iter__") (by rw[Ys,Jy];kernel_rfl) (by decide +kernel) (by decide +kernel) (by decide +kernel)
  (by first|exact .inl (by decide +kernel)|exact .inr (by decide +kernel)) (by rw[J1];kernel_rfl)
theorem z2k(a:Value):argsOk "set_iterator.__iter__" ⟨[a],[]⟩:=by unfold argsOk;kernel_rfl
theorem z08:entryFor table "set_iterator.__iter__" = some Builtin.«dict_keyiterator.__iter__»:=
 entryFor_alias (id':="dict_keyiterator.__iter__") (by kernel_rfl) rfl (by decide +kernel) (by kernel_rfl)
def io (a:Addr)(sl i n ep:Nat):Obj:={ cls:=.type "set_iterator",dict:=none,data:=.fields #[.int (Int.ofNat sl) 0,.int (Int.ofNat i) 0,.ref a,.int (Int.ofNat n) 0,.int (Int.ofNat ep) 0],slots:=#[] }
def wk (w:World)(a:Addr)(m:Nat)(z:Nat->Tok)(ep:Nat):Array (Int×Value):=if byT w then pickOrder (w.params.setOrder a ep) (esL m z)else esL m z
section
variable {prog:Program}{w:World}{A:Around}{E:Value->Shared->Prop}{s:Shared}{a I:Addr}{m ep:Nat}{z:Nat->Tok}
theorem z07(h:Q (byT w) s):wpAny (model prog w) A setsByText Q E s:=by
 unfold setsByText
 exact wpAny_bind (Vk (Qd h))
theorem j1o(hT:s.TypeIs (.ref a) "set")(h:Q false s):wpAny (model prog w) A (Builtin.List.listLengthHint (.ref a)) Q E s:=by
 unfold Builtin.List.listLengthHint
 refine wpAny_bind (Vy hT PySem.F.slot_set_len.lookup ?_)
 generalize hid:("set.__len__":String)=id0
 wp_delta
 rw[show splitId id0=some ("set","__len__")from by subst hid;decide +kernel]
 subst hid
 refine wpAny_bind (JC (T:="set") (b:=true) hT (by rw[J1];kernel_rfl) ?_)
 refine wpAny_ite_split (fun hab=>absurd hab (by decide)) (fun _=>?_)
 refine wpAny_ite_split (fun _=>?_) (fun hab=>absurd (by decide +kernel) hab)
 refine wpAny_bind (JZ hT ?_)
 exact Qd h
end
section
variable {X:Cx}{pins:List (Addr×Obj)}{σ:St}{H:Hp}{s:Shared}{a:Addr}{h1 h':Heap}{o:HO}{t':Nat}
theorem z0k{P:Program}{w:World}{h:Heap}(x:HOk P w H h)(k:∀ b u,h.get? b=some u->h1.get? b=some u)(hp:h1.objs.size<=a):H a=none:=by
 cases q:H a with
 | none=>rfl
 | some u=>exact absurd (Qv ((x a u q).stay (h':=h1) (H':=H) (fun b u _ e=>k b u e) (fun _ e=>e) (fun _ _ e=>e)).lt hp) (QL _)
theorem z82(I:Inv X pins σ H s)(k1:∀ b u,s.heap.get? b=some u->h1.get? b=some u)(hp:h1.objs.size<=a)(k:∀ b u,s.heap.get? b=some u->h'.get? b=some u)(new:x1q X.prog X.w (upd H a o) h' a o) :
  Inv X pins σ (upd H a o) { s with heap:=h',toks:=t' }:=by
 have hn:=z0k I.hok k1 hp
 refine I.un ⟨fun b u q _ _ _=>k b u q,fun b u q _ _ _=>⟨u.slots,k b u q⟩,fun b u q n _=>?_,fun b u q _=>⟨u,k b u q⟩,fun b xs q=>by rw[x0e (x0r q hn)];exact q,fun b u xs q=>by rw[x0e (x0r q hn)];exact q,
  fun b ps q=>⟨#[],by rw[x0e (x0r q hn),q];simp⟩⟩ fun b u e=>?_
 ·rw[x0e (QM (Qv (Qm (k1 b u q)) hp))];exact n
 ·by_cases hb:b=a
  ·subst hb;rw[x0y]at e;cases e;exact new
  ·rw[x0e hb]at e
   exact(I.hok b u e).stay (fun c v _ q=>k c v q) (fun c q=>by rw[x0e (x0r q hn)];exact q) fun c xs q=>by rw[x0e (x0r q hn)];exact q
end
theorem x7d:∀ {ks:List Int} {us:List Value},IntsAre us ks->x1w (ks.map V.int) us
 | _,_,.nil=>.nil
 | _,_,.cons k t r=>.cons ⟨t,rfl⟩ (x7d r)
end L3
namespace L3
open PySem PySem.Spec PyProof.Rows L2
end L3
namespace L3
open PySem PySem.Spec PyProof.Rows PySem.W L2
end L3
namespace L3
open PySem PySem.Spec PyProof.Rows L2
end L3
namespace L3
open PySem PySem.Spec PyProof.Rows PySem.W L2
end L3
namespace L3
open PySem PySem.Spec PyProof.Rows L2
end L3
namespace L3
open PySem PySem.Spec PyProof.Rows PySem.W L2
theorem z3l{α β:Type}{f:α->β}{ps qs:List β}(h:ps.Perm qs):∀ {l:List α},qs=l.map f->∃ l':List α,l'.Perm l/\ps=l'.map f:=by
 induction h with
 | nil=>
  intro l e
  have:=Yz.mp e.symm
  subst this
  exact⟨[],.nil,rfl⟩
 | cons x _ ih=>
  intro l e
  cases l with
  | nil=>cases e
  | cons a l=>
   rw[Qx]at e
   cases e
   obtain⟨l',p,e'⟩:=ih rfl
   exact⟨a::l',p.cons a,by rw[e'];rfl⟩
 | swap x y _=>
  intro l e
  match l,e with
  | [],e=>cases e
  | [a],e=>simp at e
  | a::b::l,e=>
   rw[Qx,Qx]at e
   cases e
   exact⟨b::a::l,.swap a b l,rfl⟩
 | trans _ _ ih1 ih2=>
  intro l e
  obtain⟨l2,p2,e2⟩:=ih2 e
  obtain⟨l1,p1,e1⟩:=ih1 e2
  exact⟨l1,p1.trans p2,e1⟩
end L3
namespace L3
open PySem PySem.SetTable
variable {Q:Bool->Shared->Prop}{a bx:Addr}{e ep i j m mask n:Nat}{h h':Heap}{hs kx:List Int}{o:Obj}{xs:Array Nat}
def Rs (xs:Array Nat):Prop:=∀ a b,a<b->b<xs.size->xs.getD a 0<xs.getD b 0
theorem y5z(h:i<xs.size)(a b:Nat):xs.getD i a=xs.getD i b:=by
 unfold Array.getD
 rw[VQ h,VQ h]
theorem y22(r:Rs xs)(j:Nat):∀ (fuel lo hi:Nat),hi-lo<=fuel->lo<=hi->hi<=xs.size->(∀ i,i<lo->xs.getD i 0<j)->(∀ i,hi<=i->i<xs.size->j<=xs.getD i 0)->
  below.go xs j fuel lo hi<=xs.size/\(∀ i,i<below.go xs j fuel lo hi->xs.getD i 0<j)/\(∀ i,below.go xs j fuel lo hi<=i->i<xs.size->j<=xs.getD i 0)
 | 0,lo,hi,hf,hl,hs,h1,h2=>by
  unfold below.go
  exact⟨by omega,h1,fun i a b=>h2 i (by omega) b⟩
 | fuel+1,lo,hi,hf,hl,hs,h1,h2=>by
  unfold below.go
  by_cases c:lo<hi
  ·rw[Qj c]
   have hm:(lo+hi) / 2<xs.size:=by omega
   by_cases d:xs.getD ((lo+hi) / 2) j<j
   ·rw[Qj d]
    rw[y5z hm j 0]at d
    refine y22 r j fuel _ hi (by omega) (by omega) hs (fun i hi'=>?_) h2
    by_cases e:i=(lo+hi) / 2
    ·rw[e];exact d
    ·exact J0 (r i _ (by omega) hm) d
   ·rw[Qk d]
    rw[y5z hm j 0]at d
    refine y22 r j fuel lo _ (by omega) (by omega) (by omega) h1 (fun i a b=>?_)
    by_cases e:i=(lo+hi) / 2
    ·rw[e];omega
    ·have:=r ((lo+hi) / 2) i (by omega) b
     omega
  ·rw[Qk c]
   exact⟨by omega,h1,fun i a b=>h2 i (by omega) b⟩
theorem x7h(r:Rs xs)(j:Nat):below xs j<=xs.size/\(∀ i,i<below xs j->xs.getD i 0<j)/\(∀ i,below xs j<=i->i<xs.size->j<=xs.getD i 0):=
 y22 r j xs.size 0 xs.size (by omega) (by omega) (Qi _) (fun _ h=>absurd h (Zf _)) (fun i a b=>by omega)
theorem z1m(r:Rs xs)(h:xs[i]? = some j):below xs j=i:=by
 obtain⟨a,b,c⟩:=x7h r j
 have hi:i<xs.size:=(Z2.mp h).1
 have e:xs.getD i 0=j:=by rw[Qz,h];rfl
 by_cases l:i<below xs j
 ·have:=b i l;omega
 ·by_cases l2:below xs j<i
  ·have h1:=c (below xs j) (Qi _) (by omega)
   have h2:=r (below xs j) i l2 hi
   omega
  ·omega
theorem x5i{t:SetTable}(r:Rs t.place)(h:t.place[i]? = some j):t.slot j=.live i:=by
 unfold SetTable.slot
 rw[z1m r h]
 show(if(t.place[i]? == some j)=true then Slot.live i else _)=_
 rw[h]
 simp
theorem y7k{t:SetTable}(hd:t.dummies = #[])(h:∀ i:Nat,t.place[i]? ≠ some j):t.slot j=.empty:=by
 unfold SetTable.slot SetTable.has
 rw[hd]
 have:(t.place[below t.place j]? == some j)=false:=by
  rw[ZX];exact h _
 simp[this]
theorem x4g{t:SetTable}(r:Rs t.place)(hd:t.dummies = #[])(j:Nat):(∃ i:Nat,t.place[i]? = some j/\t.slot j=.live i)\/((∀ i:Nat,t.place[i]? ≠ some j)/\t.slot j=.empty):=by
 by_cases h:∃ i:Nat,t.place[i]? = some j
 ·obtain⟨i,e⟩:=h
  exact .inl ⟨i,e,x5i r e⟩
 ·have h':∀ i:Nat,t.place[i]? ≠ some j:=fun i e=>h ⟨i,e⟩
  exact .inr ⟨h',y7k hd h'⟩
def adv (mask:Nat)(p:Probe):Probe:=if p.more > 0 then { p with j:=p.j+1,more:=p.more-1 }else { p with j:=(leap mask p.i p.perturb).1,more:=runEnd mask (leap mask p.i p.perturb).1-(leap mask p.i p.perturb).1,i:=(leap mask p.i p.perturb).1,perturb:=(leap mask p.i p.perturb).2 }
def pst (mask:Nat)(h:Int):Probe:={ j:=bits h % (mask+1),more:=runEnd mask (bits h % (mask+1))-bits h % (mask+1),i:=bits h % (mask+1),perturb:=bits h,dummy:=none }
def pth (mask:Nat)(p:Probe):Nat->Probe
 | 0=>p
 | m+1=>pth mask (adv mask p) m
theorem x3r(mask:Nat):∀ (m k:Nat) (p:Probe),pth mask p (m+k)=pth mask (pth mask p m) k
 | 0,k,p=>by rw[J5];rfl
 | m+1,k,p=>by
  rw[VX]
  exact x3r mask m k (adv mask p)
def lp (mask a pb:Nat):Probe:={ j:=a,more:=runEnd mask a-a,i:=a,perturb:=pb,dummy:=none }
theorem y50(mask:Nat):∀ (k:Nat) (p:Probe),k<=p.more->pth mask p k={ p with j:=p.j+k,more:=p.more-k }
 | 0,p,_=>rfl
 | k+1,p,h=>by
  show pth mask (adv mask p) k=_
  have e:adv mask p={ p with j:=p.j+1,more:=p.more-1 }:=by unfold adv;rw[Qj (by omega)]
  rw[e,y50 mask k _ (by show k<=p.more-1;omega)]
  show({ p with j:=p.j+1+k,more:=p.more-1-k }:Probe)={ p with j:=p.j+(k+1),more:=p.more-(k+1) }
  congr 1
  ·omega
  ·omega
theorem z6m(mask a:Nat):runEnd mask a-a<=9:=by unfold runEnd;split<;>omega
theorem z0n(mask a pb:Nat):pth mask (lp mask a pb) (runEnd mask a-a+1)=lp mask (leap mask a pb).1 (leap mask a pb).2:=by
 rw[x3r,y50 mask (runEnd mask a-a) (lp mask a pb) (Qi _)]
 show adv mask { lp mask a pb with j:=a+(runEnd mask a-a),more:=runEnd mask a-a-(runEnd mask a-a) }=_
 unfold adv
 rw[Qk (by show ¬ runEnd mask a-a-(runEnd mask a-a) > 0;omega)]
 rfl
def lst (mask:Nat):Nat->Nat×Nat->Nat×Nat
 | 0,x=>x
 | s+1,x=>lst mask s (leap mask x.1 x.2)
theorem z01(mask:Nat):∀ (s:Nat) (x:Nat×Nat),∃ m,m<=10*s/\pth mask (lp mask x.1 x.2) m=lp mask (lst mask s x).1 (lst mask s x).2
 | 0,x=>⟨0,Qi _,rfl⟩
 | s+1,x=>by
  obtain⟨m,hm,e⟩:=z01 mask s (leap mask x.1 x.2)
  have h:=z6m mask x.1
  refine⟨runEnd mask x.1-x.1+1+m,by omega,?_⟩
  rw[x3r,z0n]
  exact e
theorem y88(mask:Nat):∀ (s r:Nat) (x:Nat×Nat),lst mask (s+r) x=lst mask r (lst mask s x)
 | 0,r,x=>by rw[J5];rfl
 | s+1,r,x=>by rw[VX];exact y88 mask s r _
theorem z4b(mask:Nat):∀ (s:Nat) (x:Nat×Nat),(lst mask s x).2=x.2 / 32 ^ s
 | 0,x=>by rw[Nat.pow_zero,Nat.div_one];rfl
 | s+1,x=>by
  show(lst mask s (leap mask x.1 x.2)).2=_
  rw[z4b mask s,Nat.pow_succ']
  show x.2 / 32 / 32 ^ s=_
  rw[Nat.div_div_eq_div_mul]
theorem z4g(mask:Nat):∀ (s:Nat) (x:Nat×Nat),x.1<=mask->(lst mask s x).1<=mask
 | 0,_,h=>h
 | s+1,x,_=>z4g mask s _ (by show(x.1*5+1+x.2 / 32) % (mask+1)<=mask;exact Yv.mp (Vt _ (Js mask)))
def rnd (mask:Nat):Nat->Nat->Nat
 | 0,a=>a
 | s+1,a=>rnd mask s ((a*5+1) % (mask+1))
theorem z0h(mask:Nat):∀ (s a:Nat),lst mask s (a,0)=(rnd mask s a,0)
 | 0,_=>rfl
 | s+1,a=>by
  show lst mask s ((a*5+1+0 / 32) % (mask+1),0 / 32)=_
  rw[Nat.zero_div,Nat.add_zero]
  exact z0h mask s _
theorem y2k(mask:Nat):∀ (s r a:Nat),rnd mask (s+r) a=rnd mask r (rnd mask s a)
 | 0,r,a=>by rw[J5];rfl
 | s+1,r,a=>by rw[VX];exact y2k mask s r _
def orb (mask:Nat):Nat->Nat->List Nat
 | 0,_=>[]
 | s+1,a=>a::orb mask s ((a*5+1) % (mask+1))
theorem y8g(mask:Nat):∀ (n a:Nat) {e:Nat},e∈orb mask n a->∃ s,s<n/\rnd mask s a=e
 | 0,_,_,h=>nomatch h
 | n+1,a,e,h=>by
  rcases Qq.mp h with rfl|h
  ·exact⟨0,Js _,rfl⟩
  ·obtain⟨s,hs,q⟩:=y8g mask n _ h
   exact⟨s+1,Nat.succ_lt_succ hs,q⟩
structure Mk (mask:Nat):Prop where
 all:∀ e,e<=mask->∃ s,s<mask+1/\rnd mask s 0=e
 back:rnd mask (mask+1) 0=0
 odd:mask % 2=1
 few:mask<=511
theorem Mk.of(mask:Nat)(o:mask % 2=1)(fw:mask<=511)(h:((List.range (mask+1)).all fun e=>(orb mask (mask+1) 0).contains e)=true)(b:rnd mask (mask+1) 0=0):Mk mask:=
 ⟨fun e he=>y8g mask _ 0 (by
   have:=JB.mp h e (QA.mpr (by omega))
   exact List.contains_iff_mem.mp this),b,o,fw⟩
theorem mk7:Mk 7:=.of 7 rfl (by decide) (by decide +kernel) (by decide +kernel)
theorem j4b:Mk 31:=.of 31 rfl (by decide) (by decide +kernel) (by decide +kernel)
theorem j2x:Mk 127:=.of 127 rfl (by decide) (by decide +kernel) (by decide +kernel)
theorem j2u:Mk 511:=.of 511 rfl (by decide) (by decide +kernel) (by decide +kernel)
theorem Mk.any(k:Mk mask){a:Nat}(ha:a<=mask)(he:e<=mask):∃ s,s<mask+1/\rnd mask s a=e:=by
 obtain⟨s0,h0,e0⟩:=k.all a ha
 obtain⟨s1,h1,e1⟩:=k.all e he
 by_cases c:s0<=s1
 ·refine⟨s1-s0,by omega,?_⟩
  rw[<- e0,<- y2k,show s0+(s1-s0)=s1 by omega]
  exact e1
 ·refine⟨s1+(mask+1)-s0,by omega,?_⟩
  rw[<- e0,<- y2k,show s0+(s1+(mask+1)-s0)=(mask+1)+s1 by omega,y2k,k.back]
  exact e1
theorem z7i(h:Int):bits h<2 ^ 64:=by unfold bits;omega
theorem z5t(k:Mk mask)(h:Int)(he:e<=mask):∃ m,m<10*turns mask/\(pth mask (pst mask h) m).j=e/\∃ s,s<turns mask/\(lst mask s (bits h % (mask+1),bits h)).1=e:=by
 have h0:bits h % (mask+1)<=mask:=Yv.mp (Vt _ (Js mask))
 have z:(lst mask 13 (bits h % (mask+1),bits h)).2=0:=by
  rw[z4b]
  exact Nat.div_eq_of_lt (Qv (z7i h) (by decide))
 have a13:=z4g mask 13 (bits h % (mask+1),bits h) h0
 obtain⟨s,hs,es⟩:=k.any a13 he
 have e1:lst mask (13+s) (bits h % (mask+1),bits h)=(e,0):=by
  rw[y88]
  have:lst mask 13 (bits h % (mask+1),bits h)=((lst mask 13 (bits h % (mask+1),bits h)).1,0):=by rw[<- z]
  rw[this,z0h,es]
 obtain⟨m,hm,em⟩:=z01 mask (13+s) (bits h % (mask+1),bits h)
 rw[e1]at em
 refine⟨m,by unfold turns;omega,?_,13+s,by unfold turns;omega,by rw[e1]⟩
 have:pst mask h=lp mask (bits h % (mask+1)) (bits h):=rfl
 rw[this,em]
 rfl
theorem z4i(mask:Nat):∀ (m:Nat) (p:Probe),p.dummy=none->(pth mask p m).dummy=none
 | 0,_,h=>h
 | m+1,p,h=>z4i mask m _ (by unfold adv;split<;>exact h)
theorem y5r(t:SetTable)(hashAt:Nat->Int)(h:Int)(r:Rs t.place)(hd:t.dummies = #[]):∀ (fuel:Nat) (p:Probe),p.dummy=none->(∃ m,m<fuel/\t.slot (pth t.mask p m).j=.empty)->
  ∃ m,m<fuel/\(∀ m',m'<m->∃ i,t.slot (pth t.mask p m').j=.live i/\hashAt i≠h)/\((t.slot (pth t.mask p m).j=.empty/\probe.go t hashAt h fuel p=some (.empty (pth t.mask p m).j none))\/∃ i,t.slot (pth t.mask p m).j=.live i/\hashAt i=h/\probe.go t hashAt h fuel p=some (.candidate (pth t.mask p m).j i (pth t.mask p (m+1))))
 | 0,_,_,⟨m,hm,_⟩=>absurd hm (Zf _)
 | fuel+1,p,hp,⟨M,hM,eM⟩=>by
  rcases x4g r hd p.j with⟨i,_,e⟩|⟨_,e⟩
  ·by_cases c:hashAt i=h
   ·refine⟨0,Js _,fun _ z=>absurd z (Zf _),.inr ⟨i,e,c,?_⟩⟩
    show probe.go t hashAt h (fuel+1) p=some (.candidate p.j i (adv t.mask p))
    unfold probe.go
    rw[e]
    show(if(hashAt i==h)=true then _ else _)=_
    rw[Qj (by rw[c];exact Z0 h)]
    rfl
   ·have n0:M≠0:=fun z=>by
     subst z
     have:t.slot p.j=.empty:=eM
     rw[e]at this;cases this
    obtain⟨M',rfl⟩:=Ym n0
    have hp':(adv t.mask p).dummy=none:=by unfold adv;split<;>exact hp
    obtain⟨m,hm,a,b⟩:=y5r t hashAt h r hd fuel (adv t.mask p) hp' ⟨M',by omega,eM⟩
    have go:probe.go t hashAt h (fuel+1) p=probe.go t hashAt h fuel (adv t.mask p):=by
     conv=>lhs;unfold probe.go
     rw[e]
     show(if(hashAt i==h)=true then _ else _)=_
     rw[Qk (by rw[Jh];exact c)]
     rfl
    refine⟨m+1,by omega,fun m' hm'=>?_,?_⟩
    ·match m' with
     | 0=>exact⟨i,e,c⟩
     | m'+1=>exact a m' (by omega)
    ·rw[go]
     exact b
  ·refine⟨0,Js _,fun _ z=>absurd z (Zf _),.inl ⟨e,?_⟩⟩
   show probe.go t hashAt h (fuel+1) p=some (.empty p.j none)
   unfold probe.go
   rw[e]
   show some (Met.empty p.j p.dummy)=_
   rw[hp]
structure TbOk (t:SetTable) (hs:List Int):Prop where
 sz:t.place.size=hs.length
 rs:Rs t.place
 nd:t.dummies = #[]
 rd:Mk t.mask
 le:∀ (i j:Nat),t.place[i]? = some j->j<=t.mask
 room:hs.length<=t.mask
 rch:∀ (i j:Nat) (h:Int),t.place[i]? = some j->hs[i]? = some h->∃ m,m<10*turns t.mask/\(pth t.mask (pst t.mask h) m).j=j/\∀ m',m'<m->∃ i',t.slot (pth t.mask (pst t.mask h) m').j=.live i'
theorem y4a:∀ {l l':List Nat},l.Nodup->(∀ x∈l,x∈l')->l.length<=l'.length
 | [],_,_,_=>Zb _
 | a::l,l',nd,h=>by
  have ha:=h a Qf
  have i:=y4a (l:=l) (l':=l'.erase a) (QW.mp nd).2 fun x hx=>by
   have ne:x≠a:=fun z=>(QW.mp nd).1 (z ▸ hx)
   exact(Yn ne).mpr (h x (Qe _ hx))
  rw[JJ ha]at i
  have:0<l'.length:=J6 ha
  show l.length+1<=l'.length
  omega
section
variable {t:SetTable}{hs:List Int}(T:TbOk t hs)
include T
theorem TbOk.hole:∃ e,e<=t.mask/\t.slot e=.empty:=by
 by_cases h:∃ e,e<=t.mask/\t.slot e=.empty
 ·exact h
 ·have all:∀ e∈List.range (t.mask+1),e∈t.place.toList:=fun e he=>by
   have he':=QA.mp he
   rcases x4g T.rs T.nd e with⟨i,a,_⟩|⟨_,a⟩
   ·obtain⟨hi,q⟩:=Z2.mp a
    rw[<- q]
    exact Yl.mpr (Y0 hi)
   ·exact absurd ⟨e,by omega,a⟩ h
  have:=y4a Jq all
  rw[QJ,QI,T.sz]at this
  have:=T.room
  omega
theorem TbOk.met(h:Int):∃ m,m<10*turns t.mask/\t.slot (pth t.mask (pst t.mask h) m).j=.empty/\∀ m',m'<m->∃ i,t.slot (pth t.mask (pst t.mask h) m').j=.live i:=by
 obtain⟨e,he,q⟩:=T.hole
 obtain⟨M,hM,eM,_⟩:=z5t T.rd h he
 have ex:∃ m,t.slot (pth t.mask (pst t.mask h) m).j=.empty:=⟨M,by rw[eM];exact q⟩
 -- the first such
 have key:∀ k,(∃ m,m<k/\t.slot (pth t.mask (pst t.mask h) m).j=.empty)->∃ m,m<k/\t.slot (pth t.mask (pst t.mask h) m).j=.empty/\∀ m',m'<m->t.slot (pth t.mask (pst t.mask h) m').j ≠ .empty:=by
  intro k
  induction k with
  | zero=>exact fun⟨m,hm,_⟩=>absurd hm (Zf _)
  | succ k ih=>
   intro ⟨m,hm,em⟩
   by_cases c:∃ m,m<k/\t.slot (pth t.mask (pst t.mask h) m).j=.empty
   ·obtain⟨m',a,b⟩:=ih c
    exact⟨m',by omega,b⟩
   ·exact⟨m,hm,em,fun m' hm' z=>c ⟨m',by omega,z⟩⟩
 obtain⟨m,hm,em,bm⟩:=key (10*turns t.mask) ⟨M,hM,by rw[eM];exact q⟩
 refine⟨m,hm,em,fun m' hm'=>?_⟩
 rcases x4g T.rs T.nd (pth t.mask (pst t.mask h) m').j with⟨i,_,a⟩|⟨_,a⟩
 ·exact⟨i,a⟩
 ·exact absurd a (bm m' hm')
end
theorem x7z{α:Type}(xs:Array α)(p:Nat)(x:α)(hp:p<=xs.size)(i:Nat):(insertAt xs p x)[i]? = if i<p then xs[i]? else if i=p then some x else xs[i-1]?:=by
 have e:(insertAt xs p x).toList=xs.toList.take p++x::xs.toList.drop p:=by
  unfold insertAt
  simp
  exact Jt (by rw[ZN,QI];exact Qi _)
 rw[<- Zg,e]
 by_cases h1:i<p
 ·rw[Qj h1,QS (by rw[Q3,QI];omega),ZQ h1,Zg]
 ·rw[Qk h1,Zm (by rw[Q3,QI];omega),Q3,QI,Nat.min_eq_left hp]
  by_cases h2:i=p
  ·rw[Qj h2,h2,VY];rfl
  ·rw[Qk h2]
   obtain⟨k,rfl⟩:∃ k,i=p+k+1:=⟨i-p-1,by omega⟩
   rw[show p+k+1-p=k+1 by omega,Zs,List.getElem?_drop,Zg]
   rfl
theorem y5s{α:Type}(xs:Array α)(p:Nat)(x:α)(hp:p<=xs.size):(insertAt xs p x).size=xs.size+1:=by
 unfold insertAt
 simp
 omega
theorem y5a(h:xs[i]? = some j):xs.getD i 0=j:=by rw[Qz,h];rfl
theorem y5v(h:i<xs.size):xs[i]? = some (xs.getD i 0):=by
 unfold Array.getD
 rw[VQ h]
 exact Zh h
theorem z8e(r:Rs xs)(hj:∀ i:Nat,xs[i]? ≠ some j):Rs (insertAt xs (below xs j) j):=by
 obtain⟨a,b,c⟩:=x7h r j
 have sz:=y5s xs (below xs j) j a
 have g:∀ i,i<xs.size+1->(insertAt xs (below xs j) j).getD i 0=if i<below xs j then xs.getD i 0 else if i=below xs j then j else xs.getD (i-1) 0:=fun i hi=>by
  refine y5a ?_
  rw[x7z xs _ j a]
  by_cases h1:i<below xs j
  ·rw[Qj h1,Qj h1];exact y5v (by omega)
  ·rw[Qk h1,Qk h1]
   by_cases h2:i=below xs j
   ·rw[Qj h2,Qj h2]
   ·rw[Qk h2,Qk h2];exact y5v (by omega)
 have c':∀ i,below xs j<=i->i<xs.size->j<xs.getD i 0:=fun i h1 h2=>by
  have:=c i h1 h2
  have ne:xs.getD i 0≠j:=fun z=>hj i (by rw[y5v h2,z])
  omega
 intro x y hxy hy
 rw[sz]at hy
 rw[g x (by omega),g y hy]
 by_cases h1:y<below xs j
 ·rw[Qj (by omega),Qj h1];exact r x y hxy (by omega)
 ·rw[Qk h1]
  by_cases h2:y=below xs j
  ·rw[Qj h2,Qj (by omega)];exact b x (by omega)
  ·rw[Qk h2]
   by_cases h3:x<below xs j
   ·rw[Qj h3]
    have:=b x h3
    have:=c' (y-1) (by omega) (by omega)
    omega
   ·rw[Qk h3]
    by_cases h4:x=below xs j
    ·rw[Qj h4];exact c' (y-1) (by omega) (by omega)
    ·rw[Qk h4];exact r (x-1) (y-1) (by omega) (by omega)
def y0m {α:Type}(l:List α)(p:Nat)(x:α):List α:=l.take p++x::l.drop p
theorem y1z{α:Type}(l:List α)(p:Nat)(x:α)(hp:p<=l.length)(i:Nat):(y0m l p x)[i]? = if i<p then l[i]? else if i=p then some x else l[i-1]?:=by
 unfold y0m
 by_cases h1:i<p
 ·rw[Qj h1,QS (by rw[Q3];omega),ZQ h1]
 ·rw[Qk h1,Zm (by rw[Q3];omega),Q3,Nat.min_eq_left hp]
  by_cases h2:i=p
  ·rw[Qj h2,h2,VY];rfl
  ·rw[Qk h2]
   obtain⟨k,rfl⟩:∃ k,i=p+k+1:=⟨i-p-1,by omega⟩
   rw[show p+k+1-p=k+1 by omega,Zs,List.getElem?_drop]
   rfl
theorem x4o{α:Type}(l:List α)(p:Nat)(x:α):(y0m l p x).length=l.length+1:=by
 unfold y0m
 rw[Qw,QH,Q3,ZN]
 omega
theorem TbOk.put{t:SetTable}(T:TbOk t hs){h:Int}(hm:m<10*turns t.mask)(em:t.slot (pth t.mask (pst t.mask h) m).j=.empty)(bm:∀ m',m'<m->∃ i,t.slot (pth t.mask (pst t.mask h) m').j=.live i)(hj:(pth t.mask (pst t.mask h) m).j<=t.mask)(hr:hs.length+1<=t.mask) :
  (t.put (pth t.mask (pst t.mask h) m).j).2<=hs.length/\(t.put (pth t.mask (pst t.mask h) m).j).1.mask=t.mask/\TbOk (t.put (pth t.mask (pst t.mask h) m).j).1 (y0m hs (t.put (pth t.mask (pst t.mask h) m).j).2 h):=by
 generalize hjj:(pth t.mask (pst t.mask h) m).j=j at *
 have ne:∀ i:Nat,t.place[i]? ≠ some j:=fun i e=>by rw[x5i T.rs e]at em;cases em
 have pe:t.put j=({ t with place:=insertAt t.place (below t.place j) j,dummies:=#[] },below t.place j):=by
  unfold SetTable.put SetTable.has
  rw[T.nd]
  simp
 rw[pe]
 obtain⟨a,b,c⟩:=x7h T.rs j
 have sz:=T.sz
 have rs':Rs (insertAt t.place (below t.place j) j):=z8e T.rs ne
 -- what was live is live
 have lv:∀ (k i:Nat),t.slot k=.live i->∃ i',({ t with place:=insertAt t.place (below t.place j) j,dummies:=#[] }:SetTable).slot k=.live i':=fun k i e=>by
  rcases x4g T.rs T.nd k with⟨i',e',_⟩|⟨_,e'⟩
  ·refine⟨if i'<below t.place j then i' else i'+1,x5i rs' ?_⟩
   show(insertAt t.place (below t.place j) j)[_]? = some k
   rw[x7z t.place _ j a]
   by_cases h1:i'<below t.place j
   ·rw[Qj h1,Qj h1];exact e'
   ·rw[Qk h1,Qk (by omega),Qk (by omega)]
    exact e'
  ·rw[e]at e';cases e'
 refine⟨by show below t.place j<=hs.length;omega,rfl,?_⟩
 refine⟨by show(insertAt t.place (below t.place j) j).size=_;rw[y5s _ _ _ a,x4o];omega,rs',rfl,T.rd,fun i k e=>?_,by rw[x4o];exact hr,fun i k h' e eh=>?_⟩
 ·have e':(insertAt t.place (below t.place j) j)[i]? = some k:=e
  rw[x7z t.place _ j a]at e'
  by_cases h1:i<below t.place j
  ·rw[Qj h1]at e';exact T.le i k e'
  ·rw[Qk h1]at e'
   by_cases h2:i=below t.place j
   ·rw[Qj h2]at e';cases e';exact hj
   ·rw[Qk h2]at e';exact T.le _ k e'
 ·have e':(insertAt t.place (below t.place j) j)[i]? = some k:=e
  have eh':(y0m hs (below t.place j) h)[i]? = some h':=eh
  rw[x7z t.place _ j a]at e'
  rw[y1z hs _ h (by omega)]at eh'
  have old:∀ i0,t.place[i0]? = some k->hs[i0]? = some h'->∃ m,m<10*turns t.mask/\(pth t.mask (pst t.mask h') m).j=k/\∀ m',m'<m->∃ i',({ t with place:=insertAt t.place (below t.place j) j,dummies:=#[] }:SetTable).slot (pth t.mask (pst t.mask h') m').j=.live i':=fun i0 x y=>by
   obtain⟨m0,q1,q2,q3⟩:=T.rch i0 k h' x y
   refine⟨m0,q1,q2,fun m' hm'=>?_⟩
   obtain⟨i',q⟩:=q3 m' hm'
   exact lv _ _ q
  by_cases h1:i<below t.place j
  ·rw[Qj h1]at e' eh';exact old _ e' eh'
  ·rw[Qk h1]at e' eh'
   by_cases h2:i=below t.place j
   ·rw[Qj h2]at e' eh'
    cases e'
    cases eh'
    refine⟨m,hm,hjj,fun m' hm'=>?_⟩
    obtain⟨i',q⟩:=bm m' hm'
    exact lv _ _ q
   ·rw[Qk h2]at e' eh';exact old _ e' eh'
theorem y39(mask:Nat)(h:Int)(m:Nat):(pth mask (pst mask h) m).j<=mask:=by
 have key:∀ (m:Nat) (p:Probe),p.j+p.more<=mask->(pth mask p m).j<=mask:=by
  intro m
  induction m with
  | zero=>intro p hp;show p.j<=mask;omega
  | succ m ih=>
   intro p hp
   refine ih _ ?_
   unfold adv
   split
   ·show p.j+1+(p.more-1)<=mask;omega
   ·show(leap mask p.i p.perturb).1+(runEnd mask (leap mask p.i p.perturb).1-(leap mask p.i p.perturb).1)<=mask
    have:(leap mask p.i p.perturb).1<=mask:=Yv.mp (Vt _ (Js mask))
    unfold runEnd
    split<;>omega
 refine key m _ ?_
 show bits h % (mask+1)+(runEnd mask (bits h % (mask+1))-bits h % (mask+1))<=mask
 have:bits h % (mask+1)<=mask:=Yv.mp (Vt _ (Js mask))
 unfold runEnd
 split<;>omega
theorem TbOk.fresh(finger moves:Nat)(led:Bool):TbOk (.fresh finger moves led) []:=
 ⟨rfl,fun a b _ h=>absurd h (Zf _),rfl,mk7,fun i j e=>by
   have:(#[]:Array Nat)[i]? = some j:=e
   simp at this,Zb _,fun i j h e _=>by
   have:(#[]:Array Nat)[i]? = some j:=e
   simp at this⟩
abbrev OwA:=Array (Option Nat)
def hol (ow:OwA)(j:Nat):Bool:=(ow.getD j (some 0)).isNone
theorem y70{p:Nat->Bool}:(∃ k,k<n/\(List.range n).find? p=some k/\p k=true/\∀ k',k'<k->p k'=false)\/((List.range n).find? p=none/\∀ k',k'<n->p k'=false):=by
 cases h:(List.range n).find? p with
 | none=>exact .inr ⟨rfl,fun k' hk=>by
   have:=List.find?_eq_none.mp h k' (QA.mpr hk)
   simpa using this⟩
 | some k=>
  rw[List.find?_range_eq_some]at h
  refine .inl ⟨k,QA.mp h.2.1,rfl,h.1,fun k' hk'=>?_⟩
  have:=h.2.2 k' hk'
  simpa using this
theorem y85(mask:Nat)(ow:OwA):∀ (fuel:Nat) (x:Nat×Nat),(∃ s,s<fuel/\hol ow (lst mask s x).1=true)->∃ m,layClean.free mask ow fuel x.1 x.2=some (pth mask (lp mask x.1 x.2) m).j/\hol ow (pth mask (lp mask x.1 x.2) m).j=true/\∀ m',m'<m->hol ow (pth mask (lp mask x.1 x.2) m').j=false
 | 0,_,⟨s,hs,_⟩=>absurd hs (Zf _)
 | fuel+1,x,⟨s,hs,es⟩=>by
  have run:∀ k,k<=runEnd mask x.1-x.1->(pth mask (lp mask x.1 x.2) k).j=x.1+k:=fun k hk=>by rw[y50 mask k _ hk];rfl
  have ge:x.1<=runEnd mask x.1:=by unfold runEnd;split<;>omega
  rcases y70 (n:=runEnd mask x.1+1-x.1) (p:=fun k=>(ow.getD (x.1+k) (some 0)).isNone)with⟨k,hk,e,pk,bk⟩|⟨e,bk⟩
  ·refine⟨k,?_,?_,fun m' hm'=>?_⟩
   ·unfold layClean.free
    rw[e,run k (by omega)]
   ·rw[run k (by omega)];exact pk
   ·rw[run m' (by omega)];exact bk m' hm'
  ·have s0:s≠0:=fun z=>by
    subst z
    have h1:(ow.getD (x.1+0) (some 0)).isNone=false:=bk 0 (by omega)
    have h2:(ow.getD x.1 (some 0)).isNone=true:=es
    rw[Nat.add_zero,h2]at h1
    cases h1
   obtain⟨s',rfl⟩:=Ym s0
   obtain⟨m,a,b,c⟩:=y85 mask ow fuel (leap mask x.1 x.2) ⟨s',by omega,es⟩
   have go:∀ m,pth mask (lp mask x.1 x.2) (runEnd mask x.1-x.1+1+m)=pth mask (lp mask (leap mask x.1 x.2).1 (leap mask x.1 x.2).2) m:=fun m=>by rw[x3r,z0n]
   refine⟨runEnd mask x.1-x.1+1+m,?_,?_,fun m' hm'=>?_⟩
   ·rw[go,<- a]
    conv=>lhs;unfold layClean.free
    rw[e]
   ·rw[go];exact b
   ·by_cases h1:m'<=runEnd mask x.1-x.1
    ·rw[run m' h1];exact bk m' (by omega)
    ·obtain⟨q,rfl⟩:∃ q,m'=runEnd mask x.1-x.1+1+q:=⟨m'-(runEnd mask x.1-x.1+1),by omega⟩
     rw[go]
     exact c q (by omega)
def occ (mask:Nat)(ow:OwA):List (Nat×Nat):=(List.range (mask+1)).filterMap fun j=>(ow.getD j none).map (j,·)
theorem y1m{α β:Type}{f g:α->Option β}:∀ {l:List α},(∀ x∈l,g x=f x)->l.filterMap g=l.filterMap f
 | [],_=>rfl
 | x::l,h=>by
  rw[Jl,Jl,h x Qf,y1m fun y hy=>h y (Qe _ hy)]
theorem z4k{α β:Type}[DecidableEq α]{f g:α->Option β}{a:α}{b:β}(hf:f a=none)(hg:g a=some b):∀ {l:List α},l.Nodup->a∈l->(∀ x∈l,x≠a->g x=f x)->(l.filterMap g).Perm (b::l.filterMap f)
 | [],_,h,_=>nomatch h
 | x::l,nd,h,e=>by
  by_cases c:x=a
  ·subst c
   have same:l.filterMap g=l.filterMap f:=y1m fun y hy=>e y (Qe _ hy) fun z=>(QW.mp nd).1 (z ▸ hy)
   rw[Jk hg,JK hf,same]
  ·have ha:a∈l:=by
    rcases Qq.mp h with z|z
    ·exact absurd z.symm c
    ·exact z
   have ih:=z4k hf hg (QW.mp nd).2 ha fun y hy=>e y (Qe _ hy)
   have ex:=e x Qf c
   cases q:f x with
   | none=>
    rw[q]at ex
    rw[JK ex,JK q]
    exact ih
   | some y=>
    rw[q]at ex
    rw[Jk ex,Jk q]
    exact(ih.cons y).trans (List.Perm.swap b y _)
structure OwOk (mask:Nat) (hs:List Int) (ow:OwA) (js:List Nat):Prop where
 sz:ow.size=mask+1
 pm:(occ mask ow).Perm js.zipIdx
 rch:∀ j k,j<=mask->ow.getD j none=some k->∃ h m,hs[k]? = some h/\m<10*turns mask/\(pth mask (pst mask h) m).j=j/\∀ m',m'<m->hol ow (pth mask (pst mask h) m').j=false
theorem y05{ow:OwA}(h:j<ow.size):hol ow j=(ow.getD j none).isNone:=by
 unfold hol Array.getD
 rw[VQ h,VQ h]
theorem y1p{ow:OwA}{k:Nat}:(j,k)∈occ mask ow ↔ j<=mask/\ow.getD j none=some k:=by
 unfold occ
 rw[YE]
 constructor
 ·rintro ⟨x,hx,e⟩
  rw[Qu]at e
  obtain⟨y,a,b⟩:=e
  cases b
  exact⟨by have:=QA.mp hx;omega,a⟩
 ·rintro ⟨a,b⟩
  exact⟨j,QA.mpr (by omega),by rw[b];rfl⟩
theorem z1b{ow:OwA}(sz:ow.size=mask+1)(h:(occ mask ow).length<=mask):∃ e,e<=mask/\hol ow e=true:=by
 by_cases c:∃ e,e<=mask/\hol ow e=true
 ·exact c
 ·have all:∀ e∈List.range (mask+1),e∈(occ mask ow).map (·.1):=fun e he=>by
   have he':=QA.mp he
   cases q:ow.getD e none with
   | none=>exact absurd ⟨e,by omega,by rw[y05 (by omega),q];rfl⟩ c
   | some k=>exact Qp.mpr ⟨(e,k),y1p.mpr ⟨by omega,q⟩,rfl⟩
  have:=y4a Jq all
  rw[QJ,Qc]at this
  omega
theorem OwOk.add(K:Mk mask){ow:OwA}{js:List Nat}(O:OwOk mask hs ow js)(h:Int)(hh:hs[js.length]? = some h)(room:js.length<=mask) :
  ∃ j,layClean.free mask ow (turns mask) (bits h % (mask+1)) (bits h)=some j/\OwOk mask hs (ow.setIfInBounds j (some js.length)) (js++[j]):=by
 have len:(occ mask ow).length=js.length:=by rw[O.pm.length_eq,List.length_zipIdx]
 obtain⟨e,he,q⟩:=z1b O.sz (by omega)
 obtain⟨_,_,_,s,hs',es⟩:=z5t K h he
 obtain⟨m,a,b,c⟩:=y85 mask ow (turns mask) (bits h % (mask+1),bits h) ⟨s,hs',by rw[es];exact q⟩
 have a':layClean.free mask ow (turns mask) (bits h % (mask+1)) (bits h)=some (pth mask (pst mask h) m).j:=a
 have b':hol ow (pth mask (pst mask h) m).j=true:=b
 have c':∀ m',m'<m->hol ow (pth mask (pst mask h) m').j=false:=c
 -- it lies within the search's turns
 have hm:m<10*turns mask:=by
  obtain⟨M,hM,eM,_⟩:=z5t K h he
  by_cases z:m<10*turns mask
  ·exact z
  ·have:=c' M (by omega)
   rw[eM,q]at this
   cases this
 have jl:=y39 mask h m
 refine⟨(pth mask (pst mask h) m).j,a',?_⟩
 generalize hj:(pth mask (pst mask h) m).j=j at *
 have sz:=O.sz
 have get:∀ x,(ow.setIfInBounds j (some js.length)).getD x none=if x=j then some js.length else ow.getD x none:=fun x=>by
  rw[Qz,Qz,Array.getElem?_setIfInBounds]
  by_cases z:x=j
  ·subst z;rw[Qj rfl,Qj (by omega),Qj rfl];rfl
  ·rw[Qk fun y=>z y.symm,Qk z]
 have jn:ow.getD j none=none:=by
  have:=b'
  rw[y05 (by omega)]at this
  exact Option.isNone_iff_eq_none.mp this
 have hl:∀ x,x<=mask->hol ow x=false->hol (ow.setIfInBounds j (some js.length)) x=false:=fun x hx y=>by
  rw[y05 (by omega)]at y
  rw[y05 (by rw[Va];omega),get]
  by_cases z:x=j
  ·rw[Qj z];rfl
  ·rw[Qk z];exact y
 refine⟨by rw[Va];exact sz,?_,fun x k hx e=>?_⟩
 ·have p1:(occ mask (ow.setIfInBounds j (some js.length))).Perm ((j,js.length)::occ mask ow):=z4k (a:=j) (by rw[jn];rfl) (by rw[get,Qj rfl];rfl) Jq (QA.mpr (by omega)) fun x _ z=>by rw[get,Qk z]
  have e:(js++[j]).zipIdx=js.zipIdx++[(j,js.length)]:=by rw[List.zipIdx_append];simp
  rw[e]
  exact p1.trans ((O.pm.cons _).trans (List.perm_append_singleton _ _).symm)
 ·rw[get]at e
  by_cases z:x=j
  ·rw[Qj z]at e
   cases e
   subst z
   exact⟨h,m,hh,hm,hj,fun m' hm'=>hl _ (y39 mask h m') (c' m' hm')⟩
  ·rw[Qk z]at e
   obtain⟨h',m0,q1,q2,q3,q4⟩:=O.rch x k hx e
   exact⟨h',m0,q1,q2,q3,fun m' hm'=>hl _ (y39 mask h' m') (q4 m' hm')⟩
theorem OwOk.start(mask:Nat)(hs:List Int):OwOk mask hs (Array.replicate (mask+1) none) []:=by
 have g:∀ j,(Array.replicate (mask+1) (none:Option Nat)).getD j none=none:=fun j=>by
  rw[Qz,Array.getElem?_replicate]
  split<;>rfl
 refine⟨Array.size_replicate,?_,fun j k _ e=>by rw[g]at e;cases e⟩
 have:occ mask (Array.replicate (mask+1) none)=[]:=by
  unfold occ
  exact List.filterMap_eq_nil_iff.mpr fun j _=>by rw[g];rfl
 rw[this]
 exact List.Perm.nil
theorem z9t(K:Mk mask)(hs:List Int)(room:hs.length<=mask):∃ ow js,layClean mask hs.toArray=some ow/\js.length=hs.length/\OwOk mask hs ow js:=by
 have key:∀ (r:List Int) (ow:OwA) (js:List Nat),OwOk mask hs ow js->(∀ i h,r[i]? = some h->hs[js.length+i]? = some h)->js.length+r.length<=mask->
   ∃ ow' js',r.foldl (fun(acc:Option (OwA×Nat)) h=>(do
    let (owner,k) <- acc
    let j <- layClean.free mask owner (turns mask) (bits h % (mask+1)) (bits h)
    pure (owner.setIfInBounds j (some k),k+1))) (some (ow,js.length))=some (ow',js'.length)/\js'.length=js.length+r.length/\OwOk mask hs ow' js':=by
  intro r
  induction r with
  | nil=>intro ow js O _ _;exact⟨ow,js,rfl,rfl,O⟩
  | cons h r ih=>
   intro ow js O e len
   rw[QH]at len
   obtain⟨j,ej,O'⟩:=O.add K h (e 0 h rfl) (by omega)
   obtain⟨ow',js',e1,e2,e3⟩:=ih _ (js++[j]) O' (fun i x hx=>by
    have:=e (i+1) x (by rw[Zs];exact hx)
    rw[Qw]
    show hs[js.length+1+i]? = some x
    rw[show js.length+1+i=js.length+(i+1)by omega]
    exact this) (by rw[Qw];show js.length+1+r.length<=mask;omega)
   refine⟨ow',js',?_,by rw[e2,Qw];show js.length+1+r.length=js.length+(r.length+1);omega,e3⟩
   rw[Vx]
   have:(do
    let (owner,k) <- some (ow,js.length)
    let j <- layClean.free mask owner (turns mask) (bits h % (mask+1)) (bits h)
    pure (owner.setIfInBounds j (some k),k+1):Option (OwA×Nat))=some (ow.setIfInBounds j (some js.length),(js++[j]).length):=by
    show(layClean.free mask ow (turns mask) (bits h % (mask+1)) (bits h)).bind _=_
    rw[ej,Qw]
    rfl
   rw[this]
   exact e1
 obtain⟨ow,js,e1,e2,e3⟩:=key hs _ [] (OwOk.start mask hs) (fun i h e=>by rw[Z6,J5];exact e) (by rw[Z6,J5];exact room)
 refine⟨ow,js,?_,by rw[e2,Z6,J5],e3⟩
 unfold layClean
 rw[List.foldl_toArray]
 have e1':=e1
 rw[Z6]at e1'
 rw[e1']
 rfl
theorem j0k(mask:Nat)(ow:OwA):(occ mask ow).Pairwise fun a b=>a.1<b.1:=by
 unfold occ
 refine List.Pairwise.filterMap _ (fun a a' h b hb b' hb'=>?_) Vu
 have e1:(ow.getD a none).map (a,·)=some b:=hb
 have e2:(ow.getD a' none).map (a',·)=some b':=hb'
 obtain⟨_,_,rfl⟩:=Qu.mp e1
 obtain⟨_,_,rfl⟩:=Qu.mp e2
 exact h
theorem z5u(K:Mk mask)(hs:List Int)(room:hs.length<=mask)(finger moves:Nat)(led plain:Bool):∃ (pl od:List Nat),laid mask finger moves led plain hs.toArray=some ({ mask,place:=pl.toArray,dummies:=#[],finger,led,moves,plain },od.toArray)/\od.Perm (List.range hs.length) /\
  TbOk { mask,place:=pl.toArray,dummies:=#[],finger,led,moves,plain } (od.map fun k=>hs.getD k 0):=by
 obtain⟨ow,js,e,hl,O⟩:=z9t K hs room
 have up:=j0k mask ow
 have len:(occ mask ow).length=hs.length:=by rw[O.pm.length_eq,List.length_zipIdx,hl]
 refine⟨(occ mask ow).map (·.1),(occ mask ow).map (·.2),?_,?_,?_⟩
 ·unfold laid
  rw[e]
  rfl
 ·have:=O.pm.map (·.2)
  rw[List.zipIdx_map_snd,hl,<- VL]at this
  exact this
 ·have get:∀ (i j:Nat),((occ mask ow).map (·.1)).toArray[i]? = some j->∃ k,(occ mask ow)[i]? = some (j,k):=fun i j h=>by
   rw[Z3,Ql,Qu]at h
   obtain⟨⟨a,b⟩,h1,h2⟩:=h
   exact⟨b,by rw[h1];cases h2;rfl⟩
  have rs:Rs ((occ mask ow).map (·.1)).toArray:=fun a b hab hb=>by
   rw[Qn,Qc]at hb
   have h1:((occ mask ow).map (·.1)).toArray[a]? = some ((occ mask ow)[a]'(by omega)).1:=by rw[Z3,Ql,Qa (by omega)];rfl
   have h2:((occ mask ow).map (·.1)).toArray[b]? = some ((occ mask ow)[b]'hb).1:=by rw[Z3,Ql,Qa hb];rfl
   rw[y5a h1,y5a h2]
   exact ZK.mp up a b (by omega) hb hab
  have mem:∀ {i:Nat} {x:Nat×Nat},(occ mask ow)[i]? = some x->x∈occ mask ow:=fun h=>by
   obtain⟨hi,q⟩:=QB.mp h
   rw[<- q];exact Zc hi
  refine⟨?_,rs,rfl,K,fun i j h=>?_,?_,fun i j h hp hh=>?_⟩
  ·show((occ mask ow).map (·.1)).toArray.size=_
   rw[Qn,Qc,Qc,Qc]
  ·obtain⟨k,q⟩:=get i j h
   exact(y1p.mp (mem q)).1
  ·rw[Qc,Qc,len];exact room
  ·obtain⟨k,q⟩:=get i j hp
   rw[Ql,Ql,q]at hh
   have hh':hs.getD k 0=h:=by cases hh;rfl
   obtain⟨jm,ek⟩:=y1p.mp (mem q)
   obtain⟨h',m,q1,q2,q3,q4⟩:=O.rch j k jm ek
   have:h'=h:=by rw[<- hh',Qh,q1];rfl
   subst this
   refine⟨m,q2,q3,fun m' hm'=>?_⟩
   have hol0:=q4 m' hm'
   have le':=y39 mask h' m'
   rw[y05 (by rw[O.sz];omega)]at hol0
   cases c:ow.getD (pth mask (pst mask h') m').j none with
   | none=>rw[c]at hol0;cases hol0
   | some k'=>
    have mm:=y1p.mpr ⟨le',c⟩
    obtain⟨i',hi',qi⟩:=Q8 mm
    refine⟨i',x5i rs ?_⟩
    show((occ mask ow).map (·.1)).toArray[i']? = some _
    rw[Z3,Ql,Qa hi',qi]
    rfl
theorem y66:∀ n,n<512->(sizeAbove n-1=7/\n<8)\/(sizeAbove n-1=15/\8<=n/\n<16)\/(sizeAbove n-1=31/\16<=n/\n<32)\/(sizeAbove n-1=63/\32<=n/\n<64)\/(sizeAbove n-1=127/\64<=n/\n<128)\/(sizeAbove n-1=255/\128<=n/\n<256)\/(sizeAbove n-1=511/\256<=n/\n<512):=by decide +kernel
theorem j3s:Mk 15:=.of 15 rfl (by decide) (by decide +kernel) (by decide +kernel)
theorem j3x:Mk 63:=.of 63 rfl (by decide) (by decide +kernel) (by decide +kernel)
theorem j23:Mk 255:=.of 255 rfl (by decide) (by decide +kernel) (by decide +kernel)
theorem y67(h:n<512):Mk (sizeAbove n-1)/\n<=sizeAbove n-1:=by
 rcases y66 n h with⟨e,a⟩|⟨e,_,a⟩|⟨e,_,a⟩|⟨e,_,a⟩|⟨e,_,a⟩|⟨e,_,a⟩|⟨e,_,a⟩<;>rw[e]
 ·exact⟨mk7,by omega⟩
 ·exact⟨j3s,by omega⟩
 ·exact⟨j4b,by omega⟩
 ·exact⟨j3x,by omega⟩
 ·exact⟨j2x,by omega⟩
 ·exact⟨j23,by omega⟩
 ·exact⟨j2u,by omega⟩
section
variable {prog:Program}{w:World}{K:Type}[DecidableEq K]{knd:KeyKind prog w K}{A:Around}{E:Value->Shared->Prop}{s:Shared}
theorem y2e(n:Nat){v:Value}(h:carriedByValue v=true):ofAClassStatement n v=pure false:=by
 cases v with
 | ref a=>simp[carriedByValue]at h
 | _=>first|rfl|simp[ofAClassStatement]|(unfold ofAClassStatement;rfl)
theorem y37{ks:List K}(n:Nat)(hk:IsTupleKey knd s.heap ks a)(h:Q false s):wpAny (model prog w) A (ofAClassStatement (n+1) (.ref a)) Q E s:=by
 have hT:=hk.typeIs
 obtain⟨o,items,k,ho,hc,hd,hi⟩:=hk
 unfold ofAClassStatement
 refine wpAny_bind (JZ hT ?_)
 dsimp only
 rw[Qj (by decide)]
 refine wpAny_bind (Qd ?_)
 simp only[Jj,Qt,Zn]
 refine wpAny_bind (ZH ho hd ?_)
 dsimp only
 refine wpAny_bind ?_
 show wpAny _ _ (forIn items _ _) _ _ s
 rw[<- Array.forIn_toList]
 refine Yi _ (fun x2o r s'=>r.1=none/\s'=s/\∀ v∈x2o,carriedByValue v=true) _ ?_ ?_ _ _ ⟨rfl,rfl,hi.byValue⟩
 ·rintro v x2o r s' ⟨hr,rfl,hall⟩
  rw[y2e _ (hall v Qf)]
  refine wpAny_bind (Qd ?_)
  simp only[Qt,Zn]
  exact Qd ⟨rfl,rfl,fun u hu'=>hall u (Qe _ hu')⟩
 ·rintro ⟨r1,r2⟩ s' ⟨hr,rfl,_⟩
  simp only at hr
  subst hr
  exact Qd h
theorem j0n{kx:List K}(hx:IsTupleKey knd s.heap kx bx)(l:List Value)(hl:∀ y∈l,∃ k b,y=.ref b/\IsTupleKey knd s.heap k b)(h:Q false s):wpAny (model prog w) A (searchCouldBeSeen (.ref bx) l) Q E s:=by
 unfold searchCouldBeSeen
 refine wpAny_bind ?_
 refine Yi _ (fun x2o r s'=>r.1=none/\s'=s/\∀ y∈x2o,∃ k b,y=.ref b/\IsTupleKey knd s.heap k b) _ ?_ ?_ _ _ ⟨rfl,rfl,hl⟩
 ·rintro y x2o r s' ⟨hr,rfl,hall⟩
  obtain⟨k,b,rfl,hb⟩:=hall y Qf
  have rest':∀ y∈x2o,∃ k b,y=.ref b/\IsTupleKey knd s'.heap k b:=fun u hu=>hall u (Qe _ hu)
  dsimp only
  by_cases c:(bx==b||(carriedByValue (.ref bx)&&carriedByValue (.ref b)))=true
  ·rw[Qj c]
   exact Qd ⟨rfl,rfl,rest'⟩
  ·rw[Qk c]
   refine wpAny_bind (wpAny_eqIsQuiet_tuple hx ?_)
   simp only[Jj,Qt,Zn]
   refine wpAny_bind (wpAny_eqIsQuiet_tuple hb ?_)
   simp only[Jj,Qt,Zn]
   refine wpAny_bind (y37 7 hx ?_)
   simp only[Qt,Zn]
   refine wpAny_bind (y37 7 hb ?_)
   simp only[Qt,Zn]
   exact Qd ⟨rfl,rfl,rest'⟩
 ·rintro ⟨r1,r2⟩ s' ⟨hr,rfl,_⟩
  simp only at hr
  subst hr
  exact Qd h
structure SetT (knd:KeyKind prog w K) (h:Heap) (es:Array (Int×Value)) (t:SetTable) (kl:List (List K)) (bs:List Addr):Prop where
 es:es.toList=(kl.zip bs).map fun x=>(tupleKeyHash knd x.1,Value.ref x.2)
 len:kl.length=bs.length
 is:∀ (i:Nat) (k:List K) (b:Addr),kl[i]? = some k->bs[i]? = some b->IsTupleKey knd h k b
 tb:TbOk t (kl.map (tupleKeyHash knd))
 nd:kl.Nodup
section
variable {es:Array (Int×Value)}{t:SetTable}{kl:List (List K)}{bs:List Addr}
theorem SetT.size(S:SetT knd h es t kl bs):es.size=kl.length:=by
 rw[<- QI,S.es,Qc,Z8,S.len,VZ]
theorem SetT.fits(S:SetT knd h es t kl bs):t.fits es.size=true:=by
 unfold SetTable.fits SetTable.fill
 have e1:=S.tb.sz
 have e2:=S.tb.room
 have e3:=S.size
 rw[Qc]at e1 e2
 rw[S.tb.nd,e3,e1]
 simp
 exact e2
theorem SetT.get(S:SetT knd h es t kl bs){k:List K}(hk:kl[i]? = some k):∃ b,bs[i]? = some b/\es[i]? = some (tupleKeyHash knd k,Value.ref b)/\IsTupleKey knd h k b:=by
 obtain⟨hi,_⟩:=QB.mp hk
 have hb:bs[i]? = some (bs[i]'(by rw[<- S.len];exact hi)):=Qa _
 refine⟨_,hb,?_,S.is i k _ hk hb⟩
 rw[<- Zg,S.es,Ql,List.zip,Yf,hk,hb]
 rfl
theorem SetT.of(S:SetT knd h es t kl bs){x:Int×Value}(hx:es[i]? = some x):∃ k b,kl[i]? = some k/\x=(tupleKeyHash knd k,Value.ref b)/\IsTupleKey knd h k b:=by
 have hi:i<kl.length:=by rw[<- S.size];exact(Z2.mp hx).1
 obtain⟨b,_,e,q⟩:=S.get (Qa hi)
 rw[hx]at e
 exact⟨_,b,Qa hi,QC e,q⟩
theorem y4j{kx:List K}{Q:SetFound->Shared->Prop}(hu:A.units<cLine)(ho:s.heap.get? a=some o)(hd:o.data=.set es ep t)(S:SetT knd s.heap es t kl bs)(hx:IsTupleKey knd s.heap kx bx)
  {M:Nat} (hM:M<10*turns t.mask) (eM:t.slot (pth t.mask (pst t.mask (tupleKeyHash knd kx)) M).j=.empty) (bM:∀ m',m'<M->∃ i,t.slot (pth t.mask (pst t.mask (tupleKeyHash knd kx)) m').j=.live i)
  (q1:kx∈kl->Q (.there none) s) (q2:kx ∉ kl->Q (.free (pth t.mask (pst t.mask (tupleKeyHash knd kx)) M).j false) s) :
  ∀ (fuel m:Nat) (stand:Option Probe),stand.getD (t.probeStart (tupleKeyHash knd kx))=pth t.mask (pst t.mask (tupleKeyHash knd kx)) m->m<=M->M-m<fuel->
   (∀ m',m'<m->∀ i,t.slot (pth t.mask (pst t.mask (tupleKeyHash knd kx)) m').j=.live i->kl[i]? ≠ some kx)->wpAny (model prog w) A (setSearchFrom a (.ref bx) (tupleKeyHash knd kx) true fuel stand) Q E s:=by
 intro fuel
 induction fuel with
 | zero=>intro m stand _ _ h _;exact absurd h (Zf _)
 | succ fuel ih=>
  intro m stand hst hm hf inv
  generalize hh:tupleKeyHash knd kx=h at *
  unfold setSearchFrom
  refine wpAny_bind (ZV ho hd S.fits ?_)
  dsimp only
  have gw:t.gaveWay=false:=by
   unfold SetTable.gaveWay
   rw[S.tb.rd.odd]
   rfl
  rw[gw]
  simp only[Qt,Zn]
  rw[hst]
  have pn:(pth t.mask (pst t.mask h) m).dummy=none:=z4i _ _ _ rfl
  have ex:∃ m1,m1<10*turns t.mask/\t.slot (pth t.mask (pth t.mask (pst t.mask h) m) m1).j=.empty:=⟨M-m,by omega,by rw[<- x3r,show m+(M-m)=M by omega];exact eM⟩
  have key:∀ (hashAt:Nat->Int),(∀ i x,es[i]? = some x->hashAt i=x.1)->∃ met,t.probe hashAt h (pth t.mask (pst t.mask h) m)=some met/\((∃ j,met=.empty j none/\kx ∉ kl/\j=(pth t.mask (pst t.mask h) M).j)\/∃ m1 i k b,m+m1<M/\met=.candidate (pth t.mask (pst t.mask h) (m+m1)).j i (pth t.mask (pst t.mask h) (m+m1+1))/\t.slot (pth t.mask (pst t.mask h) (m+m1)).j=.live i/\kl[i]? = some k/\es[i]? = some (tupleKeyHash knd k,Value.ref b)/\IsTupleKey knd s.heap k b/\∀ m',m'<m+m1->∀ i,t.slot (pth t.mask (pst t.mask h) m').j=.live i->kl[i]? ≠ some kx):=by
   intro hashAt hA
   obtain⟨m1,h1,bf,c⟩:=y5r t hashAt h S.tb.rs S.tb.nd (10*turns t.mask) (pth t.mask (pst t.mask h) m) pn ex
   have inv':∀ m',m'<m+m1->∀ i,t.slot (pth t.mask (pst t.mask h) m').j=.live i->kl[i]? ≠ some kx:=fun m' hm' i e z=>by
    by_cases l:m'<m
    ·exact inv m' l i e z
    ·obtain⟨i',e',ne⟩:=bf (m'-m) (by omega)
     rw[<- x3r,show m+(m'-m)=m' by omega,e]at e'
     cases e'
     obtain⟨b,_,q,_⟩:=S.get z
     exact ne (by rw[hA i _ q];exact hh)
   rcases c with⟨e,g⟩|⟨i,e,eh,g⟩
   ·rw[<- x3r]at e g
    have eM':m+m1=M:=by
     by_cases l:m+m1<M
     ·obtain⟨i,q⟩:=bM _ l
      rw[e]at q;cases q
     ·by_cases l2:M<m+m1
      ·obtain⟨i',e',_⟩:=bf (M-m) (by omega)
       rw[<- x3r,show m+(M-m)=M by omega,eM]at e'
       cases e'
      ·omega
    refine⟨_,g,.inl ⟨_,rfl,fun z=>?_,by rw[eM']⟩⟩
    obtain⟨i,hi,q⟩:=Q8 z
    have hk:kl[i]? = some kx:=by rw[Qa hi,q]
    have hpl:t.place[i]? = some (t.place[i]'(by rw[S.tb.sz,Qc];exact hi)):=Zh _
    obtain⟨m0,z1,z2,z3⟩:=S.tb.rch i _ h hpl (by rw[Ql,hk];exact ZL some hh)
    have lv:=x5i S.tb.rs hpl
    rw[<- z2]at lv
    by_cases l:m0<M
    ·exact inv' m0 (by omega) i lv hk
    ·by_cases l2:m0=M
     ·rw[l2,eM]at lv;cases lv
     ·obtain⟨i',q'⟩:=z3 M (by omega)
      rw[eM]at q';cases q'
   ·rw[<- x3r]at e g
    have lt:m+m1<M:=by
     by_cases l:m+m1<M
     ·exact l
     ·by_cases l2:m+m1=M
      ·rw[l2,eM]at e;cases e
      ·obtain⟨i',e',_⟩:=bf (M-m) (by omega)
       rw[<- x3r,show m+(M-m)=M by omega,eM]at e'
       cases e'
    have hpl:∃ j,t.place[i]? = some j:=by
     rcases x4g S.tb.rs S.tb.nd (pth t.mask (pst t.mask h) (m+m1)).j with⟨i',a',b'⟩|⟨_,b'⟩
     ·rw[e]at b';cases b';exact⟨_,a'⟩
     ·rw[e]at b';cases b'
    obtain⟨j,hj⟩:=hpl
    have hi:i<kl.length:=by
     have:=(Z2.mp hj).1
     rw[S.tb.sz,Qc]at this
     exact this
    obtain⟨b,_,q,r⟩:=S.get (Qa hi)
    refine⟨_,g,.inr ⟨m1,i,_,b,lt,?_,e,Qa hi,q,r,inv'⟩⟩
    rw[<- x3r]
    rfl
  obtain⟨met,pr,cs⟩:=key _ fun i x hx=>show(es[i]?.map (·.1)).getD 0=x.1 by rw[hx];rfl
  generalize hp:t.probe _ h (pth t.mask (pst t.mask h) m)=pr0
  have hp0:pr0=some met:=by rw[<- hp];exact pr
  subst hp0
  clear hp
  dsimp only
  rcases cs with⟨j,rfl,nk,rfl⟩|⟨m1,i,k,b,lt,rfl,lv,ek,ee,kb,inv'⟩
  ·exact Qd (q2 nk)
  ·dsimp only
   have sm:t.sameMemory t.moves t.mask=some true:=by unfold SetTable.sameMemory;simp
   cases hled:t.led with
   | false=>
    simp only[VO,ZD]
    refine wpAny_bind (j0n hx _ (fun y hy=>?_) ?_)
    ·obtain⟨e,he,rfl⟩:=Qp.mp hy
     have he':=(Array.mem_filter.mp (Yl.mp he)).1
     obtain⟨i',hi',q⟩:=VP he'
     obtain⟨k',b',_,r1,r2⟩:=S.of (i:=i') (x:=e) (by rw[Zh hi',q])
     exact⟨k',b',by rw[r1],r2⟩
    simp only[Qt,Zn]
    rw[ee]
    dsimp only
    refine wpAny_bind (Za (wpAny_eqBool_tuple hu kb hx ?_))
    refine wpAny_bind (ZV ho hd S.fits ?_)
    dsimp only
    by_cases c:k=kx
    ·rw[Qs c]
     simp only[VS,ZD]
     exact Qd (q1 (by rw[<- c];exact Qy ek))
    ·rw[QK c]
     simp only[Bool.and_false,Qt,Zn,sm,ZD,lv,ee]
     refine wpAny_bind (wpAny_isSame_ref_self ?_)
     simp only[ZD]
     refine wpAny_bind (Qd ?_)
     dsimp only
     exact ih (m+m1+1) (some (pth t.mask (pst t.mask h) (m+m1+1))) rfl (by omega) (by omega) fun m' hm' i' e'=>by
      by_cases l:m'<m+m1
      ·exact inv' m' l i' e'
      ·have:m'=m+m1:=by omega
       subst this
       rw[lv]at e'
       cases e'
       rw[ek]
       exact fun z=>c (QC z)
   | true=>
    simp only[Jj,Qt,Zn]
    rw[ee]
    dsimp only
    refine wpAny_bind (Za (wpAny_eqBool_tuple hu kb hx ?_))
    refine wpAny_bind (ZV ho hd S.fits ?_)
    dsimp only
    by_cases c:k=kx
    ·rw[Qs c]
     simp only[VS,ZD]
     exact Qd (q1 (by rw[<- c];exact Qy ek))
    ·rw[QK c]
     simp only[Bool.and_false,Qt,Zn,sm,ZD,lv,ee]
     refine wpAny_bind (wpAny_isSame_ref_self ?_)
     simp only[ZD]
     refine wpAny_bind (Qd ?_)
     dsimp only
     exact ih (m+m1+1) (some (pth t.mask (pst t.mask h) (m+m1+1))) rfl (by omega) (by omega) fun m' hm' i' e'=>by
      by_cases l:m'<m+m1
      ·exact inv' m' l i' e'
      ·have:m'=m+m1:=by omega
       subst this
       rw[lv]at e'
       cases e'
       rw[ek]
       exact fun z=>c (QC z)
end
end
section
variable {prog:Program}{w:World}{A:Around}{E:Value->Shared->Prop}{s:Shared}
theorem y7e{x:List Int}{vs:List Value}(hx:ItemsAre (intKind prog w) x vs):∀ v∈vs,∃ i t,v=.int i t:=by
 induction hx with
 | nil=>intro v hv;simp at hv
 | @cons k v' ks vs h1 _ ih=>
  intro v hv
  rcases Qq.mp hv with rfl|hv
  ·obtain⟨t,rfl⟩:=JW h1
   exact⟨_,_,rfl⟩
  ·exact ih v hv
theorem y7a{ks:List Int}(n:Nat)(hk:IsTupleKey (intKind prog w) s.heap ks a)(h:Q true s):wpAny (model prog w) A (hashByValue (n+1) (.ref a)) Q E s:=by
 have hT:=hk.typeIs
 obtain⟨o,items,k,ho,hc,hd,hi⟩:=hk
 unfold hashByValue
 refine wpAny_bind (Vy hT F.slot_tuple_hash.lookup ?_)
 dsimp only
 refine wpAny_bind (ZH ho hd ?_)
 refine wpAny_bind ?_
 show wpAny _ _ (forIn items _ _) _ _ s
 rw[<- Array.forIn_toList]
 refine Yi _ (fun x2o r s'=>r.1=none/\s'=s/\∀ v∈x2o,∃ i t,v=.int i t) _ ?_ ?_ _ _ ⟨rfl,rfl,y7e hi⟩
 ·rintro v x2o r s' ⟨hr,rfl,hall⟩
  obtain⟨i,t,rfl⟩:=hall v Qf
  have:hashByValue n (.int i t)=pure true:=by cases n<;>rfl
  rw[this]
  refine wpAny_bind (Qd ?_)
  simp only[Jj,Qt,Zn]
  exact Qd ⟨rfl,rfl,fun u hu'=>hall u (Qe _ hu')⟩
 ·rintro ⟨r1,r2⟩ s' ⟨hr,rfl,_⟩
  simp only at hr
  subst hr
  exact Qd h
abbrev y7p (prog:Program)(w:World):=SetT (intKind prog w)
variable {es:Array (Int×Value)}{t:SetTable}{kl:List (List Int)}{bs:List Addr}
theorem SetT.keep(S:y7p prog w h es t kl bs)(ho:h.get? a=some o)(hd:o.data=.set es ep t)(sb:Heap.SameBut a h h'):∀ (i:Nat) (k:List Int) (b:Addr),kl[i]? = some k->bs[i]? = some b->IsTupleKey (intKind prog w) h' k b:=fun i k b x y=>keepT ho hd sb (S.is i k b x y)
where
 keepT {a:Addr} {o:Obj} {ep:Nat} {h h':Heap} {es:Array (Int×Value)} {t:SetTable} {k:List Int} {b:Addr} (ho:h.get? a=some o) (hd:o.data=.set es ep t) (sb:Heap.SameBut a h h') (x:IsTupleKey (intKind prog w) h k b):IsTupleKey (intKind prog w) h' k b:=by
  obtain⟨o',items,n,ho',hc,hd',hi⟩:=x
  have hne:b≠a:=by
   rintro rfl
   obtain rfl:o'=o:=QC (ho'.symm.trans ho)
   rw[hd]at hd';exact nomatch hd'
  exact⟨o',items,n,(sb.2 b hne).trans ho',hc,hd',hi⟩
theorem z5a{α β:Type}{l:List α}{m:List β}(e:l.length=m.length)(p:Nat)(x:α)(y:β):(y0m l p x).zip (y0m m p y)=y0m (l.zip m) p (x,y):=by
 unfold y0m
 rw[List.zip_append (by rw[Q3,Q3,e]),JQ]
 congr 1
 ·unfold List.zip;exact List.take_zipWith.symm
 ·congr 1
  unfold List.zip;exact List.drop_zipWith.symm
theorem z0e{α β:Type}(f:α->β)(l:List α)(p:Nat)(x:α):(y0m l p x).map f=y0m (l.map f) p (f x):=by
 unfold y0m
 rw[QZ,Qx,List.map_take,List.map_drop]
theorem y2j{α:Type}(l:List α)(p:Nat)(x:α):(y0m l p x).Perm (x::l):=by
 unfold y0m
 have:=List.perm_middle (a:=x) (l₁:=l.take p) (l₂:=l.drop p)
 rw[Ye]at this
 exact this
theorem z2h{α:Type}(xs:Array α)(p:Nat)(x:α):(insertAt xs p x).toList=y0m xs.toList p x:=by
 unfold insertAt y0m
 simp
 exact Jt (by rw[ZN,QI];exact Qi _)
theorem SetT.put(S:y7p prog w h es t kl bs)(hx:IsTupleKey (intKind prog w) h kx bx)(nk:kx ∉ kl)(hm:m<10*turns t.mask)(em:t.slot (pth t.mask (pst t.mask (tupleKeyHash (intKind prog w) kx)) m).j=.empty)(bm:∀ m',m'<m->∃ i,t.slot (pth t.mask (pst t.mask (tupleKeyHash (intKind prog w) kx)) m').j=.live i)(hr:kl.length+1<=t.mask) :
  y7p prog w h (insertAt es (t.put (pth t.mask (pst t.mask (tupleKeyHash (intKind prog w) kx)) m).j).2 (tupleKeyHash (intKind prog w) kx,.ref bx)) (t.put (pth t.mask (pst t.mask (tupleKeyHash (intKind prog w) kx)) m).j).1 (y0m kl (t.put (pth t.mask (pst t.mask (tupleKeyHash (intKind prog w) kx)) m).j).2 kx) (y0m bs (t.put (pth t.mask (pst t.mask (tupleKeyHash (intKind prog w) kx)) m).j).2 bx):=by
 obtain⟨p1,p2,p3⟩:=S.tb.put hm em bm (y39 _ _ _) (by rw[Qc];exact hr)
 generalize (pth t.mask (pst t.mask (tupleKeyHash (intKind prog w) kx)) m).j=j at *
 rw[Qc]at p1
 generalize (t.put j).2=p at *
 have pm:=y2j kl p kx
 refine⟨?_,?_,fun i k b x y=>?_,?_,?_⟩
 ·rw[z2h,S.es,z5a S.len,z0e]
 ·rw[x4o,x4o,S.len]
 ·rw[y1z kl p kx p1]at x
  rw[y1z bs p bx (by rw[<- S.len];exact p1)]at y
  by_cases h1:i<p
  ·rw[Qj h1]at x y;exact S.is i k b x y
  ·rw[Qk h1]at x y
   by_cases h2:i=p
   ·rw[Qj h2]at x y;cases x;cases y;exact hx
   ·rw[Qk h2]at x y;exact S.is _ k b x y
 ·rw[z0e];exact p3
 ·exact pm.nodup_iff.mpr (QW.mpr ⟨nk,S.nd⟩)
end
section
variable {prog:Program}{w:World}{A:Around}{E:Value->Shared->Prop}{s:Shared}
variable {es:Array (Int×Value)}{t:SetTable}{kl:List (List Int)}{bs:List Addr}
theorem SetT.hashes(S:y7p prog w h es t kl bs):es.map (·.1)=(kl.map (tupleKeyHash (intKind prog w))).toArray:=by
 apply Array.ext'
 rw[Array.toList_map,S.es,QV]
 have:∀ (l:List (List Int)) (m:List Addr),l.length=m.length->(l.zip m).map ((fun x:Int×Value=>x.1) ∘ fun x=>(tupleKeyHash (intKind prog w) x.1,Value.ref x.2))=l.map (tupleKeyHash (intKind prog w)):=by
  intro l
  induction l with
  | nil=>intro m _;rfl
  | cons a l ih=>
   intro m hm
   cases m with
   | nil=>cases hm
   | cons b m=>rw[JQ,Qx,Qx,ih m (by simpa using hm)];rfl
 exact this kl bs S.len
theorem z04{α:Type}{l:List α}{od:List Nat}(d:α)(h:od.Perm (List.range l.length)):(od.map fun k=>l.getD k d).Perm l:=by
 have h1:=h.map fun k=>l.getD k d
 have h2:(List.range l.length).map (fun k=>l.getD k d)=l:=by
  apply Zx
  intro i
  by_cases hi:i<l.length
  ·rw[Ql,Zk hi,Qa hi]
   show some (l.getD i d)=_
   rw[Qh,Qa hi]
   rfl
  ·rw[QF (by rw[Qc,QJ];omega),QF (by omega)]
 rw[h2]at h1
 exact h1
theorem SetT.relaid(S:y7p prog w h es t kl bs)(hn:n<512)(hl:kl.length<=n):∃ (t':SetTable) (od:List Nat),t.relaid (es.map (·.1)) n=some (t',od.toArray)/\t'.led=t.led/\t'.plain=t.plain/\t'.mask=sizeAbove n-1/\(∀ k∈od,k<es.size)/\od.length=kl.length /\
  y7p prog w h (od.toArray.filterMap fun i=>es[i]?) t' (od.map fun k=>kl.getD k []) (od.map fun k=>bs.getD k 0)/\(od.map fun k=>kl.getD k []).Perm kl:=by
 obtain⟨mk,ln⟩:=y67 hn
 obtain⟨pl,od,e,pm,T⟩:=z5u mk (kl.map (tupleKeyHash (intKind prog w))) (by rw[Qc];omega) t.finger (t.movedTo (sizeAbove n-1)) t.led t.plain
 rw[Qc]at pm
 have sz:=S.size
 have lt:∀ k∈od,k<kl.length:=fun k hk=>QA.mp (pm.mem_iff.mp hk)
 refine⟨{ mask:=sizeAbove n-1,place:=pl.toArray,dummies:=#[],finger:=t.finger,led:=t.led,moves:=t.movedTo (sizeAbove n-1),plain:=t.plain },od,by rw[S.hashes];exact e,rfl,rfl,rfl,fun k hk=>by rw[sz];exact lt k hk,by rw[pm.length_eq,QJ],?_,z04 [] pm⟩
 have lb:∀ k∈od,k<bs.length:=fun k hk=>by rw[<- S.len];exact lt k hk
 refine⟨?_,by rw[Qc,Qc],fun i k b x y=>?_,?_,(z04 [] pm).nodup_iff.mpr S.nd⟩
 ·have e1:(od.toArray.filterMap fun i=>es[i]?).toList=od.filterMap fun i=>es.toList[i]?:=by
   rw[Array.toList_filterMap]
   exact y1m fun i _=>(Zg).symm
  rw[e1,S.es]
  have:∀ (o:List Nat),(∀ k∈o,k<kl.length)->o.filterMap (fun i=>((kl.zip bs).map fun x=>(tupleKeyHash (intKind prog w) x.1,Value.ref x.2))[i]?)=((o.map fun k=>kl.getD k []).zip (o.map fun k=>bs.getD k 0)).map fun x=>(tupleKeyHash (intKind prog w) x.1,Value.ref x.2):=by
   intro o
   induction o with
   | nil=>intro _;rfl
   | cons k o ih=>
    intro h
    have hk:=h k Qf
    have hb:k<bs.length:=by rw[<- S.len];exact hk
    have g:((kl.zip bs).map fun x=>(tupleKeyHash (intKind prog w) x.1,Value.ref x.2))[k]? = some (tupleKeyHash (intKind prog w) (kl.getD k []),Value.ref (bs.getD k 0)):=by
     rw[Ql,List.zip,Yf,Qa hk,Qa hb,Qh,Qa hk,Qh,Qa hb]
     rfl
    rw[Jk g,ih fun j hj=>h j (Qe _ hj)]
    rfl
  exact this od lt
 ·rw[Ql,Qu]at x y
  obtain⟨j,q1,q2⟩:=x
  obtain⟨j',q3,q4⟩:=y
  rw[q1]at q3
  cases q3
  have hj:=lt j (Qy q1)
  have hb:=lb j (Qy q1)
  rw[Qh,Qa hj]at q2
  rw[Qh,Qa hb]at q4
  exact S.is j k b (by rw[Qa hj];exact ZL some q2) (by rw[Qa hb];exact ZL some q4)
 ·have:(od.map fun k=>kl.getD k []).map (tupleKeyHash (intKind prog w))=od.map fun k=>(kl.map (tupleKeyHash (intKind prog w))).getD k 0:=by
   rw[QV]
   refine QP fun k hk=>?_
   have hj:=lt k hk
   show tupleKeyHash (intKind prog w) (kl.getD k [])=_
   rw[Qh,Qa hj,Qh,Ql,Qa hj]
   rfl
  rw[this]
  exact T
theorem SetT.move{ep0:Nat}{e0:Array (Int×Value)}{t0:SetTable}(S:y7p prog w h es t kl bs)(ho:h.get? a=some o)(hd:o.data=.set e0 ep0 t0)(sb:Heap.SameBut a h h'):y7p prog w h' es t kl bs:=
 ⟨S.es,S.len,fun i k b x y=>SetT.keep.keepT ho hd sb (S.is i k b x y),S.tb,S.nd⟩
structure SoT (prog:Program) (w:World) (h:Heap) (o:Obj) (ep:Nat) (led:Bool) (kl:List (List Int)) (es:Array (Int×Value)) (t:SetTable) (bs:List Addr):Prop where
 d:o.data=.set es ep t
 S:y7p prog w h es t kl bs
 pl:t.plain=true
 ld:t.led=led
 rm:kl.length*5<t.mask*3
theorem z1u{Q:Unit->Shared->Prop}(ho:s.heap.get? a=some o)(hd:o.data=.set es ep t)(S:y7p prog w s.heap es t kl bs)(hn:n<512)(hl:kl.length<=n)(h4:kl.length*4<=n)(h0:0<n)
  (h:∀ h' es' t' kl' bs',Heap.SameBut a s.heap h'->h'.get? a=some { o with data:=.set es' (ep+1) t' }->y7p prog w h' es' t' kl' bs'->kl'.Perm kl->t'.plain=t.plain->t'.led=t.led->kl'.length*5<t'.mask*3->(∀ b∈bs',b∈bs)->Q () { s with heap:=h' }) :
  wpAny (model prog w) A (setRelay a n) Q E s:=by
 obtain⟨t',od,e,ld,pl,mk,lt,len,S',pm⟩:=S.relaid hn hl
 have ln:=(y67 hn).2
 unfold setRelay
 refine wpAny_bind (ZV ho hd S.fits ?_)
 dsimp only
 have sl:¬ sizeAbove n > sizeLine:=by
  rw[Jb]
  rcases y66 n hn with⟨e,_⟩|⟨e,_⟩|⟨e,_⟩|⟨e,_⟩|⟨e,_⟩|⟨e,_⟩|⟨e,_⟩<;>omega
 rw[Qk sl,e]
 have sz':(od.toArray.filterMap fun i=>es[i]?).size=es.size:=by
  rw[S'.size,Qc,len,S.size]
 refine wpAny_bind (show wpAny _ _ (do
  if(od.toArray.filterMap fun i=>es[i]?).size != es.size then unsupported "internal:set-table-lost-an-element"
  pure ((od.toArray.filterMap fun i=>es[i]?),t')) _ _ _ from ?_)
 rw[sz']
 simp only[J7,Qt,Zn]
 refine Qd ?_
 dsimp only
 have sb:=ZJ s.heap a (Obj.putSet (od.toArray.filterMap fun i=>es[i]?) t')
 have hz:(od.toArray.filterMap fun i=>es[i]?).size<=sizeLine:=by rw[sz',S.size,Jb];omega
 refine wpAny_storeSet_of ho hd (h _ _ t' _ _ sb ?_ (S'.move ho hd sb) pm pl ld ?_ fun b hb=>?_) hz
 ·have:=ZM (Obj.putSet (od.toArray.filterMap fun i=>es[i]?) t') ho (by rw[putSet_of _ _ hd];rfl)
  rw[putSet_of _ _ hd]at this
  exact this
 ·rw[Qc,len,mk]
  omega
 ·obtain⟨k,hk,rfl⟩:=Qp.mp hb
  have:=lt k hk
  rw[S.size,S.len]at this
  rw[Qh,Qa this]
  exact Zc this
theorem j3o{led:Bool}{Q:Bool->Shared->Prop}(hu:A.units<cLine)(ho:s.heap.get? a=some o)(So:SoT prog w s.heap o ep led kl es t bs)(hx:IsTupleKey (intKind prog w) s.heap kx bx)(few:kl.length<=100)
  (h:∀ h' ep' kl' es' t' bs' r,Heap.SameBut a s.heap h'->h'.get? a=some { o with data:=.set es' ep' t' }->SoT prog w h' { o with data:=.set es' ep' t' } ep' led kl' es' t' bs'->kl'.Perm (if kx∈kl then kl else kx::kl)->(∀ b∈bs',b=bx\/b∈bs)->Q r { s with heap:=h' }) :
  wpAny (model prog w) A (setAddHashed a (.ref bx) (tupleKeyHash (intKind prog w) kx)) Q E s:=by
 obtain⟨hd,S,pl,ld,rm⟩:=So
 obtain⟨M,hM,eM,bM⟩:=S.tb.met (tupleKeyHash (intKind prog w) kx)
 have odd:=S.tb.rd.odd
 have few5:=S.tb.rd.few
 unfold setAddHashed setAddHashedIn
 refine Za (wpAny_bind (ZV ho hd S.fits ?_))
 dsimp only
 have ns:byScan (.ref bx) es=false:=rfl
 rw[ns]
 simp only[Qt,Zn]
 refine wpAny_bind (y4j (M:=M) hu ho hd S hx hM eM bM (fun hin=>?_) (fun nk=>?_) 100000 0 none rfl (Zb _) (by unfold turns at hM;omega) fun _ z=>absurd z (Zf _))
 ·dsimp only
  have e:s={ s with heap:=s.heap }:=by cases s;rfl
  refine Qd ?_
  rw[e]
  have eo:({ o with data:=.set es ep t }:Obj)=o:=by obtain⟨c,d,dt,sl⟩:=o;simp only at hd;subst hd;rfl
  refine h s.heap ep kl es t bs _ (Heap.SameBut.refl a s.heap) (by rw[eo];exact ho) ⟨rfl,S,pl,ld,rm⟩ ?_ fun b hb=>.inr hb
  rw[Qj hin]
 ·dsimp only
  refine wpAny_bind (ZV ho hd S.fits ?_)
  dsimp only
  have Sp:=S.put hx nk hM eM bM (by omega)
  generalize hj:(pth t.mask (pst t.mask (tupleKeyHash (intKind prog w) kx)) M).j=j at *
  have pl':(t.put j).1.plain=true:=pl
  have ld':(t.put j).1.led=led:=ld
  have mk':(t.put j).1.mask=t.mask:=rfl
  have fl':(t.put j).1.fill=kl.length+1:=by
   unfold SetTable.fill
   rw[Sp.tb.sz,Sp.tb.nd,Qc,x4o]
   rfl
  rw[pl']
  simp only[ZD]
  refine wpAny_bind (y7a 7 hx ?_)
  simp only[ZD]
  have pmI:=y2j kl (t.put j).2 kx
  generalize hes:insertAt es (t.put j).2 (tupleKeyHash (intKind prog w) kx,Value.ref bx)=es1 at *
  generalize ht1:(t.put j).1=t1 at *
  have hz:es1.size<=sizeLine:=by rw[Sp.size,x4o,Jb];omega
  refine wpAny_bind (wpAny_storeSet_of ho hd ?_ hz)
  have sb:=ZJ s.heap a (Obj.putSet es1 t1)
  have hg1:(s.heap.update a (Obj.putSet es1 t1)).get? a=some { o with data:=.set es1 (ep+1) t1 }:=by
   have:=ZM (Obj.putSet es1 t1) ho (by rw[putSet_of _ _ hd];rfl)
   rw[putSet_of _ _ hd]at this
   exact this
  have S1:=Sp.move ho hd sb
  have bI:∀ b∈y0m bs (t.put j).2 bx,b=bx\/b∈bs:=fun b hb=>Qq.mp ((y2j bs (t.put j).2 bx).mem_iff.mp hb)
  have j08:(y0m kl (t.put j).2 kx).length=kl.length+1:=x4o _ _ _
  cases hfu:t1.tooFull with
  | false=>
   simp only[VO,Vb,Qt,Zn]
   refine Qd (h _ (ep+1) _ es1 t1 _ _ sb hg1 ⟨rfl,S1,pl',ld',?_⟩ (by rw[Qk nk];exact pmI) bI)
   unfold SetTable.tooFull at hfu
   rw[fl']at hfu
   rw[j08]
   have:=of_decide_eq_false hfu
   omega
  | true=>
   simp only[VO,Vb,ZD]
   have g4:SetTable.grown (es.size+1)=(kl.length+1)*4:=by
    unfold SetTable.grown
    rw[S.size,Qk (by omega)]
   rw[g4]
   refine wpAny_bind (z1u (s:={ s with heap:=_ }) hg1 rfl S1 (by omega) (by rw[j08];omega) (by rw[j08];omega) (by omega) fun h' es' t' kl' bs' sb' hg' S' pm' pl2 ld2 rm' mb'=>?_)
   exact Qd (h h' _ kl' es' t' bs' _ (sb.trans sb') hg' ⟨rfl,S',pl2.trans pl',ld2.trans ld',rm'⟩ (by rw[Qk nk];exact pm'.trans pmI) fun b hb=>bI b (mb' b hb))
end
end L3
namespace L3
open PySem PySem.Spec PyProof.Rows PySem.W L2
variable {Q:Value->Shared->Prop}{ad:Nat->Addr}{h:Heap}{i:Nat}{kl:List (List Int)}
abbrev soT (es:Array (Int×Value))(ep:Nat)(t:SetTable):Obj:={ cls:=.type "set",dict:=none,data:=.set es ep t }
section
variable {prog:Program}{w:World}{A:Around}{R:Result->Shared->Prop}{I:Addr}{fp wr:List Addr}{G:Array GenState->Array GenState->Prop}{n:Nat}{P:Nat->Value->Prop}{St:Nat->Shared->Prop}
def z7c (prog:Program)(w:World)(led:Bool)(S:Addr)(ad:Nat->Addr)(n:Nat)(h:Heap)(kl:List (List Int)):Prop:=∃ es ep t bs,h.get? S=some (soT es ep t)/\SoT prog w h (soT es ep t) ep led kl es t bs/\∀ b∈bs,∃ j,j<n/\b=ad j
theorem z7c.go{led:Bool}{S:Addr}{h':Heap}(H:z7c prog w led S ad n h kl)(hS:∀ o,h.get? S=some o->h'.get? S=some o)(hA:∀ j,j<n->∀ o,h.get? (ad j)=some o->h'.get? (ad j)=some o):z7c prog w led S ad n h' kl:=by
 obtain⟨es,ep,t,bs,g,⟨d,T,pl,ld,rm⟩,hb⟩:=H
 refine⟨es,ep,t,bs,hS _ g,⟨d,⟨T.es,T.len,fun i k b x y=>?_,T.tb,T.nd⟩,pl,ld,rm⟩,hb⟩
 obtain⟨o,items,m,ho,hc,hd,hi⟩:=T.is i k b x y
 obtain⟨j,hj,rfl⟩:=hb b (Qy y)
 exact⟨o,items,m,hA j hj o ho,hc,hd,hi⟩
theorem j2t(W:WalksS prog w A.in1 I fp wr G n P St)(hu:A.in1.units<cLine)(S:Addr)(hSf:S ∉ fp)(led:Bool)(hn:n<=100)
  (val:Nat->List Int) (ad:Nat->Addr) (hval:∀ i v,P i v->v=.ref (ad i)) (hne:∀ i,i<n->ad i≠S/\ad i ∉ wr) :
  ∀ (k i:Nat) (s:Shared) (kl:List (List Int)),n-i=k->i<=n->St i s->(∀ j,j<n->IsTupleKey (intKind prog w) s.heap (val j) (ad j))->z7c prog w led S ad n s.heap kl->kl.length<=i->(∀ x,x∈kl ↔ ∃ j,j<i/\val j=x)->
   (∀ s' kl',Moved (S::wr) G s s'->z7c prog w led S ad n s'.heap kl'->(∀ x,x∈kl' ↔ ∃ j,j<n/\val j=x)->R (.ok (.ret .none)) s')->
   codeAny (model prog w) A (.builtin "set.update.loop" ⟨[.ref S,.ref I],[]⟩) R s:=by
 have hSw:S ∉ wr:=fun h=>hSf (W.sub _ h)
 have hsub:∀ b∈wr,b∈S::wr:=fun b hb=>Qe _ hb
 -- what lies elsewhere stays
 have tk:∀ {h h':Heap} {k:List Int} {b:Addr},(∀ o,h.get? b=some o->h'.get? b=some o)->IsTupleKey (intKind prog w) h k b->IsTupleKey (intKind prog w) h' k b:=fun q ⟨o,items,m,ho,hc,hd,hi⟩=>⟨o,items,m,q o ho,hc,hd,hi⟩
 intro k
 induction k with
 | zero=>
  intro i s kl hk hi hst hT hS hl hm hR
  have hin:i=n:=by omega
  subst hin
  refine ZW JG ?_
  rw[Je ZY _]
  show wpAny _ A.in1 (pyNext (.ref I) >>= _) _ _ s
  refine wpAny_bind (W.done s _ _ hst fun s' hmv=>?_)
  show wpAny _ A.in1 (ret Value.none) _ _ s'
  exact Qd (hR s' kl (hmv.mono hsub) (hS.go (fun o e=>hmv.heap S o hSw e) fun j hj o e=>hmv.heap _ o (hne j hj).2 e) hm)
 | succ k ih=>
  intro i s kl hk hi hst hT hS hl hm hR
  have hlt:i<n:=by omega
  refine ZW JG ?_
  rw[Je ZY _]
  show wpAny _ A.in1 (pyNext (.ref I) >>= _) _ _ s
  refine wpAny_bind (W.item i s _ _ hlt hst fun v s' hP hst' hmv=>?_)
  have hv:=hval i v hP
  subst hv
  have hT':∀ j,j<n->IsTupleKey (intKind prog w) s'.heap (val j) (ad j):=fun j hj=>tk (fun o e=>hmv.heap _ o (hne j hj).2 e) (hT j hj)
  obtain⟨es,ep,t,bs,g,So,hb⟩:=hS.go (fun o e=>hmv.heap S o hSw e) fun j hj o e=>hmv.heap _ o (hne j hj).2 e
  show wpAny _ A.in1 (holding [Value.ref (ad i)] (setAdd S (.ref (ad i))) >>= _) _ _ s'
  refine wpAny_bind (Za ?_)
  unfold setAdd
  refine Za ?_
  refine wpAny_bind (wpAny_pyHash_tuple hu (hT' i hlt) ?_)
  refine j3o (s:={ s' with toks:=s'.toks+((val i).length+1) }) hu g So (hT' i hlt) (by omega) fun h' ep' kl' es' t' bs' r hsb hS2 So' pm hbs=>?_
  have hT2:∀ j,j<n->IsTupleKey (intKind prog w) h' (val j) (ad j):=fun j hj=>tk (fun o e=>by rw[hsb.2 _ (hne j hj).1];exact e) (hT' j hj)
  have mem:∀ x,x∈kl' ↔ ∃ j,j<i+1/\val j=x:=fun x=>by
   rw[pm.mem_iff]
   have ax:x∈(if val i∈kl then kl else val i::kl) ↔ x=val i\/x∈kl:=by
    by_cases c:val i∈kl
    ·rw[Qj c]
     exact⟨.inr,fun z=>z.elim (fun y=>y ▸ c) id⟩
    ·rw[Qk c];exact Qq
   rw[ax,hm x]
   constructor
   ·rintro (rfl|⟨j,a,b⟩)
    ·exact⟨i,by omega,rfl⟩
    ·exact⟨j,by omega,b⟩
   ·rintro ⟨j,a,b⟩
    by_cases c:j=i
    ·subst c;exact .inl b.symm
    ·exact .inr ⟨j,by omega,b⟩
  have len:kl'.length<=i+1:=by
   have e:=pm.length_eq
   by_cases c:val i∈kl
   ·rw[Qj c]at e;omega
   ·rw[Qk c,QH]at e;omega
  refine Qd ⟨plainId_quiet ZY _,ih (i+1) _ kl' (by omega) hlt (W.frame _ s' _ _ hst' (Yh _ _) fun b hb' o e=>?_) hT2 ⟨es',ep',t',bs',hS2,So',fun b hb'=>?_⟩ len mem fun s'' kl'' hm'' hS'' mm=>?_⟩
  ·rw[hsb.2 b (fun h:b=S=>hSf (by rw[<- h];exact hb'))];exact e
  ·rcases hbs b hb' with rfl|z
   ·exact⟨i,hlt,rfl⟩
   ·exact hb b z
  ·refine hR s'' kl'' (Moved.trans W.gtrans ((hmv.mono hsub).then_heap (Yh _ _) fun b o hb' e=>?_) hm'') hS'' mm
   rw[hsb.2 b (fun h:b=S=>hb' (by rw[h];exact Qf))];exact e
end
section
variable {prog:Program}{w:World}{A:Around}{E:Value->Shared->Prop}{s:Shared}
set_option maxHeartbeats 3200000 in
theorem j3g{t:Addr}{us:List Value}{ks:List (List Int)}(hA:A.handled=none)(hu:A.in1.in1.in1.units<cLine)(ht:s.heap.IsList t us.toArray)(hlen:us.length=ks.length)(hk:∀ (i:Nat) (v:Value),us[i]? = some v->v=.ref (ad i))(hkk:∀ i,i<ks.length->IsTupleKey (intKind prog w) s.heap (ks.getD i []) (ad i))(h100:ks.length<=100)
  (q:∀ (h':Heap) (tk:Nat) kl,z7c prog w (!byT w) s.heap.objs.size ad ks.length h' kl->(∀ x,x∈kl ↔ ∃ j,j<ks.length/\ks.getD j []=x)->(∀ b o,b<s.heap.objs.size->s.heap.get? b=some o->h'.get? b=some o)->Q (.ref s.heap.objs.size) { s with heap:=h',toks:=tk }) :
  wpAny (model prog w) A (call (.type "set") [.ref t]) Q E s:=by
 have c1:=ZB.made
 have c2:=ZB.sub
 obtain⟨cc,tl,c3⟩:=ZB.mro
 have c4:=ZB.notType
 have c5:=ZB.canCreate
 have c6:=PySem.F.typeCall_set_1 (.ref t)
 refine wpAny_call (codeAny_of_tree (show wpAny _ _ (callAny (.type "set") _) _ _ _ from Qd ⟨YI _ (by decide +kernel),ZW PySem.F.entry_type_call ?_⟩))
 rw[Around.under_plain (weight_type_call_type "set" [.ref t] []) rfl]
 repeat (any_goals (first|assumption|wp_step))
 refine JX (j46 (.ref t) (E:=E) (Q₁:=fun ob s1=>ob=.ref s.heap.objs.size/\s1={ s with heap:=s.heap.push (so 0 (fun _=>0) 0 (!byT w)) }) ⟨rfl,rfl⟩) fun r s1 hr=>?_
 cases r with
 | error e=>exact hr
 | ok fl=>
  cases fl with
  | ret ob=>
   obtain⟨rfl,rfl⟩:=hr
   have g0:(s.heap.push (so 0 (fun _=>0) 0 (!byT w))).get? s.heap.objs.size=some (so 0 (fun _=>0) 0 (!byT w)):=Qo _ rfl
   have g1:Shared.TypeIs { s with heap:=s.heap.push (so 0 (fun _=>0) 0 (!byT w)) } (.ref s.heap.objs.size) "set":=⟨_,g0,rfl⟩
   have g2:=ZB.init.lookup
   have g3:=ZB.init.bind (.ref s.heap.objs.size)
   repeat (any_goals (first|assumption|wp_step))
   refine JX (Jd (R:=wants (fun r s2=>r=.none/\∃ h' tk kl,s2={ s with heap:=h',toks:=tk }/\z7c prog w (!byT w) s.heap.objs.size ad ks.length h' kl/\(∀ x,x∈kl ↔ ∃ j,j<ks.length/\ks.getD j []=x)/\(∀ b o,b<s.heap.objs.size->s.heap.get? b=some o->h'.get? b=some o)) E)
    ZB.init.plain PySem.F.entry_set_init (check_set_init_1 g1 ?_)) fun r2 s2 hr2=>?_
   ·obtain⟨ol,hol,hcl,nl,hdl⟩:=ht
    obtain⟨oc,od,odt,osl⟩:=ol
    simp only at hcl hdl
    subst hcl hdl
    have hol':(s.heap.push (so 0 (fun _=>0) 0 (!byT w))).get? t=some _:=Qb _ hol
    have n1:=PySem.F.sub_list_set
    have n2:=PySem.F.sub_list_frozenset
    have n3:(Value.type "list" == Value.type "dict")=false:=by decide
    have tt:(s.heap.push (so 0 (fun _=>0) 0 (!byT w))).IsList t us.toArray:=⟨_,hol',rfl,nl,rfl⟩
    unfold Builtin.«set.__init__» noKeywords Builtin.Frozenset.updateFrom
    generalize hPI:pyIter=PI
    wp_walk
    subst hPI
    refine YZ tt (wpAny_bind (wpAny_runValue ?_))
    have lt:=Qm hol
    have e1:(s.heap.push (so 0 (fun _=>0) 0 (!byT w))).objs.size=s.heap.objs.size+1:=Zt ..
    have sz:us.toArray.size=ks.length:=by rw[Qn,hlen]
    have hval:∀ (i:Nat) (v:Value),us.toArray[i]? = some v->v=.ref (ad i):=fun i v hv=>hk i v (by rw[<- hv];simp)
    have alt:∀ i,i<us.toArray.size->ad i<s.heap.objs.size:=fun i hi=>by
     rw[sz]at hi
     obtain⟨o,_,_,ho,_⟩:=hkk i hi
     exact Qm ho
    refine j2t (n:=us.toArray.size) ((Walks.list (A:=A.in1.in1.in1) (by simp[hA]) _ t (by rw[e1];exact QM (Zr lt)) us.toArray).toS) hu s.heap.objs.size (by rw[e1];simp only[Qq,Qg,J4,not_or];exact⟨QM (Zv _),YA lt⟩) (!byT w) (by rw[sz];exact h100) (fun i=>ks.getD i []) ad hval (fun i hi=>⟨QM (alt i hi),by rw[e1];simp only[Qq,Qg,J4];exact QM (Zr (alt i hi))⟩) (us.toArray.size-0) 0 _ [] (by omega) (Zb _) ⟨⟨_,Qo _ rfl,rfl,rfl⟩,tt.push _⟩ (fun j hj=>?zz0) ?zz1 (Zb _) (fun x=>⟨fun z=>(Qg z).elim,fun⟨j,z,_⟩=>absurd z (Zf _)⟩) ?zz2
    case zz0=>
     rw[sz]at hj
     obtain⟨o,items,m,ho,hc,hd,hi⟩:=hkk j hj
     exact⟨o,items,m,Qb _ (Qb _ ho),hc,hd,hi⟩
    case zz1=>
     refine⟨#[],0,.fresh 0 0 (!byT w),[],Qb _ (g0.trans (ZL some (z41 _))),⟨rfl,⟨rfl,rfl,fun i k b x _=>by simp at x,TbOk.fresh _ _ _,Jp⟩,rfl,rfl,by show 0*5<7*3;decide⟩,fun b hb=>(Qg hb).elim⟩
    case zz2=>
     intro s' kl' hm hS mm
     rw[sz]at hS mm
     obtain⟨h',g',d',tk',os'⟩:=s'
     cases (show g'=s.gens from hm.gens)
     cases (show d'=s.drawn from hm.drawn)
     cases (show os'=s.os from hm.os)
     refine Qd (show wpAny _ _ (ret Value.none) _ _ _ from Qd ⟨rfl,h',tk',kl',rfl,hS,mm,fun c o hc e=>hm.heap c o ?_ (Qb _ (Qb _ e))⟩)
     rw[e1]
     simp only[Qq,Qg,J4,not_or]
     exact⟨QM hc,QM (Zr hc)⟩
   ·cases r2 with
    | error e=>exact hr2
    | ok fl2=>
     cases fl2 with
     | ret r=>
      obtain⟨rfl,h',tk,kl',rfl,hS,mm,kp⟩:=hr2
      repeat (any_goals (first|assumption|wp_step))
      exact q _ _ _ hS mm kp
     | _=>exact hr2.elim
  | _=>exact hr.elim
end
theorem z2x{xs:Array Nat}(r:Rs xs)(hi:i<=xs.size):SetTable.below xs (if i=0 then 0 else xs.getD (i-1) 0+1)=i:=by
 by_cases h0:i=0
 ·subst h0
  rw[Qj rfl]
  obtain⟨a,b,c⟩:=x7h r 0
  by_cases z:SetTable.below xs 0=0
  ·exact z
  ·exact absurd (b 0 (by omega)) (Zf _)
 ·rw[Qk h0]
  obtain⟨a,b,c⟩:=x7h r (xs.getD (i-1) 0+1)
  generalize SetTable.below xs (xs.getD (i-1) 0+1)=q at *
  by_cases l:q<i
  ·have h1:=c (i-1) (by omega) (by omega)
   omega
  ·by_cases l2:i<q
   ·have h1:=b i l2
    have h2:=r (i-1) i (by omega) (by omega)
    omega
   ·omega
structure GdT (w:World) (es:Array (Int×Value)) (t:SetTable):Prop where
 ft:t.fits es.size=true
 pl:t.plain=true
 ld:t.led = !byT w
 rs:Rs t.place
 sz:t.place.size=es.size
theorem SoT.gd{prog:Program}{w:World}{o:Obj}{ep:Nat}{es:Array (Int×Value)}{t:SetTable}{bs:List Addr}(S:SoT prog w h o ep (!byT w) kl es t bs):GdT w es t:=
 ⟨S.S.fits,S.pl,S.ld,S.S.tb.rs,by rw[S.S.tb.sz,Qc,S.S.size]⟩
def wkT (w:World)(a:Addr)(es:Array (Int×Value))(ep:Nat):Array (Int×Value):=if byT w then pickOrder (w.params.setOrder a ep) es else es
def slT (w:World)(t:SetTable)(i:Nat):Nat:=if byT w then 0 else if i=0 then 0 else t.place.getD (i-1) 0+1
theorem y5p(w:World)(a:Addr)(es:Array (Int×Value))(ep:Nat):(wkT w a es ep).toList.Perm es.toList:=by
 unfold wkT
 split
 ·exact y8r _ _
 ·exact .rfl
theorem x8z(w:World)(a:Addr)(es:Array (Int×Value))(ep:Nat):(wkT w a es ep).size=es.size:=by
 rw[<- QI,(y5p w a es ep).length_eq,QI]
section
variable {prog:Program}{w:World}{A:Around}{E:Value->Shared->Prop}{s:Shared}{a I:Addr}{ep:Nat}{es:Array (Int×Value)}{t:SetTable}
theorem stT{Q:(Array (Int×Value)×Nat×SetTable)->Shared->Prop}(hm:GdT w es t)(ho:s.heap.get? a=some (soT es ep t))(h:Q (es,ep,t) s):wpAny (model prog w) A (setState a) Q E s:=
 ZV ho rfl hm.ft h
theorem j2e(hm:GdT w es t)(ho:s.heap.get? a=some (soT es ep t))
  (hQ:Q (.ref s.heap.objs.size) { s with heap:=s.heap.push (io a 0 0 es.size ep) }):wpAny (model prog w) A (pyIter (.ref a)) Q E s:=by
 have hT:s.TypeIs (.ref a) "set":=⟨_,ho,rfl⟩
 refine Y1 hT VG (Q1 VG hT z3n ?_ (PySem.F.args_set_iter_1 _))
 unfold Builtin.«frozenset.__iter__» Builtin.Frozenset.slot0 slotArgs
 simp only[List.isEmpty_nil,Jj,Qt,↓reduceIte,bind_assoc,Z6,J7]
 unfold Builtin.Frozenset.addrOf Builtin.Frozenset.sizeOf
 refine wpAny_bind (Qd ?_)
 try dsimp only
 refine wpAny_bind (Qd ?_)
 have hse:∀ {R:Array (Int×Value)->Shared->Prop},R es s->wpAny (model prog w) A.in1 (setEntries a) R E s:=fun h=>by
  unfold setEntries;exact wpAny_bind (stT hm ho (Qd h))
 refine wpAny_bind (wpAny_bind (hse (Qd ?_)))
 have hdr:∀ {R:Bool->Shared->Prop},R false s->wpAny (model prog w) A.in1 (setDrawn a) R E s:=fun h=>by
  unfold setDrawn
  refine wpAny_bind (stT hm ho (wpAny_bind (z07 (Qd ?_))))
  have e:(!byT w&&(!t.plain&&decide (es.size > 1)))=false:=by rw[hm.pl];cases byT w<;>rfl
  exact e ▸ h
 refine wpAny_bind (hdr ?_)
 simp only[Qt,↓reduceIte]
 refine wpAny_bind (Qd ?_)
 have hep:∀ {R:Nat->Shared->Prop},R ep s->wpAny (model prog w) A.in1 (setEpoch a) R E s:=fun h=>by
  unfold setEpoch;exact wpAny_bind (stT hm ho (Qd h))
 refine wpAny_bind (hep ?_)
 unfold newFields
 refine wpAny_bind (Q0 (Qd ⟨_,rfl,"set_iterator",_,⟨_,Qo _ rfl,rfl⟩,x89.lookup,?_⟩))
 exact hQ
theorem z9f{R:Option (Value×Nat)->Shared->Prop}(hm:GdT w es t)(hi:i<=es.size)(ho:s.heap.get? a=some (soT es ep t))
  (h:R (((wkT w a es ep)[i]?).map fun e=>(e.2,slT w t (i+1))) s):wpAny (model prog w) A (setNext a (slT w t i) i ep) R E s:=by
 unfold setNext
 refine wpAny_bind (stT hm ho (wpAny_bind (z07 ?_)))
 dsimp only
 cases hb:byT w with
 | true=>
  rw[Qj rfl]
  rw[Qk (by simp)]
  refine wpAny_bind (m:=setWalk a) ?_
  unfold setWalk
  refine wpAny_bind (stT hm ho (wpAny_bind (z07 ?_)))
  rw[hb,Qj rfl]
  refine wpAny_bind (Vk (Qd (Qd ?_)))
  unfold wkT slT at h
  rw[hb]at h
  simp only[↓reduceIte]at h
  unfold slT
  rw[hb,Qj rfl]
  exact h
 | false=>
  rw[Qk (by simp)]
  have lt:t.led=true:=by rw[hm.ld,hb];rfl
  refine(show wpAny _ _ (if((!t.plain&&decide (es.size > 1))=true)then _ else _) _ _ _ from ?_)
  rw[Qk (show ¬ ((!t.plain&&decide (es.size > 1))=true)from by rw[hm.pl];simp)]
  refine wpAny_bind (show wpAny _ _ (if((!t.led && !es.isEmpty)=true)then unsupported "set:maker-not-led" else pure ()) _ _ _ from ?_)
  rw[Qk (show ¬ ((!t.led && !es.isEmpty)=true)from by rw[lt];simp)]
  refine Qd ?_
  unfold wkT slT at h
  rw[hb]at h
  simp only[Qt,↓reduceIte,Nat.add_one_ne_zero,Nat.add_sub_cancel]at h
  unfold slT
  rw[hb]
  simp only[Qt,↓reduceIte]
  refine Qd ?_
  rw[z2x hm.rs (by rw[hm.sz];exact hi)]
  rcases Nat.lt_or_ge i es.size with hlt|hge
  ·have e1:es[i]? = some es[i]:=Zh hlt
   have e2:t.place[i]? = some (t.place.getD i 0):=y5v (by rw[hm.sz];exact hlt)
   rw[e1]at h ⊢
   rw[e2]
   exact h
  ·have e1:es[i]? = none:=Ju hge
   rw[e1]at h ⊢
   exact h
theorem j1q(hh:A.handled=none)(hne:a≠I)(hm:GdT w es t):Walks prog w A I [I,a] [I] es.size (fun i v=>∃ e,(wkT w a es ep)[i]? = some e/\v=e.2)
  (fun i h=>h.get? I=some (io a (slT w t i) i es.size ep)/\h.get? a=some (soT es ep t)) where
 sub:=fun b hb=>by simp at hb;simp[hb]
 frame:=fun _ _ _ st hk=>⟨hk I (by simp) _ st.1,hk a (by simp) _ st.2⟩
 self:=fun i s Q E st hQ=>by
  have hT:s.TypeIs (.ref I) "set_iterator":=⟨_,st.1,rfl⟩
  refine Y1 hT y62 (Q1 y62 hT z08 ?_ (z2k _))
  show wpAny _ _ (ret (.ref I)) _ _ s
  exact Qd ⟨_,rfl,"set_iterator",_,hT,x89.lookup,hQ⟩
 item:=fun i s Q E hi st hQ=>by
  have hT:s.TypeIs (.ref I) "set_iterator":=⟨_,st.1,rfl⟩
  unfold pyNext
  refine wpAny_bind (Ji (Q4 (name:=Str.ofString "__next__") hT x89 (Q1 x89 hT y6m ?_ (z0m _))))
  unfold Builtin.«set_iterator.__next__»
  refine wpAny_bind (Qd ?_)
  refine wpAny_bind (YO st.1 rfl ?_)
  show wpAny _ _ (setEntries a >>= _) _ _ _
  have hse:∀ {R:Array (Int×Value)->Shared->Prop} {E:Value->Shared->Prop},R es s->wpAny (model prog w) A.in1 (setEntries a) R E s:=fun h=>by
   unfold setEntries;exact wpAny_bind (stT hm st.2 (Qd h))
  refine wpAny_bind (hse ?_)
  dsimp only
  rw[Qk (by simp)]
  show wpAny _ _ (setNext a (slT w t i) i ep >>= _) _ _ _
  refine wpAny_bind (z9f hm (ZP hi) st.2 ?_)
  have ew:(wkT w a es ep)[i]? = some ((wkT w a es ep)[i]'(by rw[x8z];exact hi)):=Zh (by rw[x8z];exact hi)
  rw[ew]
  show wpAny _ _ (setField (.ref I) 0 (rawInt (slT w t (i+1))) >>= _) _ _ _
  refine wpAny_bind (wpAny_setField_rec st.1 (by simp) fun h1 g1 b1=>?_)
  refine wpAny_bind (wpAny_setField_rec (s:={ s with heap:=h1 }) g1 (by simp) fun h2 g2 b2=>?_)
  refine Qd ⟨_,rfl,Qd (hQ _ h2 s.toks ⟨_,ew,rfl⟩ ⟨?_,?_⟩ fun b o hb e=>?_)⟩
  ·rw[g2];simp[io,rawInt]
  ·have n1:=(b1.2 a hne);have n2:=(b2.2 a hne)
   rw[n2,n1];exact st.2
  ·have hb':b≠I:=fun h=>hb (by simp[h])
   rw[b2.2 b hb',b1.2 b hb'];exact e
 done:=fun s Q E st hQ=>by
  have hT:s.TypeIs (.ref I) "set_iterator":=⟨_,st.1,rfl⟩
  unfold pyNext
  refine wpAny_bind (Ji (Q4 (name:=Str.ofString "__next__") hT x89 (Q1 x89 hT y6m ?_ (z0m _))))
  unfold Builtin.«set_iterator.__next__»
  refine wpAny_bind (Qd ?_)
  refine wpAny_bind (YO st.1 rfl ?_)
  show wpAny _ _ (setEntries a >>= _) _ _ _
  have hse:∀ {R:Array (Int×Value)->Shared->Prop} {E:Value->Shared->Prop},R es s->wpAny (model prog w) A.in1 (setEntries a) R E s:=fun h=>by
   unfold setEntries;exact wpAny_bind (stT hm st.2 (Qd h))
  refine wpAny_bind (hse ?_)
  dsimp only
  rw[Qk (by simp)]
  show wpAny _ _ (setNext a (slT w t es.size) es.size ep >>= _) _ _ _
  refine wpAny_bind (z9f hm (Qi _) st.2 ?_)
  have ew:(wkT w a es ep)[es.size]? = none:=Ju (by rw[x8z];exact Qi _)
  rw[ew]
  show wpAny _ _ (setField (.ref I) 2 .none >>= _) _ _ _
  refine wpAny_bind (wpAny_setField_rec st.1 (by simp) fun h1 g1 b1=>?_)
  show wpAny _ _ (newExc (.type "StopIteration") [] >>= _) _ _ _
  refine wpAny_bind ?_
  simp only[newExc,newTuple]
  refine wpAny_bind (Q0 ?_ (by size_fits))
  refine wpAny_bind (m:=firstArgMember _ _) (VM (a:=Value.none) (by first|rfl|(simp only[firstArgMember];rfl)) ?_)
  refine Q0 ?_ (by size_fits)
  simp only[raiseNew]
  refine wpAny_bind (wpAny_handled ?_)
  rw[show A.in1.handled=none from hh]
  refine wpAny_bind (Qd (wpAny_throw ?_))
  refine wpAny_bind (JC (T:="StopIteration") (b:=true) ⟨_,Qo _ rfl,rfl⟩ YN ?_)
  refine Qd (hQ _ s.toks fun b o hb e=>?_)
  have hb':b≠I:=fun h=>hb (by simp[h])
  exact Qb _ (Qb _ (by rw[b1.2 b hb'];exact e))
theorem j3i(hm:GdT w es t):KdlSrc prog w "set" a a es.size (fun i v=>∃ e,(wkT w a es ep)[i]? = some e/\v=e.2) (fun h=>h.get? a=some (soT es ep t)) where
 type:=fun _ h=>⟨_,h,rfl⟩
 there:=fun _ h=>⟨Qm h,Qm h⟩
 keep:=fun _ _ h hk=>hk a (.inl rfl) _ h
 notList:=by decide
 notTuple:=by decide
 hint:=fun _ _ _ _ h hq=>j1o ⟨_,h,rfl⟩ hq
 iter:=fun A s hh h=>⟨io a 0 0 es.size ep,_,(fun _ _ hq=>j2e hm h hq),j1q hh (QM (Qm h)) hm,⟨by rw[show slT w t 0=0 by unfold slT;split<;>rfl];exact Qo _ rfl,Qb _ h⟩⟩
end
end L3
namespace L3
open PySem PySem.W PyProof.Rows
variable {Q:Bool->Shared->Prop}{a:Addr}{h:Heap}{i j n nrem:Nat}{ks:List (Nat×Nat)}{p p0:Array Nat}{vs:List Value}{x:Nat×Nat}
def kev {α:Type}(lt:Nat->Nat->Bool):KasT α->α
 | .ret a=>a
 | .ask i j k=>kev lt (k (lt i j))
theorem x3k{α β:Type}(lt:Nat->Nat->Bool)(f:α->KasT β):∀ t:KasT α,kev lt (t.bind f)=kev lt (f (kev lt t))
 | .ret _=>rfl
 | .ask i j k=>x3k lt f (k (lt i j))
variable {r:Nat->Int}
abbrev ltr (r:Nat->Int)(i j:Nat):Bool:=decide (r i<r j)
abbrev xv (r:Nat->Int)(p:Array Nat)(i:Nat):Int:=r (p.getD i 0)
theorem z14(p:Array Nat):∀ (f n:Nat),n<=kev (ltr r) (kas_asc p f n)/\kev (ltr r) (kas_asc p f n)<=n+f/\(∀ k,n<=k->k<kev (ltr r) (kas_asc p f n)->xv r p (k-1)<=xv r p k)/\(kev (ltr r) (kas_asc p f n)<n+f->xv r p (kev (ltr r) (kas_asc p f n))<xv r p (kev (ltr r) (kas_asc p f n)-1))
 | 0,n=>⟨Qi _,Qi _,fun k a b=>absurd (ZO a b) (QL _),fun h=>absurd h (QL _)⟩
 | f+1,n=>by
  have e:kev (ltr r) (kas_asc p (f+1) n)=if xv r p n<xv r p (n-1)then n else kev (ltr r) (kas_asc p f (n+1)):=by
   show kev (ltr r) (if decide (r (p.getD n 0)<r (p.getD (n-1) 0))=true then KasT.ret n else kas_asc p f (n+1))=_
   by_cases c:xv r p n<xv r p (n-1)
   ·rw[Qj c,Qj (Qs c)];rfl
   ·rw[Qk c,Qk (by rw[ZU];exact c)]
  rw[e]
  by_cases c:xv r p n<xv r p (n-1)
  ·rw[Qj c]
   exact⟨Qi _,by omega,fun k a b=>by omega,fun _=>c⟩
  ·rw[Qk c]
   obtain⟨h1,h2,h3,h4⟩:=z14 p f (n+1)
   refine⟨by omega,by omega,fun k a b=>?_,fun h=>h4 (by omega)⟩
   by_cases z:k=n
   ·subst z;omega
   ·exact h3 k (by omega) b
theorem y9h{x:Nat->Int}(h:∀ k,1<=k->k<n->x (k-1)<=x k):∀ (i j:Nat),i<=j->j<n->x i<=x j:=by
 intro i j
 induction j with
 | zero=>
  intro a _
  have:i=0:=by omega
  subst this
  exact JU _
 | succ j ih=>
  intro a b
  by_cases z:i=j+1
  ·subst z;exact JU _
  ·exact Vv (ih (by omega) (by omega)) (h (j+1) (by omega) b)
theorem z0t(hj:j<=p.size)(k:Nat):xv r (kas_rev p i j) k=if i<=k/\k<j then xv r p (i+j-1-k)else xv r p k:=by
 unfold kas_rev
 show r ((mirror p i j ((j-i) / 2)).getD k 0)=_
 rw[Qz,getElem?_mirror_all hj k]
 split
 ·rw[<- Qz]
 ·rw[<- Qz]
theorem x45(p:Array Nat)(i j:Nat):(kas_rev p i j).Perm p:=mirror_perm _ _ _ _
theorem y20(hj:j<=p.size)(h:∀ k,i<=k->k<j->xv r p k=xv r p (j-1))(k:Nat):xv r (kas_rev p i j) k=xv r p k:=by
 rw[z0t hj]
 split
 ·rename_i c
  rw[h (i+j-1-k) (by omega) (by omega),h k c.1 c.2]
 ·rfl
structure Dn (r:Nat->Int) (p0 p:Array Nat) (n q:Nat):Prop where
 pm:p.Perm p0
 le:n<=p0.size
 q1:q<n
 dn:∀ k,1<=k->k<n->xv r p k<=xv r p (k-1)
 eq:∀ k,n-(q+1)<=k->k<n->xv r p k=xv r p (n-1)
theorem y1l:∀ (f:Nat) (p:Array Nat) (n q:Nat),Dn r p0 p n q->n+f<=p0.size->∃ p' n' q',kev (ltr r) (kas_desc f p n q)=(p',n',q')/\Dn r p0 p' n' q'/\n<=n'/\n'<=n+f
 | 0,p,n,q,h,_=>⟨p,n,q,rfl,h,Qi _,Qi _⟩
 | f+1,p,n,q,h,hf=>by
  have sz:p.size=p0.size:=h.pm.size_eq
  have hq:=h.q1
  have e:kev (ltr r) (kas_desc (f+1) p n q)=if xv r p n<xv r p (n-1)then(if q > 0 then kev (ltr r) (kas_desc f (kas_rev p (n-(q+1)) n) (n+1) 0)else kev (ltr r) (kas_desc f p (n+1) 0))else if xv r p (n-1)<xv r p n then(p,n,q)else kev (ltr r) (kas_desc f p (n+1) (q+1)):=by
   show kev (ltr r) (if decide (r (p.getD n 0)<r (p.getD (n-1) 0))=true then(if q > 0 then kas_desc f (kas_rev p (n-(q+1)) n) (n+1) 0 else kas_desc f p (n+1) 0)else KasT.ask (p.getD (n-1) 0) (p.getD n 0) fun d=>if d=true then KasT.ret (p,n,q)else kas_desc f p (n+1) (q+1))=_
   by_cases c:xv r p n<xv r p (n-1)
   ·rw[Qj c,Qj (Qs c)]
    split<;>rfl
   ·rw[Qk c,Qk (by rw[ZU];exact c)]
    show kev (ltr r) (if decide (r (p.getD (n-1) 0)<r (p.getD n 0))=true then KasT.ret (p,n,q)else kas_desc f p (n+1) (q+1))=_
    by_cases d:xv r p (n-1)<xv r p n
    ·rw[Qj d,Qj (Qs d)];rfl
    ·rw[Qk d,Qk (by rw[ZU];exact d)]
  rw[e]
  by_cases c:xv r p n<xv r p (n-1)
  ·rw[Qj c]
   have step:∀ p1:Array Nat,p1.Perm p0->(∀ k,xv r p1 k=xv r p k)->Dn r p0 p1 (n+1) 0:=fun p1 pm ex=>by
    refine⟨pm,by omega,by omega,fun k a b=>?_,fun k a b=>by rw[show k=n+1-1 by omega]⟩
    rw[ex,ex]
    by_cases z:k=n
    ·subst z;omega
    ·exact h.dn k a (by omega)
   by_cases d:q > 0
   ·rw[Qj d]
    obtain⟨p',n',q',e1,e2,e3,e4⟩:=y1l f _ (n+1) 0 (step _ ((x45 _ _ _).trans h.pm) fun k=>y20 (by omega) h.eq k) (by omega)
    exact⟨p',n',q',e1,e2,by omega,by omega⟩
   ·rw[Qk d]
    obtain⟨p',n',q',e1,e2,e3,e4⟩:=y1l f _ (n+1) 0 (step p h.pm fun _=>rfl) (by omega)
    exact⟨p',n',q',e1,e2,by omega,by omega⟩
  ·rw[Qk c]
   by_cases d:xv r p (n-1)<xv r p n
   ·rw[Qj d]
    exact⟨p,n,q,rfl,h,Qi _,by omega⟩
   ·rw[Qk d]
    have en:xv r p n=xv r p (n-1):=by omega
    obtain⟨p',n',q',e1,e2,e3,e4⟩:=y1l f p (n+1) (q+1) ⟨h.pm,by omega,by omega,fun k a b=>by
     by_cases z:k=n
     ·subst z;omega
     ·exact h.dn k a (by omega),fun k a b=>by
     rw[show n+1-1=n by omega]
     by_cases z:k=n
     ·rw[z]
     ·rw[h.eq k (by omega) (by omega),en]⟩ (by omega)
    exact⟨p',n',q',e1,e2,by omega,by omega⟩
structure Up (r:Nat->Int) (p0 p:Array Nat) (n:Nat):Prop where
 pm:p.Perm p0
 n1:1<=n
 le:n<=p0.size
 up:∀ k,1<=k->k<n->xv r p (k-1)<=xv r p k
theorem z0w{q:Nat}(h:Dn r p0 p n q)(hn:nrem=p0.size):∃ m p',kev (ltr r) (kas_tail3 n nrem p)=(m,p')/\Up r p0 p' m:=by
 have sz:p.size=p0.size:=h.pm.size_eq
 have hl:=h.le
 have hq:=h.q1
 unfold kas_tail3
 rw[x3k]
 obtain⟨h1,h2,h3,_⟩:=z14 (r:=r) (kas_rev p 0 n) (nrem-n) n
 refine⟨_,_,rfl,(x45 _ _ _).trans h.pm,by omega,by omega,fun k a b=>?_⟩
 by_cases z:k<n
 ·rw[z0t (by omega),z0t (by omega),Qj ⟨by omega,by omega⟩,Qj ⟨by omega,z⟩]
  have:=h.dn (0+n-1-(k-1)) (by omega) (by omega)
  rw[show 0+n-1-(k-1)-1=0+n-1-k by omega]at this
  exact this
 ·exact h3 k (by omega) b
theorem y9b(h:Dn r p0 p (n+1) 0)(hn:nrem=p0.size):∃ m p',kev (ltr r) (kas_descPart n nrem p)=(m,p')/\Up r p0 p' m:=by
 have hl:=h.le
 unfold kas_descPart
 rw[x3k]
 obtain⟨p',n',q',e,d,a,b⟩:=y1l (nrem-(n+1)) p (n+1) 0 h (by omega)
 rw[e]
 show ∃ m p'',kev (ltr r) (if q' > 0 then kas_tail3 n' nrem (kas_rev p' (n'-(q'+1)) n')else kas_tail3 n' nrem p')=(m,p'')/\_
 have sz:p'.size=p0.size:=d.pm.size_eq
 have hl':=d.le
 by_cases c:q' > 0
 ·rw[Qj c]
  have ex:∀ k,xv r (kas_rev p' (n'-(q'+1)) n') k=xv r p' k:=fun k=>y20 (by omega) d.eq k
  exact z0w (q:=q') ⟨(x45 _ _ _).trans d.pm,d.le,d.q1,fun k a b=>by rw[ex,ex];exact d.dn k a b,fun k a b=>by rw[ex,ex];exact d.eq k a b⟩ hn
 ·rw[Qk c]
  exact z0w d hn
theorem z1d(h1:1<=p0.size):∃ m p',kev (ltr r) (kas_count p0.size p0)=(m,p')/\Up r p0 p' m:=by
 unfold kas_count
 rw[x3k]
 obtain⟨a,b,c,d⟩:=z14 (r:=r) p0 (p0.size-1) 1
 generalize kev (ltr r) (kas_asc p0 (p0.size-1) 1)=n at *
 show ∃ m p',kev (ltr r) (if(n==p0.size)=true then KasT.ret (n,p0)else if n > 1 then KasT.ask (p0.getD 0 0) (p0.getD (n-1) 0) fun c=>if c=true then KasT.ret (n,p0)else kas_descPart n p0.size (kas_rev p0 0 n)else kas_descPart n p0.size p0)=(m,p')/\_
 by_cases z:n=p0.size
 ·rw[Qj (by rw[Jh];exact z)]
  exact⟨n,p0,rfl,VA _,a,by omega,c⟩
 ·rw[Qk (by rw[Jh];exact z)]
  have lt:=d (by omega)
  by_cases y:n > 1
  ·rw[Qj y]
   show ∃ m p',kev (ltr r) (if decide (r (p0.getD 0 0)<r (p0.getD (n-1) 0))=true then KasT.ret (n,p0)else kas_descPart n p0.size (kas_rev p0 0 n))=(m,p')/\_
   by_cases x:xv r p0 0<xv r p0 (n-1)
   ·rw[Qj (Qs x)]
    exact⟨n,p0,rfl,VA _,a,by omega,c⟩
   ·rw[Qk (by rw[ZU];exact x)]
    have same:∀ k,0<=k->k<n->xv r p0 k=xv r p0 (n-1):=fun k _ hk=>by
     have l1:=y9h c 0 k (Zb _) hk
     have l2:=y9h c k (n-1) (by omega) (by omega)
     omega
    have ex:∀ k,xv r (kas_rev p0 0 n) k=xv r p0 k:=fun k=>y20 (by omega) same k
    refine y9b ⟨x45 _ _ _,by omega,by omega,fun k q1 q2=>?_,fun k q1 q2=>by rw[show k=n+1-1 by omega]⟩ rfl
    rw[ex,ex]
    by_cases w:k=n
    ·subst w;omega
    ·rw[same k (Zb _) (by omega),same (k-1) (Zb _) (by omega)]
     exact JU _
  ·rw[Qk y]
   have n1:n=1:=by omega
   subst n1
   refine y9b ⟨VA _,by omega,by omega,fun k q1 q2=>?_,fun k q1 q2=>by rw[show k=1+1-1 by omega]⟩ rfl
   rw[show k=1 by omega]
   omega
variable {r:Nat->Int}
theorem x7l{k:Nat}(up:∀ j,1<=j->j<k->xv r p (j-1)<=xv r p j):∀ (f l u:Nat),u-l<=f->l<=u->u<=k->(∀ i,i<l->xv r p i<=xv r p k)->(∀ i,u<=i->i<k->xv r p k<xv r p i)->
  kev (ltr r) (kas_place p k f l u)<=k/\(∀ i,i<kev (ltr r) (kas_place p k f l u)->xv r p i<=xv r p k)/\(∀ i,kev (ltr r) (kas_place p k f l u)<=i->i<k->xv r p k<xv r p i)
 | 0,l,u,hf,hl,hu,h1,h2=>⟨by show l<=k;omega,h1,fun i a b=>h2 i (by have:l<=i:=a;omega) b⟩
 | f+1,l,u,hf,hl,hu,h1,h2=>by
  have e:kev (ltr r) (kas_place p k (f+1) l u)=if l ≥ u then l else if xv r p k<xv r p ((l+u) / 2)then kev (ltr r) (kas_place p k f l ((l+u) / 2))else kev (ltr r) (kas_place p k f ((l+u) / 2+1) u):=by
   show kev (ltr r) (if l ≥ u then KasT.ret l else KasT.ask (p.getD k 0) (p.getD ((l+u) / 2) 0) fun c=>if c=true then kas_place p k f l ((l+u) / 2)else kas_place p k f ((l+u) / 2+1) u)=_
   by_cases c:l ≥ u
   ·rw[Qj c,Qj c];rfl
   ·rw[Qk c,Qk c]
    show kev (ltr r) (if decide (r (p.getD k 0)<r (p.getD ((l+u) / 2) 0))=true then kas_place p k f l ((l+u) / 2)else kas_place p k f ((l+u) / 2+1) u)=_
    by_cases d:xv r p k<xv r p ((l+u) / 2)
    ·rw[Qj d,Qj (Qs d)]
    ·rw[Qk d,Qk (by rw[ZU];exact d)]
  rw[e]
  by_cases c:l ≥ u
  ·rw[Qj c]
   exact⟨by omega,h1,fun i a b=>h2 i (by omega) b⟩
  ·rw[Qk c]
   by_cases d:xv r p k<xv r p ((l+u) / 2)
   ·rw[Qj d]
    refine x7l up f l _ (by omega) (by omega) (by omega) h1 fun i a b=>?_
    exact Int.lt_of_lt_of_le d (y9h up _ i a b)
   ·rw[Qk d]
    refine x7l up f _ u (by omega) (by omega) hu (fun i a=>?_) h2
    have:=y9h up i ((l+u) / 2) (by omega) (by omega)
    omega
theorem j0q{k d:Nat}(hk:k<p.size)(hd:d<=k)(j:Nat):xv r (bubble p k d) j=if j=k-d then xv r p k else if k-d<j/\j<=k then xv r p (j-1)else xv r p j:=by
 show r ((bubble p k d).getD j 0)=_
 rw[Qz,getElem?_bubble hk d hd j]
 split
 ·rw[<- Qz]
 ·split
  ·rw[<- Qz]
  ·rw[<- Qz]
theorem z4h:∀ (f:Nat) (p:Array Nat) (k:Nat),Up r p0 p k->k+f=p0.size->Up r p0 (kev (ltr r) (kas_bin f p k)) p0.size
 | 0,p,k,h,hk=>by
  have:k=p0.size:=by omega
  subst this
  exact h
 | f+1,p,k,h,hk=>by
  have sz:p.size=p0.size:=h.pm.size_eq
  have h1:=h.n1
  have hk':k<p.size:=by omega
  obtain⟨a,b,c⟩:=x7l (r:=r) (p:=p) (k:=k) h.up k 0 k (by omega) (Zb _) (Qi _) (fun _ z=>absurd z (Zf _)) (fun i a b=>by omega)
  have e:kev (ltr r) (kas_bin (f+1) p k)=kev (ltr r) (kas_bin f (bubble p k (k-kev (ltr r) (kas_place p k k 0 k))) (k+1)):=x3k _ _ _
  rw[e]
  generalize kev (ltr r) (kas_place p k k 0 k)=l at *
  refine z4h f _ (k+1) ⟨(bubble_perm _ _ _).trans h.pm,by omega,by omega,fun j q1 q2=>?_⟩ (by omega)
  have x:∀ j,xv r (bubble p k (k-l)) j=if j=l then xv r p k else if l<j/\j<=k then xv r p (j-1)else xv r p j:=fun j=>by
   rw[j0q hk' (by omega),show k-(k-l)=l by omega]
  rw[x,x]
  by_cases z:j=l
  ·subst z
   rw[Qk (by omega),Qk (by omega),Qj rfl]
   exact b (j-1) (by omega)
  ·rw[Qk z]
   by_cases y:j-1=l
   ·rw[Qj y,Qj ⟨by omega,by omega⟩]
    rw[y]
    exact Int.le_of_lt (c l (Qi _) (by omega))
   ·rw[Qk y]
    by_cases w:l<j
    ·rw[Qj ⟨by omega,by omega⟩,Qj ⟨w,by omega⟩]
     exact h.up (j-1) (by omega) (by omega)
    ·rw[Qk (by omega),Qk (by omega)]
     exact h.up j q1 (by omega)
theorem z5e(hn:1<=n):(kev (ltr r) (kas_sort n)).Perm (List.toArray (List.range n))/\∀ i j,i<=j->j<n->xv r (kev (ltr r) (kas_sort n)) i<=xv r (kev (ltr r) (kas_sort n)) j:=by
 have s0:(List.toArray (List.range n)).size=n:=by rw[Qn,QJ]
 obtain⟨m,p,e,h⟩:=z1d (r:=r) (p0:=List.toArray (List.range n)) (by omega)
 rw[s0]at e
 have e2:kev (ltr r) (kas_sort n)=kev (ltr r) (if m<n then kas_bin (n-max m 1) p (max m 1)else KasT.ret p):=by
  unfold kas_sort
  rw[x3k,e]
 have h1:=h.n1
 have hl:=h.le
 rw[s0]at hl
 have up:Up r (List.toArray (List.range n)) (kev (ltr r) (kas_sort n)) (List.toArray (List.range n)).size:=by
  rw[e2]
  by_cases c:m<n
  ·rw[Qj c,show max m 1=m by omega]
   exact z4h _ _ _ h (by omega)
  ·rw[Qk c]
   have:m=(List.toArray (List.range n)).size:=by omega
   rw[<- this]
   exact h
 refine⟨up.pm,fun i j a b=>y9h up.up i j a (by rw[s0];exact b)⟩
def okp {α:Type}(lt:Nat->Nat->Bool)(n:Nat):KasT α->Prop
 | .ret _=>True
 | .ask i j k=>i<n/\j<n/\okp lt n (k (lt i j))
theorem x5r{α β:Type}{lt:Nat->Nat->Bool}{f:α->KasT β}:∀ {t:KasT α},okp lt n t->okp lt n (f (kev lt t))->okp lt n (t.bind f)
 | .ret _,_,h=>h
 | .ask _ _ _,h,h'=>⟨h.1,h.2.1,x5r h.2.2 h'⟩
def Vp (n:Nat)(p:Array Nat):Prop:=∀ k,p.getD k 0<n
theorem Vp.pm{q:Array Nat}(h:Vp n q)(h0:0<n)(e:p.Perm q):Vp n p:=fun k=>by
 by_cases c:k<p.size
 ·have m:p[k]∈q:=e.mem_iff.mp (Y0 c)
  obtain⟨j,hj,q'⟩:=VP m
  have:p.getD k 0=p[k]:=by unfold Array.getD;rw[VQ c];rfl
  rw[this,<- q']
  have:=h j
  unfold Array.getD at this
  rw[VQ hj]at this
  exact this
 ·unfold Array.getD
  rw[dif_neg c]
  exact h0
variable {lt:Nat->Nat->Bool}{n:Nat}
theorem y56(v:Vp n p):∀ f m,okp lt n (kas_asc p f m)
 | 0,_=>trivial
 | f+1,m=>⟨v _,v _,by
  show okp lt n (if lt (p.getD m 0) (p.getD (m-1) 0)=true then KasT.ret m else kas_asc p f (m+1))
  split
  ·trivial
  ·exact y56 v f (m+1)⟩
theorem x93(h0:0<n):∀ (f:Nat) (p:Array Nat) (m q:Nat),Vp n p->okp lt n (kas_desc f p m q)/\Vp n (kev lt (kas_desc f p m q)).1
 | 0,_,_,_,v=>⟨trivial,v⟩
 | f+1,p,m,q,v=>by
  have vr:∀ i j,Vp n (kas_rev p i j):=fun i j=>v.pm h0 (x45 _ _ _)
  have key:okp lt n (if lt (p.getD m 0) (p.getD (m-1) 0)=true then(if q > 0 then kas_desc f (kas_rev p (m-(q+1)) m) (m+1) 0 else kas_desc f p (m+1) 0)else KasT.ask (p.getD (m-1) 0) (p.getD m 0) fun d=>if d=true then KasT.ret (p,m,q)else kas_desc f p (m+1) (q+1)) /\
    Vp n (kev lt (if lt (p.getD m 0) (p.getD (m-1) 0)=true then(if q > 0 then kas_desc f (kas_rev p (m-(q+1)) m) (m+1) 0 else kas_desc f p (m+1) 0)else KasT.ask (p.getD (m-1) 0) (p.getD m 0) fun d=>if d=true then KasT.ret (p,m,q)else kas_desc f p (m+1) (q+1))).1:=by
   split
   ·split
    ·exact x93 h0 f _ _ _ (vr _ _)
    ·exact x93 h0 f _ _ _ v
   ·have k2:okp lt n (if lt (p.getD (m-1) 0) (p.getD m 0)=true then KasT.ret (p,m,q)else kas_desc f p (m+1) (q+1))/\Vp n (kev lt (if lt (p.getD (m-1) 0) (p.getD m 0)=true then KasT.ret (p,m,q)else kas_desc f p (m+1) (q+1))).1:=by
     split
     ·exact⟨trivial,v⟩
     ·exact x93 h0 f _ _ _ v
    exact⟨⟨v _,v _,k2.1⟩,k2.2⟩
  exact⟨⟨v _,v _,key.1⟩,key.2⟩
theorem y68(h0:0<n)(v:Vp n p)(m nrem:Nat):okp lt n (kas_tail3 m nrem p)/\Vp n (kev lt (kas_tail3 m nrem p)).2:=by
 have vr:Vp n (kas_rev p 0 m):=v.pm h0 (x45 _ _ _)
 unfold kas_tail3
 exact⟨x5r (y56 vr _ _) trivial,by rw[x3k];exact vr⟩
theorem y5d(h0:0<n)(v:Vp n p)(m nrem:Nat):okp lt n (kas_descPart m nrem p)/\Vp n (kev lt (kas_descPart m nrem p)).2:=by
 unfold kas_descPart
 obtain⟨a,b⟩:=x93 (lt:=lt) h0 (nrem-(m+1)) p (m+1) 0 v
 have key:okp lt n (if(kev lt (kas_desc (nrem-(m+1)) p (m+1) 0)).2.2 > 0 then kas_tail3 (kev lt (kas_desc (nrem-(m+1)) p (m+1) 0)).2.1 nrem (kas_rev (kev lt (kas_desc (nrem-(m+1)) p (m+1) 0)).1 ((kev lt (kas_desc (nrem-(m+1)) p (m+1) 0)).2.1-((kev lt (kas_desc (nrem-(m+1)) p (m+1) 0)).2.2+1)) (kev lt (kas_desc (nrem-(m+1)) p (m+1) 0)).2.1)else kas_tail3 (kev lt (kas_desc (nrem-(m+1)) p (m+1) 0)).2.1 nrem (kev lt (kas_desc (nrem-(m+1)) p (m+1) 0)).1)/\Vp n (kev lt (if(kev lt (kas_desc (nrem-(m+1)) p (m+1) 0)).2.2 > 0 then kas_tail3 (kev lt (kas_desc (nrem-(m+1)) p (m+1) 0)).2.1 nrem (kas_rev (kev lt (kas_desc (nrem-(m+1)) p (m+1) 0)).1 ((kev lt (kas_desc (nrem-(m+1)) p (m+1) 0)).2.1-((kev lt (kas_desc (nrem-(m+1)) p (m+1) 0)).2.2+1)) (kev lt (kas_desc (nrem-(m+1)) p (m+1) 0)).2.1)else kas_tail3 (kev lt (kas_desc (nrem-(m+1)) p (m+1) 0)).2.1 nrem (kev lt (kas_desc (nrem-(m+1)) p (m+1) 0)).1)).2:=by
  split
  ·exact y68 h0 (b.pm h0 (x45 _ _ _)) _ _
  ·exact y68 h0 b _ _
 exact⟨x5r a key.1,by rw[x3k];exact key.2⟩
theorem y9u(h0:0<n)(v:Vp n p)(nrem:Nat):okp lt n (kas_count nrem p)/\Vp n (kev lt (kas_count nrem p)).2:=by
 unfold kas_count
 have a:=y56 (lt:=lt) v (nrem-1) 1
 generalize kas_asc p (nrem-1) 1=t at *
 generalize hm:kev lt t=m
 have vr:Vp n (kas_rev p 0 m):=v.pm h0 (x45 _ _ _)
 have key:okp lt n (if(m==nrem)=true then KasT.ret (m,p)else if m > 1 then KasT.ask (p.getD 0 0) (p.getD (m-1) 0) fun c=>if c=true then KasT.ret (m,p)else kas_descPart m nrem (kas_rev p 0 m)else kas_descPart m nrem p)/\Vp n (kev lt (if(m==nrem)=true then KasT.ret (m,p)else if m > 1 then KasT.ask (p.getD 0 0) (p.getD (m-1) 0) fun c=>if c=true then KasT.ret (m,p)else kas_descPart m nrem (kas_rev p 0 m)else kas_descPart m nrem p)).2:=by
  split
  ·exact⟨trivial,v⟩
  ·split
   ·have k2:okp lt n (if lt (p.getD 0 0) (p.getD (m-1) 0)=true then KasT.ret (m,p)else kas_descPart m nrem (kas_rev p 0 m))/\Vp n (kev lt (if lt (p.getD 0 0) (p.getD (m-1) 0)=true then KasT.ret (m,p)else kas_descPart m nrem (kas_rev p 0 m))).2:=by
     split
     ·exact⟨trivial,v⟩
     ·exact y5d h0 vr _ _
    exact⟨⟨v _,v _,k2.1⟩,k2.2⟩
   ·exact y5d h0 v _ _
 rw[<- hm]at key
 exact⟨x5r a key.1,by rw[x3k];exact key.2⟩
theorem x9i(v:Vp n p)(k:Nat):∀ f l u,okp lt n (kas_place p k f l u)
 | 0,_,_=>trivial
 | f+1,l,u=>by
  show okp lt n (if l ≥ u then KasT.ret l else KasT.ask (p.getD k 0) (p.getD ((l+u) / 2) 0) fun c=>if c=true then kas_place p k f l ((l+u) / 2)else kas_place p k f ((l+u) / 2+1) u)
  split
  ·trivial
  ·refine⟨v _,v _,?_⟩
   show okp lt n (if lt (p.getD k 0) (p.getD ((l+u) / 2) 0)=true then kas_place p k f l ((l+u) / 2)else kas_place p k f ((l+u) / 2+1) u)
   split
   ·exact x9i v k f _ _
   ·exact x9i v k f _ _
theorem z0s(h0:0<n):∀ (f:Nat) (p:Array Nat) (k:Nat),Vp n p->okp lt n (kas_bin f p k)
 | 0,_,_,_=>trivial
 | f+1,p,k,v=>x5r (x9i v k k 0 k) (z0s h0 f _ _ (v.pm h0 (bubble_perm _ _ _)))
theorem z3o(h0:0<n):okp lt n (kas_sort n):=by
 have v:Vp n (List.toArray (List.range n)):=fun k=>by
  rw[Qz,Z3]
  by_cases c:k<n
  ·rw[Zk c];exact c
  ·rw[QF (by rw[QJ];omega)];exact h0
 unfold kas_sort
 obtain⟨a,b⟩:=y9u (lt:=lt) h0 v n
 refine x5r a ?_
 split
 ·exact z0s h0 _ _ _ b
 ·trivial
theorem y8w{α:Type}{cmp:Nat->Nat->(Bool->Shared->Prop)->Shared->Prop}{s:Shared}{Q:α->Shared->Prop}(h:∀ i j C,i<n->j<n->C (lt i j) s->cmp i j C s):∀ {t:KasT α},okp lt n t->Q (kev lt t) s->t.kasWp cmp Q s
 | .ret _,_,q=>q
 | .ask i j k,o,q=>h i j _ o.1 o.2.1 (y8w h o.2.2 q)
abbrev prI (x:Nat×Nat):List Int:=[Int.ofNat x.1,Int.ofNat x.2]
abbrev rk (x:Nat×Nat):Int:=Int.ofNat (x.1*1000+x.2)
section
variable {prog:Program}{w:World}{A:Around}{E:Value->Shared->Prop}{s:Shared}
theorem y8s(b:Bool){x y:Int}{t u:Tok}(h:Q (decide (x<y)) s):wpAny (model prog w) A (oneLt' b (.int x t) (.int y u)) Q E s:=by
 cases b with
 | true=>exact oneLt_int h
 | false=>exact kat_one _ _ (PySem.P.lt_int h)
theorem y4o(k:IsTupleKey (intKind prog w) h (prI x) a):∃ o n t u,h.get? a=some o/\o.cls=.type "tuple" /\ o.data=.seq #[.int (Int.ofNat x.1) t,.int (Int.ofNat x.2) u] n:=by
 obtain⟨o,items,n,ho,hc,hd,hi⟩:=k
 cases hi':items.toList with
 | nil=>rw[hi']at hi;cases hi
 | cons v l=>
  rw[hi']at hi
  cases hi with
  | cons h1 r=>
   cases r with
   | cons h2 r2=>
    cases r2
    obtain⟨t,rfl⟩:=JW h1
    obtain⟨u,rfl⟩:=JW h2
    refine⟨o,n,t,u,ho,hc,?_⟩
    rw[hd]
    congr 1
    apply Array.ext'
    rw[hi']
theorem z5b{y:Nat×Nat}{b:Addr}{f:Bool}(ka:IsTupleKey (intKind prog w) s.heap (prI x) a)(kb:IsTupleKey (intKind prog w) s.heap (prI y) b)(hx:x.2<1000)(hy:y.2<1000)(h:Q (decide (rk x<rk y)) s) :
  wpAny (model prog w) A (keyLt' (tuples' f) (.ref a) (.ref b)) Q E s:=by
 obtain⟨o,n,t,u,ho,_,hd⟩:=y4o ka
 obtain⟨o',n',t',u',ho',_,hd'⟩:=y4o kb
 have e:decide (rk x<rk y)=if Int.ofNat x.1=Int.ofNat y.1 then(if Int.ofNat x.2=Int.ofNat y.2 then false else decide (Int.ofNat x.2<Int.ofNat y.2))else decide (Int.ofNat x.1<Int.ofNat y.1):=by
  have i1:rk x<rk y ↔ x.1*1000+x.2<y.1*1000+y.2:=by show((_:Nat):Int)<((_:Nat):Int) ↔ _;omega
  have i2:Int.ofNat x.1=Int.ofNat y.1 ↔ x.1=y.1:=⟨fun z=>by injection z,fun z=>by rw[z]⟩
  have i3:Int.ofNat x.2=Int.ofNat y.2 ↔ x.2=y.2:=⟨fun z=>by injection z,fun z=>by rw[z]⟩
  have i4:Int.ofNat x.1<Int.ofNat y.1 ↔ x.1<y.1:=by show((_:Nat):Int)<((_:Nat):Int) ↔ _;omega
  have i5:Int.ofNat x.2<Int.ofNat y.2 ↔ x.2<y.2:=by show((_:Nat):Int)<((_:Nat):Int) ↔ _;omega
  simp only[i1,i2,i3,i4,i5]
  by_cases c:x.1=y.1
  ·rw[Qj c]
   by_cases d:x.2=y.2
   ·rw[Qj d];exact QK (by omega)
   ·rw[Qk d];exact JE.mpr (by omega)
  ·rw[Qk c];exact JE.mpr (by omega)
 refine kat_lt ho hd ho' hd' (kat_cons (Ve ?_))
 by_cases c:Int.ofNat x.1=Int.ofNat y.1
 ·rw[Qj c]at e
  rw[Jh.mpr c]
  refine kat_yes (kat_cons (Ve ?_))
  by_cases d:Int.ofNat x.2=Int.ofNat y.2
  ·rw[Qj d]at e
   rw[Jh.mpr d]
   refine kat_yes (kat_nil ?_)
   rw[e]at h
   exact h
  ·rw[Qk d]at e
   rw[ZX.mpr d]
   rw[e]at h
   exact kat_no (y8s _ h)
 ·rw[Qk c]at e
  rw[ZX.mpr c]
  rw[e]at h
  exact kat_no (y8s _ h)
def x4d (prog:Program)(w:World)(h:Heap)(vs:List Value)(ks:List (Nat×Nat)):Prop:=vs.length=ks.length/\∀ (i:Nat) (x:Nat×Nat),ks[i]? = some x->∃ a,vs[i]? = some (.ref a)/\IsTupleKey (intKind prog w) h (prI x) a
theorem x4d.keep{h':Heap}(P:x4d prog w h vs ks)(q:∀ b o,h.get? b=some o->o.cls=.type "tuple"->h'.get? b=some o):x4d prog w h' vs ks:=⟨P.1,fun i x e=>by
 obtain⟨a,e1,o,items,n,ho,hc,hd,hi⟩:=P.2 i x e
 exact⟨a,e1,o,items,n,q a o ho hc,hc,hd,hi⟩⟩
theorem x4d.firsts:∀ {h:Heap} {vs:List Value} {ks:List (Nat×Nat)},x4d prog w h vs ks->∃ fs:List Value,KatTups h vs fs/\fs.length=ks.length/\∀ v∈fs,∃ i t,v=.int i t
 | h,[],[],_=>⟨[],.nil,rfl,fun v hv=>(Qg hv).elim⟩
 | h,[],_::_,P=>nomatch P.1
 | h,_::_,[],P=>nomatch P.1
 | h,v::vs,x::ks,P=>by
  obtain⟨fs,t1,t2,t3⟩:=x4d.firsts (vs:=vs) (ks:=ks) (h:=h) ⟨by simpa using P.1,fun i y e=>P.2 (i+1) y (by rw[Zs];exact e)⟩
  obtain⟨a,e,k⟩:=P.2 0 x rfl
  have ev:v=.ref a:=by simpa using e
  subst ev
  obtain⟨o,n,t,u,ho,hc,hd⟩:=y4o k
  refine⟨.int (Int.ofNat x.1) t::fs,.cons ho hc hd rfl t1,by rw[QH,QH,t2],fun v hv=>?_⟩
  rcases Qq.mp hv with rfl|hv
  ·exact⟨_,_,rfl⟩
  ·exact t3 v hv
theorem y8f{κb:Bool}{G:Array Nat->Shared->Prop}(P:x4d prog w s.heap vs ks)(hb:∀ x∈ks,x.2<1000)(h1:1<=vs.length)
  (hG:∀ p:Array Nat,p.Perm (List.toArray (List.range vs.length))->(∀ i j,i<=j->j<vs.length->rk (ks.getD (p.getD i 0) (0,0))<=rk (ks.getD (p.getD j 0) (0,0)))->G p s) :
  (kas_sort vs.length).kasWp (kas_ask prog w A (tuples' κb) vs) G s:=by
 have so:=z5e (r:=fun i=>rk (ks.getD i (0,0))) h1
 refine y8w (lt:=ltr fun i=>rk (ks.getD i (0,0))) (n:=vs.length) (fun i j C hi hj hC=>?_) (z3o h1) (hG _ so.1 so.2)
 have gi:ks[i]? = some (ks.getD i (0,0)):=by rw[Qh,Qa (by rw[<- P.1];exact hi)];rfl
 have gj:ks[j]? = some (ks.getD j (0,0)):=by rw[Qh,Qa (by rw[<- P.1];exact hj)];rfl
 obtain⟨a,e1,k1⟩:=P.2 i _ gi
 obtain⟨b,e2,k2⟩:=P.2 j _ gj
 unfold kas_ask
 rw[Qh,Qh,e1,e2]
 exact z5b k1 k2 (hb _ (Qy gi)) (hb _ (Qy gj)) hC
theorem z5h(P:x4d prog w h vs ks)(pm:p.Perm (List.toArray (List.range vs.length))):x4d prog w h (p.toList.map fun i=>vs.getD i Value.none) (p.toList.map fun i=>ks.getD i (0,0))/\(p.toList.map fun i=>ks.getD i (0,0)).Perm ks:=by
 have pl:p.toList.Perm (List.range vs.length):=by
  have:=YQ.mp pm
  exact this
 refine⟨⟨by rw[Qc,Qc],fun i x e=>?_⟩,?_⟩
 ·rw[Ql,Qu]at e
  obtain⟨k,q1,q2⟩:=e
  have hk:k<vs.length:=QA.mp (pl.mem_iff.mp (Qy q1))
  have gk:ks[k]? = some x:=by rw[<- q2,Qh,Qa (by rw[<- P.1];exact hk)];rfl
  obtain⟨a,e1,k1⟩:=P.2 k x gk
  refine⟨a,?_,k1⟩
  rw[Ql,q1]
  show some (vs.getD k Value.none)=_
  rw[Qh,e1]
  rfl
 ·have h1:=pl.map fun i=>ks.getD i (0,0)
  have h2:(List.range vs.length).map (fun k=>ks.getD k (0,0))=ks:=by
   rw[P.1]
   apply Zx
   intro i
   by_cases hi:i<ks.length
   ·rw[Ql,Zk hi,Qa hi]
    show some (ks.getD i (0,0))=_
    rw[Qh,Qa hi]
    rfl
   ·rw[QF (by rw[Qc,QJ];omega),QF (by omega)]
  rw[h2]at h1
  exact h1
theorem y1t{n:Nat}{P:PySem.Fin->Shared->Prop}(ho:s.heap.get? a=some (seqObj "list" vs.toArray n))(T:x4d prog w s.heap vs ks)(hb:∀ x∈ks,x.2<1000)(h64:vs.length<64)
  (h:∀ (out:List Value) (ks':List (Nat×Nat)),x4d prog w s.heap out ks'->(∀ v∈out,v∈vs)->ks'.Perm ks->(∀ i j,i<=j->j<ks'.length->rk (ks'.getD i (0,0))<=rk (ks'.getD j (0,0)))->P (.done (.ret .none)) { s with heap:=sortedHeap s.heap a vs out.toArray }) :
  wpAny (model prog w) A (Builtin.«list.sort» ⟨[.ref a],[]⟩) P E s:=by
 have al:=Qm ho
 have v64:vs.toArray.size=vs.length:=Qn ..
 rw[list_sort_plain]
 refine wpAny_bind (listItems_at ho rfl (wpAny_bind (listUpdate_at ho rfl ?s1 (by rw[v64,Jb];omega) (Zb _))))
 case s1=>
 obtain⟨e1,g1⟩:∃ e1,(s.heap.update a (Obj.mapSeq fun _=>(#[]:Array Value))).get? a=some (seqObj "list" #[] e1):=⟨_,Z9 ho fun _=>#[]⟩
 refine wpAny_bind (seqEpoch_at g1 rfl (wpAny_bind (wpAny_newTuple (wpAny_bind (Vc (Za ?s2) (Zb _))) (by show vs.length<=_;rw[Jb];omega))))
 case s2=>
 show wpAny (model prog w) A _ P E { s with heap:=((s.heap.update a (Obj.mapSeq fun _=>(#[]:Array Value))).push (seqObj "tuple" vs.toArray 0)).push (seqObj "list" #[] 0) }
 have g2:(((s.heap.update a (Obj.mapSeq fun _=>(#[]:Array Value))).push (seqObj "tuple" vs.toArray 0)).push (seqObj "list" #[] 0)).get? a=some (seqObj "list" #[] e1):=Qb _ (Qb _ g1)
 have T2:x4d prog w (((s.heap.update a (Obj.mapSeq fun _=>(#[]:Array Value))).push (seqObj "tuple" vs.toArray 0)).push (seqObj "list" #[] 0)) vs ks:=T.keep fun b o q c=>by
  have ne:b≠a:=fun z=>by
   rw[z,ho]at q
   cases q
   have c':Value.type "list" = Value.type "tuple":=c
   injection c' with c''
   exact absurd c'' (by decide)
  exact Qb _ (Qb _ ((ZF _ _ (Zi ne)).trans q))
 generalize hh:((s.heap.update a (Obj.mapSeq fun _=>(#[]:Array Value))).push (seqObj "tuple" vs.toArray 0)).push (seqObj "list" #[] 0)=h2 at *
 have fin:∀ out:List Value,{ s with heap:=h2.update a (Obj.mapSeq fun _=>out.toArray) }={ s with heap:=sortedHeap s.heap a vs out.toArray }:=fun out=>by rw[<- hh];rfl
 dsimp only
 by_cases c2:vs.toArray.size<2
 ·rw[Qj c2,Qj c2]
  refine wpAny_bind (Qd ?_)
  rw[StateT.run_pure]
  refine wpAny_bind (Qd ?_)
  dsimp only
  have o1:(arrOf (SortSt.mk' general' (vs.toArray.zip vs.toArray) #[] 7 none)).map (·.2)=vs.toArray:=by
   show(vs.toArray.zip vs.toArray).map (·.2)=vs.toArray
   apply Array.ext'
   rw[Array.toList_map,Array.toList_zip]
   exact List.map_snd_zip (Qi _)
  rw[o1]
  refine wpAny_bind (seqEpoch_at (s:={ s with heap:=h2 }) g2 rfl (wpAny_bind (listUpdate_at (s:={ s with heap:=h2 }) g2 rfl ?t1 (Zb _) (by rw[v64,Jb];omega))))
  case t1=>
  simp only[J7,Qt,Zn]
  refine Qd ?_
  have r:=h vs ks T (fun _ z=>z) (YR _) fun i j a b=>by
   have:i=j:=by rw[<- T.1]at b;omega
   rw[this]
   exact JU _
  rw[<- fin]at r
  exact r
 ·rw[Qk c2,Qk c2]
  have v1:2<=vs.length:=by omega
  obtain⟨fs,t1,t2,t3⟩:=T2.firsts
  refine wpAny_bind (kat_kind (s:={ s with heap:=h2 }) (T:=.type "int") t1 (by rw[t2,<- T.1];omega) (fun v hv=>?k1) (by decide) ?k2)
  case k1=>
   obtain⟨i,t,rfl⟩:=t3 v hv
   exact .now
  case k2=>
  refine wpAny_bind (ZE (kat_run (s:={ s with heap:=h2 }) (Q:=fun st' s'=>s'={ s with heap:=h2 }/\∃ p:Array Nat,p.size=vs.length/\arrOf st'=p.map (kas_item (vs.toArray.zip vs.toArray))/\failedOf st'=none/\p.Perm (List.toArray (List.range vs.length))/\∀ i j,i<=j->j<vs.length->rk (ks.getD (p.getD i 0) (0,0))<=rk (ks.getD (p.getD j 0) (0,0)))
   (G:=fun p s'=>s'={ s with heap:=h2 }/\p.Perm (List.toArray (List.range vs.length))/\∀ i j,i<=j->j<vs.length->rk (ks.getD (p.getD i 0) (0,0))<=rk (ks.getD (p.getD j 0) (0,0)))
   rfl v1 h64 (fun p st' s' a1 a2 a3 a4=>⟨a4.1,p,a1,a2,a3,a4.2.1,a4.2.2⟩) (y8f T2 hb (by omega) fun p a1 a2=>⟨rfl,a1,a2⟩)) ?k3 fun _ _ e=>e)
  case k3=>
  rintro ⟨⟨⟩,st'⟩ s' ⟨rfl,p,ps,ar,hf,pm,so⟩
  dsimp only
  have o1:=kat_snds rfl ar
  rw[o1]
  have ol:(p.toList.map fun i=>vs.getD i Value.none).length=vs.length:=by rw[Qc,QI,ps]
  refine wpAny_bind (seqEpoch_at (s:={ s with heap:=h2 }) g2 rfl (wpAny_bind (listUpdate_at (s:={ s with heap:=h2 }) g2 rfl ?t2 (Zb _) (by rw[Qn,ol,Jb];omega))))
  case t2=>
  rw[hf]
  simp only[J7,Qt,Zn]
  refine Qd ?_
  obtain⟨q1,q2⟩:=z5h T pm
  have r:=h _ _ q1 (fun v hv=>by
   obtain⟨k,hk,rfl⟩:=Qp.mp hv
   have hk':k<vs.length:=QA.mp ((YQ.mp pm).mem_iff.mp hk)
   rw[Qh,Qa hk']
   exact Zc hk') q2 fun i j a b=>by
   rw[Qc,QI,ps]at b
   have g:∀ i,i<vs.length->(p.toList.map fun k=>ks.getD k (0,0)).getD i (0,0)=ks.getD (p.getD i 0) (0,0):=fun i hi=>by
    rw[Qh,Ql,Qa (by rw[QI,ps];exact hi),Qz,Zh (by rw[ps];exact hi)]
    rfl
   rw[g i (by omega),g j b]
   exact so i j a b
  rw[<- fin]at r
  exact r
end
end L3
namespace L3
open PySem PySem.Spec PyProof.Rows PySem.W L2
variable {F:List Addr}{H:Hp}{K:PySem.W.Frag}{Q:Option Value->Shared->Prop}{a:Addr}{d:D}{ds:List D}{ep i q:Nat}{es:Array (Int×Value)}{h:Heap}{kl:List (List Int)}{kp ks ks':List (Nat×Nat)}{o o':Ow}{u v:V}{vs:List V}{w w':Wn}{x y:Nat×Nat}{z:HO}{σ:St}
section
variable {prog:Program}{w:World}{A:Around}{E:Value->Shared->Prop}{s:Shared}
theorem z39{t:SetTable}{bs:List Addr}{vs:List Value}(S:y7p prog w h es t kl bs)(ek:kl=kp.map prI)(hl:vs.length=es.size)
  (hv:∀ (j:Nat) (v:Value),vs[j]? = some v->∃ e,(wkT w a es ep)[j]? = some e/\v=e.2):∃ ks:List (Nat×Nat),x4d prog w h vs ks/\ks.Perm kp/\∀ v∈vs,∃ b∈bs,v=.ref b:=by
 have e:vs=(wkT w a es ep).toList.map (·.2):=by
  apply Zx
  intro j
  have et:(wkT w a es ep).toList[j]? = (wkT w a es ep)[j]?:=Zg
  rw[Ql,et]
  rcases Nat.lt_or_ge j vs.length with l|l
  ·obtain⟨x,h1,h2⟩:=hv j _ (Qa l)
   rw[h1,Qa l,h2]
   rfl
  ·rw[QF l,Ju (by rw[x8z];omega)]
   rfl
 have pm:(wkT w a es ep).toList.Perm ((kp.zip bs).map fun x=>(tupleKeyHash (intKind prog w) (prI x.1),Value.ref x.2)):=by
  refine(y5p w a es ep).trans ?_
  rw[S.es,ek]
  have:∀ (l:List (Nat×Nat)) (m:List Addr),((l.map prI).zip m).map (fun x=>(tupleKeyHash (intKind prog w) x.1,Value.ref x.2))=(l.zip m).map fun x=>(tupleKeyHash (intKind prog w) (prI x.1),Value.ref x.2):=by
   intro l
   induction l with
   | nil=>intro m;rfl
   | cons x l ih=>
    intro m
    cases m with
    | nil=>rfl
    | cons b m=>rw[Qx,JQ,Qx,ih m];rfl
  rw[this]
 obtain⟨zs,zp,ze⟩:=z3l (f:=fun x:(Nat×Nat)×Addr=>(tupleKeyHash (intKind prog w) (prI x.1),Value.ref x.2)) pm rfl
 have len:kp.length=bs.length:=by rw[<- S.len,ek,Qc]
 refine⟨zs.map (·.1),⟨by rw[e,ze,Qc,Qc,Qc],fun i x q=>?_⟩,?_⟩
 ·rw[Ql,Qu]at q
  obtain⟨y,q1,rfl⟩:=q
  refine⟨y.2,?_,?_⟩
  ·rw[e,ze,Ql,Ql,q1]
   rfl
  ·obtain⟨i',hi',qi⟩:=Q8 (zp.mem_iff.mp (Qy q1))
   have q2:(kp.zip bs)[i']? = some y:=by rw[Qa hi',qi]
   rw[List.zip,Yf]at q2
   cases k1:kp[i']? with
   | none=>rw[k1]at q2;cases q2
   | some u=>
    cases k2:bs[i']? with
    | none=>rw[k1,k2]at q2;cases q2
    | some v=>
     rw[k1,k2]at q2
     cases q2
     exact S.is i' (prI u) v (by rw[ek,Ql,k1];rfl) k2
 ·refine⟨(zp.map (·.1)).trans ?_,fun v hv=>?_⟩
  ·rw[List.map_fst_zip (by omega)]
  ·rw[e,ze]at hv
   obtain⟨y,hy,rfl⟩:=Qp.mp hv
   obtain⟨x,hx,rfl⟩:=Qp.mp hy
   exact⟨x.2,(Yq (zp.mem_iff.mp hx)).2,rfl⟩
theorem z5l{t:SetTable}{bs:List Addr}{Q:Value->Shared->Prop}(hh:A.handled=none)(ho:s.heap.get? a=some (soT es ep t))(So:SoT prog w s.heap (soT es ep t) ep (!byT w) kl es t bs)(ek:kl=kp.map prI)(hb:∀ x∈kp,x.2<1000)(few:kp.length<64)
  (h:∀ (h1:Heap) (h':Heap) (tk:Nat) (us:List Value) (ks:List (Nat×Nat)) (c:Nat),(∀ b o,s.heap.get? b=some o->h1.get? b=some o)->(∀ b o,s.heap.get? b=some o->h'.get? b=some o)->x4d prog w s.heap us ks->(∀ v∈us,∃ b∈bs,v=.ref b)->ks.Perm kp->(∀ i j,i<=j->j<ks.length->rk (ks.getD i (0,0))<=rk (ks.getD j (0,0)))->
    h'.get? h1.objs.size=some { cls:=.type "list",data:=.seq us.toArray c }->Q (.ref h1.objs.size) { s with heap:=h',toks:=tk }) :
  wpAny (model prog w) A (call (.builtin "sorted") [.ref a]) Q E s:=by
 have gd:=So.gd
 have sz:es.size=kp.length:=by rw[So.S.size,ek,Qc]
 refine JF kind_sorted plain_sorted entry_sorted (args_sorted1 _) ?_
 unfold Builtin.«sorted»
 refine wpAny_bind (m:=checkCount "sorted" 1 1 _) (Qd (wpAny_bind (kdu_collect (A:=A.in1) (j3i gd) hh ho (J8 (by omega)) fun h' tk acc hk hacc=>?c1)))
 case c1=>
 have hl:acc.toList.length=es.size:=by rw[QI];exact hacc.1
 refine wpAny_bind (Vc ?c2 (by rw[hl];exact J8 (by omega)))
 case c2=>
 obtain⟨ks,T,pm,mb⟩:=z39 (a:=a) (ep:=ep) So.S ek hl (fun j v e=>hacc.2 j v (by rw[<- Zg];exact e))
 have T1:x4d prog w (h'.push (seqObj "list" acc.toList.toArray 0)) acc.toList ks:=T.keep fun b o q _=>Qb _ (hk b o q)
 have oL:(h'.push (seqObj "list" acc.toList.toArray 0)).get? h'.objs.size=some (seqObj "list" acc.toList.toArray 0):=Qo _ rfl
 refine wpAny_bind (Za (Q1 slot_list_sort ⟨_,oL,rfl⟩ entry_list_sort (y1t oL T1 (fun x hx=>hb x (pm.mem_iff.mp hx)) (by rw[hl,sz];exact few) fun out ks' o1 om o2 o3=>⟨_,rfl,?c3⟩) (args_list_sort _)))
 case c3=>
 refine Qd ⟨_,rfl,?c4⟩
 case c4=>
 have ne:∀ b o,s.heap.get? b=some o->b≠h'.objs.size:=fun b o e=>QM (Qm (hk b o e))
 have up:∀ (G:Heap) (f:Array Value->Array Value),(∀ b o,s.heap.get? b=some o->G.get? b=some o)->∀ b o,s.heap.get? b=some o->(G.update h'.objs.size (Obj.mapSeq f)).get? b=some o:=
  fun G f q b o e=>(ZF _ _ (Zi (ne b o e))).trans (q b o e)
 unfold sortedHeap
 have g1:=Z9 oL (fun _=>(#[]:Array Value))
 have g4:=Z9 (Qb (seqObj "list" #[] 0) (Qb (seqObj "tuple" acc.toList.toArray 0) g1)) (fun _=>out.toArray)
 refine h h' _ _ out ks' _ hk ?c5 ?c6 (fun v hv=>mb v (om v hv)) (o2.trans pm) o3 g4
 case c5=>exact up _ _ fun b o e=>Qb _ (Qb _ (up _ _ (fun b o e=>Qb _ (hk b o e)) b o e))
 case c6=>
  refine⟨o1.1,fun i x q=>?_⟩
  obtain⟨b,e1,k1⟩:=o1.2 i x q
  obtain⟨j,hj,qj⟩:=Q8 (om _ (Qy e1))
  have gj:ks[j]? = some (ks[j]'(by rw[<- T.1];exact hj)):=Qa _
  obtain⟨b',e2,k2⟩:=T.2 j _ gj
  rw[Qa hj,qj]at e2
  cases e2
  obtain⟨b2,e3,k3⟩:=T1.2 j _ gj
  rw[Qa hj,qj]at e3
  cases e3
  have:=k3.inj k1
  rw[this]at k2
  exact⟨b,e1,k2⟩
end
def S9 (prog:Program)(w:World)(a:Addr)(kp:List (Nat×Nat))(bs:List Addr):Heap->Prop:=fun h=>∃ es ep t,h.get? a=some (soT es ep t)/\es.toList=((kp.map prI).zip bs).map (fun x=>(tupleKeyHash (intKind prog w) x.1,Value.ref x.2))/\(kp.map prI).length=bs.length/\TbOk t ((kp.map prI).map (tupleKeyHash (intKind prog w)))/\(kp.map prI).Nodup/\t.plain=true/\t.led = !byT w/\(kp.map prI).length*5<t.mask*3
def PrH (K:PySem.W.Frag)(H:Hp)(ks:List (Nat×Nat))(ads:List Addr):Prop:=ks.length=ads.length/\∀ (i:Nat) (x:Nat×Nat) (b:Addr),ks[i]? = some x->ads[i]? = some b->H b=some (.tup [.int (Int.ofNat x.1),.int (Int.ofNat x.2)])
theorem y40:∀ {ads:List Addr} {us:List Value},x1w (ads.map V.ref) us->us=ads.map Value.ref
 | [],_,r=>by cases r;rfl
 | a::ads,_,r=>by
  cases r with
  | cons h t=>
   cases h
   rw[y40 t]
   rfl
theorem x6p:∀ (ads:List Addr),x1w (ads.map V.ref) (ads.map Value.ref)
 | []=>.nil
 | a::ads=>.cons rfl (x6p ads)
def j1b (l:List Int):Nat×Nat:=((l.getD 0 0).toNat,(l.getD 1 0).toNat)
theorem z05(x:Nat×Nat):j1b (prI x)=x:=rfl
theorem y4z(h:prI x=prI y):x=y:=by rw[<- z05 x,h,z05]
section
variable {X:Cx}{a:Expr}{fa:Den}{p p2 pos pos2:Pos}{pins:List (Addr×Obj)}{σ:St}{H:Hp}{s:Shared}
theorem x5o{b:Addr}(I:Inv X pins σ H s)(h:SqT X.K H b [.int (Int.ofNat x.1),.int (Int.ofNat x.2)]):IsTupleKey (intKind X.prog X.w) s.heap (prI x) b:=by
 obtain⟨its,r,⟨o,ho,hc,n,hd⟩,_⟩:=I.tuple h
 refine⟨o,its.toArray,n,ho,hc,hd,?_⟩
 cases r with
 | cons h1 r1=>
  cases r1 with
  | cons h2 r2=>
   cases r2
   obtain⟨t,rfl⟩:=h1
   obtain⟨u,rfl⟩:=h2
   exact .cons (intKind_is _ _ _ _) (.cons (intKind_is _ _ _ _) .nil)
theorem y8v(hc:X.calm=true)(hu:X.A.units+4<cLine):x7b X (.type "set") (fun xs H Q=>∃ t ks ads,xs=[.ref t]/\SqL X.K H t (ads.map V.ref)/\PrH X.K H ks ads/\ks.length<=100 /\
  ∀ p kp bs,H p=none->kp.Nodup->(∀ x,x∈kp ↔ x∈ks)->PrH X.K H kp bs->Q (.ref p) (upd H p (.ext (S9 X.prog X.w p kp bs)))):=by
 intro pins s σ H xs us Q I r hh
 obtain⟨t,ks,ads,rfl,hq,⟨len,tu⟩,h100,q⟩:=hh
 obtain⟨u,rfl,ru⟩:=x9m r
 cases ru
 obtain⟨its,rv,pl,_⟩:=I.list hq
 have ei:=y40 rv
 subst ei
 have gk:∀ i,i<ks.length->∃ x,ks[i]? = some x/\(ks.map prI).getD i []=prI x/\ads[i]? = some (ads.getD i 0):=fun i hi=>by
  refine⟨_,Qa hi,?_,?_⟩
  ·rw[Qh,Ql,Qa hi];rfl
  ·rw[Qh,Qa (by rw[<- len];exact hi)];rfl
 refine j3g (ks:=ks.map prI) (ad:=fun i=>ads.getD i 0) (I.ok.hd hc) (by show X.A.units+1+1+1<cLine;omega) pl.isList (by rw[Qc,Qc,len]) (fun i v e=>?z1) (fun i hi=>?z2) (by rw[Qc];exact h100) fun h' tk kl hS mm kp'=>?z3
 case z1=>
  rw[Ql,Qu]at e
  obtain⟨b,e1,rfl⟩:=e
  show Value.ref b=.ref (ads.getD i 0)
  rw[Qh,e1]
  rfl
 case z2=>
  rw[Qc]at hi
  obtain⟨x,e1,e2,e3⟩:=gk i hi
  rw[e2]
  exact x5o I (.inl (.inl (tu i x _ e1 e3)))
 case z3=>
  obtain⟨es,ep,t',bs,g,⟨d,S,pl',ld,rm⟩,hb⟩:=hS
  have ek:kl=(kl.map j1b).map prI:=by
   rw[QV]
   conv=>lhs;rw[<- V3 kl]
   refine QP fun l hl=>?_
   obtain⟨j,hj,e⟩:=(mm l).mp hl
   rw[Qc]at hj
   obtain⟨x,_,e2,_⟩:=gk j hj
   rw[e2]at e
   rw[<- e]
   rfl
  have hS9:S9 X.prog X.w s.heap.objs.size (kl.map j1b) bs h':=by
   refine⟨es,ep,t',g,?_⟩
   rw[<- ek]
   exact⟨S.es,S.len,S.tb,S.nd,pl',ld,rm⟩
  refine⟨.ref s.heap.objs.size,_,I.laid (o:=.ext (S9 X.prog X.w s.heap.objs.size (kl.map j1b) bs)) (h':=h') (t':=tk) (fun b o e=>kp' b o (Qm e) e) (Qi _) ⟨hS9,⟨_,g⟩,fun h1 h2 ⟨es,ep,t,e,r⟩ k=>⟨es,ep,t,k _ e,r⟩⟩,rfl,q _ _ _ (I.hok.fresh (Qi _)) ?z4 (fun x=>?z5) ⟨by rw[Qc];exact S.len,fun i x b e1 e2=>?z6⟩⟩
  case z4=>
   have:=S.nd
   rw[ek]at this
   exact(Jf.mp this).imp fun h z=>h (by rw[z])
  case z5=>
   constructor
   ·intro hx
    obtain⟨l,hl,rfl⟩:=Qp.mp hx
    obtain⟨j,hj,e⟩:=(mm l).mp hl
    rw[Qc]at hj
    obtain⟨y,e1,e2,_⟩:=gk j hj
    rw[e2]at e
    rw[<- e]
    exact Qy e1
   ·intro hx
    obtain⟨j,hj,e⟩:=Q8 hx
    obtain⟨y,e1,e2,_⟩:=gk j hj
    rw[Qa hj,e]at e1
    cases e1
    exact Qp.mpr ⟨prI x,(mm _).mpr ⟨j,by rw[Qc];exact hj,e2⟩,rfl⟩
  case z6=>
   rw[Ql,Qu]at e1
   obtain⟨l,f1,rfl⟩:=e1
   have kb:=S.is i l b f1 e2
   obtain⟨j,hj,rfl⟩:=hb b (Qy e2)
   rw[Qc]at hj
   obtain⟨y,g1,g2,g3⟩:=gk j hj
   have sq:=tu j y _ g1 g3
   obtain⟨o,items,n,ho,hc',hd,hi⟩:=x5o I (.inl (.inl sq))
   have k2:IsTupleKey (intKind X.prog X.w) h' (prI y) (ads.getD j 0):=⟨o,items,n,kp' _ o (Qm ho) ho,hc',hd,hi⟩
   have:=kb.inj k2
   subst this
   exact sq
theorem y6s(hc:X.calm=true):x7b X (.builtin "sorted") (fun xs H Q=>∃ t kp bs,xs=[.ref t]/\H t=some (.ext (S9 X.prog X.w t kp bs))/\PrH X.K H kp bs/\kp.length<64/\(∀ x∈kp,x.2<1000) /\
  ∀ p ks cs,H p=none->ks.Perm kp->(∀ i j,i<=j->j<ks.length->rk (ks.getD i (0,0))<=rk (ks.getD j (0,0)))->PrH X.K H ks cs->Q (.ref p) (upd H p (.lst (cs.map V.ref)))):=by
 intro pins s σ H xs us Q I r hh
 obtain⟨t,kp,bs,rfl,hq,⟨len,tu⟩,few,hb,q⟩:=hh
 obtain⟨u,rfl,ru⟩:=x9m r
 cases ru
 obtain⟨⟨es,ep,tb,g,e1,e2,e3,e4,e5,e6,e7⟩,_,_⟩:=I.hok _ _ hq
 have So:SoT X.prog X.w s.heap (soT es ep tb) ep (!byT X.w) (kp.map prI) es tb bs:=⟨rfl,⟨e1,e2,fun i k b x y=>by
  rw[Ql,Qu]at x
  obtain⟨z,z1,rfl⟩:=x
  exact x5o I (.inl (.inl (tu i z b z1 y))),e3,e4⟩,e5,e6,e7⟩
 refine z5l (I.ok.hd hc) g So rfl hb few fun h1 h' tk us ks c k1 kp' T mb pm so hg=>?_
 obtain⟨cs,rfl⟩:∃ cs:List Addr,us=cs.map Value.ref:=by
  have:∀ (l:List Value),(∀ v∈l,∃ b∈bs,v=.ref b)->∃ cs:List Addr,l=cs.map Value.ref:=by
   intro l
   induction l with
   | nil=>intro _;exact⟨[],rfl⟩
   | cons v l ih=>
    intro h
    obtain⟨cs,e⟩:=ih fun w hw=>h w (Qe _ hw)
    obtain⟨b,_,rfl⟩:=h v Qf
    exact⟨b::cs,by rw[e];rfl⟩
  exact this us mb
 have lc:cs.length=ks.length:=by have:=T.1;rwa [Qc]at this
 refine⟨.ref h1.objs.size,_,z82 (o:=.lst (cs.map V.ref)) I k1 (Qi _) kp' ⟨J8 (by rw[Qc,lc,pm.length_eq];omega),cs.map Value.ref,c,x6p cs,hg⟩,rfl,q _ ks cs (z0k I.hok k1 (Qi _)) pm so ⟨lc.symm,fun i x b x1 x2=>?_⟩⟩
 obtain⟨a,y1,y2⟩:=T.2 i x x1
 rw[Ql,x2]at y1
 cases y1
 obtain⟨b',hb',e⟩:=mb (.ref b) (Qp.mpr ⟨b,Qy x2,rfl⟩)
 cases e
 obtain⟨j,hj,qj⟩:=Q8 hb'
 have gj:kp[j]? = some (kp[j]'(by rw[len];exact hj)):=Qa _
 have sq:=tu j _ b gj (by rw[Qa hj,qj])
 have:=y4z ((x5o I (.inl (.inl sq))).inj y2)
 rw[this]at sq
 exact sq
end
abbrev prD (x:Nat×Nat):D:=.tup [.int (Int.ofNat x.1),.int (Int.ofNat x.2)]
def z5k:List D->Option (List (Nat×Nat))
 | []=>some []
 | .tup [.int (.ofNat i),.int (.ofNat j)]::ds=>if j<1000 then(z5k ds).map ((i,j) :: ·)else none
 | _=>none
theorem z6g:∀ {ds:List D} {ks:List (Nat×Nat)},z5k ds=some ks->ds=ks.map prD/\∀ x∈ks,x.2<1000:=by
 intro ds
 induction ds with
 | nil=>intro ks h;cases h;exact⟨rfl,fun _ h=>nomatch h⟩
 | cons d ds ih=>
  intro ks h
  unfold z5k at h
  split at h
  ·rename_i e;cases e
  ·rename_i i j ds' e
   cases e
   split at h
   ·rename_i hi
    obtain⟨ks',e,rfl⟩:=Qu.mp h
    obtain⟨e1,e2⟩:=ih e
    exact⟨by rw[e1];rfl,fun k hk=>by
     rcases Qq.mp hk with q|q
     ·rw[q];exact hi
     ·exact e2 k q⟩
   ·cases h
  ·cases h
theorem y5l:∀ (ks:List (Nat×Nat)),(∀ x∈ks,x.2<1000)->z5k (ks.map prD)=some ks
 | [],_=>rfl
 | x::ks,h=>by
  show(if x.2<1000 then(z5k (ks.map prD)).map ((x.1,x.2) :: ·)else none)=_
  rw[Qj (h x Qf),y5l ks fun y hy=>h y (Qe _ hy)]
  rfl
def x43 (ks:List (Nat×Nat)):List (Nat×Nat):=ks.eraseDups.mergeSort fun a b=>decide (rk a<=rk b)
theorem z4s(hx:x.2<1000)(hy:y.2<1000)(h:rk x=rk y):x=y:=by
 have e:x.1*1000+x.2=y.1*1000+y.2:=by injection h
 have:x.1=y.1:=by omega
 have:x.2=y.2:=by omega
 exact VT (by assumption) (by assumption)
theorem z0i(ks:List (Nat×Nat)):(x43 ks).Pairwise fun a b=>rk a<=rk b:=by
 have:=JV (le:=fun a b:Nat×Nat=>decide (rk a<=rk b)) (fun a b c h1 h2=>Qs (Vv (QR h1) (QR h2))) (fun a b=>by
  rcases V0 (rk a) (rk b)with h|h
  ·rw[Qs h];rfl
  ·rw[Qs h,V1]) ks.eraseDups
 exact this.imp fun h=>QR h
theorem y6o{α:Type}[BEq α][LawfulBEq α]:∀ (n:Nat) (l:List α),l.length<=n->l.eraseDups.Nodup
 | 0,[],_=>by rw[List.eraseDups_nil];exact Jp
 | 0,_::_,h=>absurd h (by simp)
 | n+1,[],_=>by rw[List.eraseDups_nil];exact Jp
 | n+1,a::l,h=>by
  rw[List.eraseDups_cons]
  refine QW.mpr ⟨fun z=>?_,y6o n _ (QU (Zz _ _) (by simpa using h))⟩
  rw[List.mem_eraseDups]at z
  have:=(Zd.mp z).2
  simp at this
theorem x3a:x∈x43 ks ↔ x∈ks:=by
 unfold x43
 rw[List.mem_mergeSort,List.mem_eraseDups]
theorem x80(ks:List (Nat×Nat)):(x43 ks).Nodup:=(Jn _ _).nodup_iff.mpr (y6o _ ks (Qi _))
theorem y55{α:Type}[DecidableEq α]:∀ {l m:List α},l.Nodup->m.Nodup->(∀ x,x∈l ↔ x∈m)->l.Perm m
 | [],m,_,_,h=>by
  cases m with
  | nil=>exact .nil
  | cons a m=>exact absurd ((h a).mpr Qf) (by simp)
 | a::l,m,h1,h2,h=>by
  have ha:=(h a).mp Qf
  have h1':=QW.mp h1
  refine List.Perm.trans (List.Perm.cons a (y55 h1'.2 (h2.erase a) fun x=>?_)) (List.perm_cons_erase ha).symm
  rw[h2.mem_erase_iff]
  constructor
  ·intro hx
   exact⟨fun z=>h1'.1 (z ▸ hx),(h x).mp (Qe _ hx)⟩
  ·rintro ⟨ne,hx⟩
   rcases Qq.mp ((h x).mpr hx)with z|z
   ·exact absurd z ne
   ·exact z
theorem x9g(hb:∀ x∈ks,x.2<1000)(nd:kp.Nodup)(mem:∀ x,x∈kp ↔ x∈ks)(pm:ks'.Perm kp)(so:∀ i j,i<=j->j<ks'.length->rk (ks'.getD i (0,0))<=rk (ks'.getD j (0,0))):ks'=x43 ks:=by
 have p1:ks'.Perm (x43 ks):=y55 (pm.nodup_iff.mpr nd) (x80 ks) fun x=>by rw[pm.mem_iff,mem,x3a]
 have u1:(ks'.map rk).Pairwise (· <= ·):=by
  rw[Jf,ZK]
  intro i j hi hj hij
  have:=so i j (by omega) hj
  rw[Qh,Qh,Qa hi,Qa hj]at this
  exact this
 have u2:((x43 ks).map rk).Pairwise (· <= ·):=by rw[Jf];exact z0i ks
 have e:=lks_uniq (p1.map rk) u1 u2
 have key:∀ (l m:List (Nat×Nat)),(∀ x∈l,x.2<1000)->(∀ x∈m,x.2<1000)->l.map rk=m.map rk->l=m:=by
  intro l
  induction l with
  | nil=>
   intro m _ _ h
   cases m with
   | nil=>rfl
   | cons _ _=>cases h
  | cons a l ih=>
   intro m h1 h2 h
   cases m with
   | nil=>cases h
   | cons b m=>
    rw[Qx,Qx]at h
    injection h with q1 q2
    rw[z4s (h1 a Qf) (h2 b Qf) q1,ih m (fun x hx=>h1 x (Qe _ hx)) (fun x hx=>h2 x (Qe _ hx)) q2]
 exact key _ _ (fun x hx=>hb x ((mem x).mp (pm.mem_iff.mp hx))) (fun x hx=>hb x (x3a.mp hx)) e
def x5h (fa:Den):Den:=fun ρ=>match fa ρ with
 | some (.lst ds,q,ρ1)=>if q<=1 then match z5k ds with
  | some ks=>if ks.length<64 then some (.lst ((x43 ks).map prD),1,ρ1)else none
  | none=>none
  else none
 | _=>none
theorem j3e:∀ {ks:List (Nat×Nat)} {vs:List V} {F:List Addr},Reps K H w o 0 (ks.map prD) vs F->∃ ads:List Addr,vs=ads.map V.ref/\PrH K H ks ads
 | [],_,_,h=>by cases h;exact⟨[],rfl,rfl,fun i x b e _=>by simp at e⟩
 | x::ks,_,_,h=>by
  cases h with
  | cons r rs _=>
   obtain⟨ads,e,l,t⟩:=j3e rs
   cases r with
   | @tup _ a vs' ds' ha hr=>
    have i1:=z4q (ks:=[Int.ofNat x.1,Int.ofNat x.2]) hr
    subst i1 e
    refine⟨a::ads,rfl,by rw[QH,QH,l],fun i y b q1 q2=>?_⟩
    cases i with
    | zero=>cases q1;cases q2;exact ha
    | succ i=>exact t i y b q1 q2
theorem j1i:∀ {ks:List (Nat×Nat)} {ads:List Addr},PrH K H ks ads->Reps K H w o 0 (ks.map prD) (ads.map V.ref) []
 | [],[],_=>.nil
 | [],_::_,h=>nomatch h.1
 | _::_,[],h=>nomatch h.1
 | x::ks,a::ads,h=>.cons (F:=[]) (G:=[]) (.tup (h.2 0 x a rfl rfl) (.cons (F:=[]) (G:=[]) (.int _) (.cons (F:=[]) (G:=[]) (.int _) .nil (fun _ z=>nomatch z)) (fun _ z=>nomatch z))) (j1i ⟨by simpa using h.1,fun i y b e1 e2=>h.2 (i+1) y b (by rw[Zs];exact e1) (by rw[Zs];exact e2)⟩) (fun _ z=>nomatch z)
section
variable {X:Cx}{a:Expr}{fa:Den}{p p2 pos pos2:Pos}{j:Nat}
theorem y4x(hc:X.calm=true)(hr:Room j X.A)(hm:X.mg "sorted" = none)(hmS:X.mg "set" = none)(ha:QD X a fa)(hb:bootBuiltins "set" = some (.type "set"):=by kernel_rfl)(hb2:bootBuiltins "sorted" = some (.builtin "sorted"):=by kernel_rfl)(hg:Gl X "sorted":=by rfl)(hgS:Gl X "set":=by rfl)(hs:starEach [a] X.env=(false,eval a X.env)::starEach [] X.env:=by rfl)(hpl:(backTo pos2 (starEach [] X.env)).any (·.1)=false:=by rfl)(hs2:starEach [.Call (.Name "set" p2) [a] [] pos2] X.env=(false,eval (.Call (.Name "set" p2) [a] [] pos2) X.env)::starEach [] X.env:=by rfl)(hpl2:(backTo pos (starEach [] X.env)).any (·.1)=false:=by rfl):QD X (.Call (.Name "sorted" p) [.Call (.Name "set" p2) [a] [] pos2] [] pos) (x5h fa):=⟨have ha:=ha.o;by
 refine PE.imp (x3i (y6s hc) hg hm hb2 (x3y (x59 (y8v hc (by have:=hr.un;omega)) hgS hmS hb (x3y ha x65 hs) (by decide) (by decide) hs hpl) x65 hs2) (by decide) (by decide) hs2 hpl2) fun σ H Q hh0=>?_
 obtain⟨ρ,w,t,r',q,ρ',gd,ee,k⟩:=hh0
 unfold x5h at ee
 split at ee
 ·rename_i ds q1 ρ1 h1
  split at ee
  ·rename_i hq1
   split at ee
   ·rename_i ks h2
    split at ee
    ·rename_i h64
     cases ee
     obtain⟨e,h1000⟩:=z6g h2
     subst e
     refine⟨ρ,w,t,_,_,_,gd,h1,fun v H1 w1 F1 g1 go1 r1=>?_⟩
     obtain⟨p1,vs,rfl,hsq,rs⟩:=r1.seqV hq1
     obtain⟨ads,rfl,tu⟩:=j3e rs
     refine⟨p1,ks,ads,rfl,hsq,tu,by omega,fun p' kp bs hp' nd mem tu2=>?_⟩
     have up:∀ b o,H1 b=some o->upd H1 p' (.ext (S9 X.prog X.w p' kp bs)) b=some o:=fun b o z=>by
      unfold upd
      rw[Qk (fun y=>by rw[y,hp']at z;cases z)]
      exact z
     have kl:kp.length<=ks.length:=sub_pr nd fun x hx=>(mem x).mp hx
     refine⟨p',kp,bs,rfl,x0y,⟨tu2.1,fun i x b x1 x2=>up _ _ (tu2.2 i x b x1 x2)⟩,by omega,fun x hx=>h1000 x ((mem x).mp hx),fun l ks' cs hl pm so tu3=>?_⟩
     have es:=x9g h1000 nd mem pm so
     subst es
     have gg:=g1.drop (t':=t)
     obtain⟨g2,go2⟩:=gg.grow (H':=upd H1 p' (.ext (S9 X.prog X.w p' kp bs))) (fun b o z=>sm (up b o z)) (gg.wl.tb.upd rfl (.inl hp'))
     obtain⟨a1,a2,a3⟩:=y0k g2 hl (j1i tu3)
     exact k _ _ _ _ a1 (((go1.drop gd.wt).trans go2).trans a2) a3
    ·cases ee
   ·cases ee
  ·cases ee
 ·cases ee⟩
where
 sub_pr:∀ {l l':List (Nat×Nat)},l.Nodup->(∀ x∈l,x∈l')->l.length<=l'.length
 | [],_,_,_=>Zb _
 | a::l,l',nd,h=>by
  have ha:=h a Qf
  have i:=sub_pr (l:=l) (l':=l'.erase a) (QW.mp nd).2 fun x hx=>by
   have ne:x≠a:=fun z=>(QW.mp nd).1 (z ▸ hx)
   exact(Yn ne).mpr (h x (Qe _ hx))
  rw[JJ ha]at i
  have:0<l'.length:=J6 ha
  show l.length+1<=l'.length
  omega
end
section
variable {X:Cx}{a:Expr}{fa:Den}{p pos:Pos}
def y6c (ks:List (Nat×Nat)):List (Nat×Nat):=ks.mergeSort fun a b=>decide (rk a<=rk b)
theorem x9t(hb:∀ x∈kp,x.2<1000)(pm:ks'.Perm kp)(so:∀ i j,i<=j->j<ks'.length->rk (ks'.getD i (0,0))<=rk (ks'.getD j (0,0))):ks'=y6c kp:=by
 have p1:ks'.Perm (y6c kp):=pm.trans (Jn _ _).symm
 have u1:(ks'.map rk).Pairwise (· <= ·):=by
  rw[Jf,ZK]
  intro i j hi hj hij
  have:=so i j (by omega) hj
  rw[Qh,Qh,Qa hi,Qa hj]at this
  exact this
 have u2:((y6c kp).map rk).Pairwise (· <= ·):=by
  rw[Jf]
  have:=JV (le:=fun a b:Nat×Nat=>decide (rk a<=rk b)) (fun a b c h1 h2=>Qs (Vv (QR h1) (QR h2))) (fun a b=>by
   rcases V0 (rk a) (rk b)with h|h
   ·rw[Qs h];rfl
   ·rw[Qs h,V1]) kp
  exact this.imp fun h=>QR h
 have e:=lks_uniq (p1.map rk) u1 u2
 have key:∀ (l m:List (Nat×Nat)),(∀ x∈l,x.2<1000)->(∀ x∈m,x.2<1000)->l.map rk=m.map rk->l=m:=by
  intro l
  induction l with
  | nil=>
   intro m _ _ h
   cases m with
   | nil=>rfl
   | cons _ _=>cases h
  | cons a l ih=>
   intro m h1 h2 h
   cases m with
   | nil=>cases h
   | cons b m=>
    rw[Qx,Qx]at h
    injection h with q1 q2
    rw[z4s (h1 a Qf) (h2 b Qf) q1,ih m (fun x hx=>h1 x (Qe _ hx)) (fun x hx=>h2 x (Qe _ hx)) q2]
 exact key _ _ (fun x hx=>hb x (pm.mem_iff.mp hx)) (fun x hx=>hb x ((Jn _ _).mem_iff.mp hx)) e
end
section
variable {prog:Program}{w:World}{A:Around}{E:Value->Shared->Prop}{s:Shared}{it d:Addr}{od:Obj}{es:Array DictEntry}{i ep:Nat}
theorem z79{Q:Value->Shared->Prop}(lo:(d==sysModules)=false)(hT:s.TypeIs (.ref d) "dict")(ho:s.heap.get? d=some od)(hd:od.data=.dict es ep)
  (q:Q (.ref s.heap.objs.size) { s with heap:=s.heap.push { cls:=.type "dict_keyiterator",data:=.fields #[.ref d,.int 0 0,.int es.size 0,.int ep 0] } }):wpAny (model prog w) A (pyIter (.ref d)) Q E s:=by
 refine Y1 hT Vw (Q1 Vw hT PySem.F.entry_dict_iter ?_ (PySem.F.args_dict_iter_1 _))
 unfold Builtin.«dict.__iter__» Builtin.Dict.dictSlotNone
 refine wpAny_bind (wpAny_bind (wpAny_notOrdered_dict hT (show wpAny _ _ (pure (Value.ref d)) _ _ s from Qd (show wpAny _ _ (Builtin.Dict.showsAll d >>= _) _ _ s from ?_))))
 unfold Builtin.Dict.showsAll
 rw[Qk (by rw[lo];exact Zp)]
 refine wpAny_bind (Qd (wpAny_bind (Y2 ho hd (wpAny_bind (VB ho hd (wpAny_bind (Q0 (Qd ⟨_,rfl,"dict_keyiterator",_,⟨_,Qo _ rfl,rfl⟩,Zq.lookup,?_⟩))))))))
 simpa [rawInt]using q
theorem z5i(hit:s.heap.IsKeyIter it d i es.size ep)(hod:s.heap.get? d=some od)(hdd:od.data=.dict es ep)(hi:i<es.size)
  (q:∀ h',h'.IsKeyIter it d (i+1) es.size ep->Heap.SameBut it s.heap h'->Q (some es[i].key) { s with heap:=h' }):wpAny (model prog w) A (pyNext (.ref it)) Q E s:=by
 obtain⟨o,ho,hc,hd⟩:=id hit
 unfold pyNext
 refine wpAny_bind (Ji (Q4 (name:=Str.ofString "__next__") hit.typeIs Zq (Q1 Zq hit.typeIs JL ?body (JH _))))
 case body=>
 refine wpAny_bind (Qd (wpAny_bind (wpAny_bind (wpAny_bind (ZR hit.typeIs (Qd (wpAny_bind (YO ho hd ?b1))))))))
 case b1=>
 simp only[show Builtin.Dict_items.ownsTuple "dict_keyiterator" = false from by decide,Qt,Zn]
 refine(show wpAny _ _ (if(Value.ref d==Value.none)=true then _ else _) _ _ s from ?b2)
 case b2=>
 rw[Qk (show ¬ ((Value.ref d==Value.none)=true)from Zp)]
 refine wpAny_bind (Qd (wpAny_bind (Y2 hod hdd ?b3)))
 case b3=>
 rw[Qk (by simp)]
 refine wpAny_bind (Qd (wpAny_bind (VB hod hdd ?b4)))
 case b4=>
 rw[Qk (by simp)]
 refine Qd ?b5
 case b5=>
 simp only[show ¬ ((i:Int)<0)from by omega,Zn,J2,Zh hi]
 refine wpAny_bind (wpAny_bind (ZR hit.typeIs (Qd (wpAny_bind (wpAny_isOneOf_keyiter hit.typeIs ?b6)))))
 case b6=>
 refine(show wpAny _ _ (setField (.ref it) 1 (rawInt ((i:Int)+1)) >>= _) _ _ s from wpAny_bind (YM ho hd (by simp) ?b7))
 case b7=>
 have hit':(s.heap.update it (Obj.mapFields (·.setIfInBounds 1 (rawInt ((i:Int)+1))))).IsKeyIter it d (i+1) es.size ep:=⟨_,ZM _ ho (Obj.isFreed_of_fields (JP hd _)),(Obj.cls_mapFields ..).trans hc,by rw[JP hd];simp[rawInt]⟩
 refine wpAny_bind (Za (wpAny_bind (wpAny_isOneOf_keyiter (s:={ s with heap:=s.heap.update it (Obj.mapFields (·.setIfInBounds 1 (rawInt ((i:Int)+1)))) }) hit'.typeIs ?b8)))
 case b8=>exact(show wpAny _ _ (pure es[i].key) _ _ _ from Qd (Qd ⟨_,rfl,Qd (q _ hit' (ZJ ..))⟩))
theorem z7o(hh:A.handled=none)(hit:s.heap.IsKeyIter it d es.size es.size ep)(hod:s.heap.get? d=some od)(hdd:od.data=.dict es ep)
  (q:∀ h',Heap.ExtBut it s.heap h'->Q none { s with heap:=h' }):wpAny (model prog w) A (pyNext (.ref it)) Q E s:=by
 obtain⟨o,ho,hc,hd⟩:=id hit
 unfold pyNext
 refine wpAny_bind (Ji (Q4 (name:=Str.ofString "__next__") hit.typeIs Zq (Q1 Zq hit.typeIs JL ?body (JH _))))
 case body=>
 refine wpAny_bind (Qd (wpAny_bind (wpAny_bind (wpAny_bind (ZR hit.typeIs (Qd (wpAny_bind (YO ho hd ?b1))))))))
 case b1=>
 simp only[show Builtin.Dict_items.ownsTuple "dict_keyiterator" = false from by decide,Qt,Zn]
 refine(show wpAny _ _ (if(Value.ref d==Value.none)=true then _ else _) _ _ s from ?b2)
 case b2=>
 rw[Qk (show ¬ ((Value.ref d==Value.none)=true)from Zp)]
 refine wpAny_bind (Qd (wpAny_bind (Y2 hod hdd ?b3)))
 case b3=>
 rw[Qk (by simp)]
 refine wpAny_bind (Qd (wpAny_bind (VB hod hdd ?b4)))
 case b4=>
 rw[Qk (by simp)]
 refine Qd ?b5
 case b5=>
 simp only[show ¬ ((es.size:Int)<0)from by omega,Zn,J2,Ju (Qi es.size)]
 refine wpAny_bind (wpAny_bind (ZR hit.typeIs (Qd ?b6)))
 case b6=>
 refine(show wpAny _ _ (setField (.ref it) 0 .none >>= _) _ _ s from wpAny_bind (YM ho hd (by simp) (show wpAny _ _ (newExc (.type "StopIteration") [] >>= _) _ _ _ from wpAny_bind ?b7)))
 case b7=>
 simp only[newExc,newTuple]
 refine wpAny_bind (Q0 (wpAny_bind (m:=firstArgMember _ _) (VM (a:=Value.none) (by first|rfl|(simp only[firstArgMember];rfl)) (Q0 ?b8 (by size_fits)))) (by size_fits))
 case b8=>
 simp only[raiseNew]
 refine wpAny_bind (wpAny_handled ?b9)
 case b9=>
 rw[show A.in1.handled=none from hh]
 refine wpAny_bind (Qd (wpAny_throw ?bx))
 case bx=>
 refine wpAny_bind (JC (b:=true) (T:="StopIteration") ⟨_,Qo _ rfl,rfl⟩ YN (Qd (q _ (((ZJ ..).extBut.push _).push _))))
theorem z8q(lo:(d==sysModules)=false)(hc:od.cls=.type "dict")(hd:od.data=.dict es ep):KdlSrc prog w "dict" d d es.size (fun i v=>∃ e,es[i]? = some e/\v=e.key) (fun h=>h.get? d=some od) where
 type:=fun _ h=>⟨_,h,hc⟩
 there:=fun _ h=>⟨Qm h,Qm h⟩
 keep:=fun _ _ h k=>k d (.inl rfl) _ h
 notList:=by decide
 notTuple:=by decide
 hint:=fun _ _ _ _ h q=>kdl_hint_dict ⟨_,h,hc⟩ q
 iter:=fun A s hh h=>⟨_,fun i h'=>h'.IsKeyIter s.heap.objs.size d i es.size ep/\h'.get? d=some od,(fun _ _ q=>z79 lo ⟨_,h,hc⟩ h hd q),{
  sub:=fun b hb=>by simp at hb;simp[hb]
  frame:=fun _ _ _ st k=>⟨st.1.at fun o e=>k _ (by simp) o e,k d (by simp) _ st.2⟩
  item:=fun i s' Q E hi st q=>z5i st.1 st.2 hd hi fun h' hi' sb=>q _ h' s'.toks ⟨_,Zh hi,rfl⟩ ⟨hi',by rw[sb.2 d (QM (Qm h))];exact st.2⟩ fun b o hb e=>sb.extBut b o (fun z=>hb (by simp[z])) e
  done:=fun s' Q E st q=>z7o hh st.1 st.2 hd fun h' he=>q h' s'.toks fun b o hb e=>he b o (fun z=>hb (by simp[z])) e
  self:=fun _ _ _ _ st q=>wpAny_pyIter_keyiter st.1 q },⟨_,Qo _ rfl,rfl,rfl⟩,Qb _ h⟩
end
section
variable {prog:Program}{w:World}{A:Around}{E:Value->Shared->Prop}{s:Shared}
theorem z6d{ty:String}{r d:Addr}{n:Nat}{Pv:Nat->Value->Prop}{OK:Heap->Prop}{bs:List Addr}{Q:Value->Shared->Prop}(S:KdlSrc prog w ty r d n Pv OK)(hh:A.handled=none)(ho:OK s.heap)(few:n<64)(hb:∀ x∈kp,x.2<1000)
  (wk:∀ vs:List Value,vs.length=n->(∀ (j:Nat) (v:Value),vs[j]? = some v->Pv j v)->∃ ks:List (Nat×Nat),x4d prog w s.heap vs ks/\ks.Perm kp/\∀ v∈vs,∃ b∈bs,v=.ref b)
  (h:∀ (h1:Heap) (h':Heap) (tk:Nat) (us:List Value) (ks:List (Nat×Nat)) (c:Nat),(∀ b o,s.heap.get? b=some o->h1.get? b=some o)->(∀ b o,s.heap.get? b=some o->h'.get? b=some o)->x4d prog w s.heap us ks->(∀ v∈us,∃ b∈bs,v=.ref b)->ks.Perm kp->(∀ i j,i<=j->j<ks.length->rk (ks.getD i (0,0))<=rk (ks.getD j (0,0)))->
    h'.get? h1.objs.size=some { cls:=.type "list",data:=.seq us.toArray c }->Q (.ref h1.objs.size) { s with heap:=h',toks:=tk }) :
  wpAny (model prog w) A (call (.builtin "sorted") [.ref r]) Q E s:=by
 refine JF kind_sorted plain_sorted entry_sorted (args_sorted1 _) ?_
 unfold Builtin.«sorted»
 refine wpAny_bind (m:=checkCount "sorted" 1 1 _) (Qd (wpAny_bind (kdu_collect (A:=A.in1) S hh ho (J8 (by omega)) fun h' tk acc hk hacc=>?c1)))
 case c1=>
 have hl:acc.toList.length=n:=by rw[QI];exact hacc.1
 refine wpAny_bind (Vc ?c2 (by rw[hl];exact J8 (by omega)))
 case c2=>
 obtain⟨ks,T,pm,mb⟩:=wk acc.toList hl fun j v e=>hacc.2 j v (by rw[<- Zg];exact e)
 have T1:x4d prog w (h'.push (seqObj "list" acc.toList.toArray 0)) acc.toList ks:=T.keep fun b o q _=>Qb _ (hk b o q)
 have oL:(h'.push (seqObj "list" acc.toList.toArray 0)).get? h'.objs.size=some (seqObj "list" acc.toList.toArray 0):=Qo _ rfl
 refine wpAny_bind (Za (Q1 slot_list_sort ⟨_,oL,rfl⟩ entry_list_sort (y1t oL T1 (fun x hx=>hb x (pm.mem_iff.mp hx)) (by rw[hl];exact few) fun out ks' o1 om o2 o3=>⟨_,rfl,?c3⟩) (args_list_sort _)))
 case c3=>
 refine Qd ⟨_,rfl,?c4⟩
 case c4=>
 have ne:∀ b o,s.heap.get? b=some o->b≠h'.objs.size:=fun b o e=>QM (Qm (hk b o e))
 have up:∀ (G:Heap) (f:Array Value->Array Value),(∀ b o,s.heap.get? b=some o->G.get? b=some o)->∀ b o,s.heap.get? b=some o->(G.update h'.objs.size (Obj.mapSeq f)).get? b=some o:=
  fun G f q b o e=>(ZF _ _ (Zi (ne b o e))).trans (q b o e)
 unfold sortedHeap
 have g1:=Z9 oL (fun _=>(#[]:Array Value))
 have g4:=Z9 (Qb (seqObj "list" #[] 0) (Qb (seqObj "tuple" acc.toList.toArray 0) g1)) (fun _=>out.toArray)
 refine h h' _ _ out ks' _ hk ?c5 ?c6 (fun v hv=>mb v (om v hv)) (o2.trans pm) o3 g4
 case c5=>exact up _ _ fun b o e=>Qb _ (Qb _ (up _ _ (fun b o e=>Qb _ (hk b o e)) b o e))
 case c6=>
  refine⟨o1.1,fun i x q=>?_⟩
  obtain⟨b,e1,k1⟩:=o1.2 i x q
  obtain⟨j,hj,qj⟩:=Q8 (om _ (Qy e1))
  have gj:ks[j]? = some (ks[j]'(by rw[<- T.1];exact hj)):=Qa _
  obtain⟨b',e2,k2⟩:=T.2 j _ gj
  rw[Qa hj,qj]at e2
  cases e2
  obtain⟨b2,e3,k3⟩:=T1.2 j _ gj
  rw[Qa hj,qj]at e3
  cases e3
  have:=k3.inj k1
  rw[this]at k2
  exact⟨b,e1,k2⟩
end
abbrev prK (x:Nat×Nat):List Key:=[.inl (Int.ofNat x.1),.inl (Int.ofNat x.2)]
theorem z8y:∀ {kvs:List (List Key×V)} {xs:List (List Key×Addr×Value)} {kp:List (Nat×Nat)},KT H kvs xs->kvs.map (·.1)=kp.map prK->PrH K H kp (xs.map (·.2.1)):=by
 intro kvs xs kp r
 induction r generalizing kp with
 | nil=>
  intro e
  have:kp=[]:=Yz.mp e.symm
  subst this
  exact⟨rfl,fun i x b e1 _=>by simp at e1⟩
 | @cons p q ps qs hq t ih=>
  intro e
  cases kp with
  | nil=>cases e
  | cons x kp=>
   rw[Qx,Qx]at e
   injection e with e1 e2
   obtain⟨l,tu⟩:=ih e2
   refine⟨by rw[QH,Qx,QH,l],fun i y b z1 z2=>?_⟩
   cases i with
   | zero=>
    cases z1
    cases z2
    have:=hq.2.1
    rw[e1]at this
    exact this
   | succ i=>exact tu i y b z1 z2
section
variable {X:Cx}
theorem y6y(hc:X.calm=true):x7b X (.builtin "sorted") (fun xs H Q=>∃ t kvs kp,xs=[.ref t]/\H t=some (.dT kvs)/\kvs.map (·.1)=kp.map prK/\kp.length<64/\(∀ x∈kp,x.2<1000) /\
  ∀ p ks cs,H p=none->ks.Perm kp->(∀ i j,i<=j->j<ks.length->rk (ks.getD i (0,0))<=rk (ks.getD j (0,0)))->PrH X.K H ks cs->Q (.ref p) (upd H p (.lst (cs.map V.ref)))):=by
 intro pins s σ H xs us Q I r hh
 obtain⟨t,kvs,kp,rfl,hq,ek,few,hb,q⟩:=hh
 obtain⟨u,rfl,ru⟩:=x9m r
 cases ru
 obtain⟨_,lo,zs,kt,o,es,ep,ho,hx,hd,he,_,_⟩:=z8b I.hok hq
 have tu:PrH X.K H kp (zs.map (·.2.1)):=z8y kt ek
 have len:es.size=kp.length:=by
  rw[<- QI,he,Qc,tu.1,Qc]
 have gk:∀ (i:Nat) (e:DictEntry),es[i]? = some e->∃ b:Addr,(zs.map (·.2.1))[i]? = some b/\e.key=Value.ref b:=fun i e h=>by
  rw[<- Zg,he,Ql,Qu]at h
  obtain⟨z,z1,rfl⟩:=h
  exact⟨z.2.1,by rw[Ql,z1];rfl,rfl⟩
 refine z6d (bs:=zs.map (·.2.1)) (kp:=kp) (z8q lo hx.1 hd) (I.ok.hd hc) ho (by rw[len];exact few) hb (fun vs hl hv=>?w1) fun h1 h' tk us ks c k1 kp' T mb pm so hg=>?w2
 case w1=>
  refine⟨kp,⟨by rw[hl,len],fun i x e=>?_⟩,YR _,fun v m=>?_⟩
  ·have hi:=(QB.mp e).1
   obtain⟨e',q1,q2⟩:=hv i _ (Qa (by rw[hl,len];exact hi))
   obtain⟨b,q3,q4⟩:=gk i e' q1
   exact⟨b,by rw[Qa (by rw[hl,len];exact hi),q2,q4],x5o I (.inl (.inl (tu.2 i x b e q3)))⟩
  ·obtain⟨j,hj,qj⟩:=Q8 m
   obtain⟨e',q1,q2⟩:=hv j v (by rw[Qa hj,qj])
   obtain⟨b,q3,q4⟩:=gk j e' q1
   exact⟨b,Qy q3,by rw[q2,q4]⟩
 case w2=>
  obtain⟨cs,rfl⟩:∃ cs:List Addr,us=cs.map Value.ref:=by
   have:∀ (l:List Value),(∀ v∈l,∃ b∈zs.map (·.2.1),v=.ref b)->∃ cs:List Addr,l=cs.map Value.ref:=by
    intro l
    induction l with
    | nil=>intro _;exact⟨[],rfl⟩
    | cons v l ih=>
     intro h
     obtain⟨cs,e⟩:=ih fun w hw=>h w (Qe _ hw)
     obtain⟨b,_,rfl⟩:=h v Qf
     exact⟨b::cs,by rw[e];rfl⟩
   exact this us mb
  have lc:cs.length=ks.length:=by have:=T.1;rwa [Qc]at this
  refine⟨.ref h1.objs.size,_,z82 (o:=.lst (cs.map V.ref)) I k1 (Qi _) kp' ⟨J8 (by rw[Qc,lc,pm.length_eq];omega),cs.map Value.ref,c,x6p cs,hg⟩,rfl,q _ ks cs (z0k I.hok k1 (Qi _)) pm so ⟨lc.symm,fun i x b x1 x2=>?_⟩⟩
  obtain⟨a,y1,y2⟩:=T.2 i x x1
  rw[Ql,x2]at y1
  cases y1
  obtain⟨b',hb',e⟩:=mb (.ref b) (Qp.mpr ⟨b,Qy x2,rfl⟩)
  cases e
  obtain⟨j,hj,qj⟩:=Q8 hb'
  have gj:kp[j]? = some (kp[j]'(by rw[tu.1];exact hj)):=Qa _
  have sq:=tu.2 j _ b gj (by rw[Qa hj,qj])
  have:=y4z ((x5o I (.inl (.inl sq))).inj y2)
  rw[this]at sq
  exact sq
end
section
variable {α β:Type}[DecidableEq α]
def vL:List α->List β->α->Option β
 | x::ks,d::ds,k=>if x=k then some d else vL ks ds k
 | _,_,_=>none
def y9z (ks:List α)(k:α):Bool:=ks.any fun x=>decide (x=k)
def y43:List α->List β->α->β->List β
 | x::ks,d::ds,k,e=>(if x=k then e else d)::y43 ks ds k e
 | _,_,_,_=>[]
end
theorem y1h{α β:Type}[DecidableEq α](k:α)(e:β):∀ {ks:List α} {ds:List β},ks.length=ds.length->(y43 ks ds k e).length=ds.length
 | [],[],_=>rfl
 | x::ks,d::ds,h=>by
  show(y43 ks ds k e).length+1=ds.length+1
  rw[y1h k e (J9 h)]
theorem y2n{α:Type}[DecidableEq α](k:α):∀ (ks:List α) (vs:List V),y2o (ks.zip vs) k=vL ks vs k
 | [],_=>rfl
 | _::_,[]=>rfl
 | x::ks,v::vs=>by
  show y2o ((x,v)::ks.zip vs) k=_
  unfold vL
  by_cases h:x=k
  ·rw[x77 h,Qj h]
  ·rw[x7k h,Qk h,y2n k ks vs]
theorem y8x{α:Type}[DecidableEq α](k:α):∀ (ks:List α) (vs:List V),ks.length=vs.length->((ks.zip vs).any fun kv=>decide (kv.1=k))=y9z ks k
 | [],[],_=>rfl
 | x::ks,v::vs,h=>by
  rw[JQ,Y7,y8x k ks vs (J9 h)]
  rfl
theorem y5w{α:Type}[DecidableEq α](k:α)(u:V)(ks:List α)(vs:List V)(h:ks.length=vs.length) :
  y21 (ks.zip vs) k u=if y9z ks k=true then ks.zip (y43 ks vs k u)else(ks++[k]).zip (vs++[u]):=by
 unfold y21
 rw[y8x k ks vs h]
 by_cases hk:y9z ks k=true
 ·rw[Qj hk,Qj hk]
  clear hk
  induction ks generalizing vs with
  | nil=>rfl
  | cons x ks ih=>
   cases vs with
   | nil=>cases h
   | cons v vs=>
    show(if x=k then(x,u)else(x,v))::_=(x,if x=k then u else v)::_
    have:=ih vs (J9 h)
    unfold List.zip at this
    rw[this]
    by_cases hx:x=k
    ·rw[Qj hx,Qj hx]
    ·rw[Qk hx,Qk hx]
 ·rw[Qk hk,Qk hk,List.zip_append h]
  rfl
section
variable {K:PySem.W.Frag}{H:Hp}{w:Wn}{o:Ow}
theorem Reps.split(r:Reps K H w o 0 (d::ds) vs []):∃ v us,vs=v::us/\Rep K H w o 0 d v []/\Reps K H w o 0 ds us []:=by
 generalize hF:([]:List Addr)=F at r
 cases r with
 | @cons _ d' v' ds' vs' F' G' r s _=>
  have h1:F'=[]:=r.zero
  have h2:G'=[]:=s.zero
  subst h1 h2
  exact⟨v',vs',rfl,r,s⟩
theorem Reps.mk2(r:Rep K H w o 0 d v [])(s:Reps K H w o 0 ds vs []):Reps K H w o 0 (d::ds) (v::vs) []:=.cons (F:=[]) (G:=[]) r s (fun _ z=>nomatch z)
theorem Reps.nilV(r:Reps K H w o 0 [] vs []):vs=[]:=by
 have:=r.length
 cases vs with
 | nil=>rfl
 | cons _ _=>cases this
theorem z0j{α:Type}[DecidableEq α](k:α):∀ {ks:List α} {ds:List D} {vs:List V},Reps K H w o 0 ds vs []->
  (∀ d,vL ks ds k=some d->∃ v,vL ks vs k=some v/\Rep K H w o 0 d v [])/\(vL ks ds k=none->vL ks vs k=none)
 | [],ds,vs,r=>⟨fun d h=>by simp[vL]at h,fun _=>by simp[vL]⟩
 | x::ks,[],vs,r=>by
  rw[r.nilV]
  exact⟨fun d h=>by simp[vL]at h,fun _=>by simp[vL]⟩
 | x::ks,d::ds,vs,r=>by
  obtain⟨v,us,rfl,r1,s⟩:=r.split
  have ih:=z0j k (ks:=ks) s
  by_cases hx:x=k
  ·simp only[vL,Qj hx]
   exact⟨fun d' h=>by cases h;exact⟨v,rfl,r1⟩,fun h=>by cases h⟩
  ·simp only[vL,Qk hx]
   exact ih
theorem y1r{α:Type}[DecidableEq α](k:α){e:D}(re:Rep K H w o 0 e u []):∀ {ks:List α} {ds:List D} {vs:List V},Reps K H w o 0 ds vs []->Reps K H w o 0 (y43 ks ds k e) (y43 ks vs k u) []
 | [],ds,vs,r=>by simp only[y43];exact .nil
 | x::ks,[],vs,r=>by
  rw[r.nilV]
  simp only[y43];exact .nil
 | x::ks,d::ds,vs,r=>by
  obtain⟨v,us,rfl,r1,s⟩:=r.split
  simp only[y43]
  refine .mk2 ?_ (y1r k re s)
  by_cases hx:x=k
  ·rw[Qj hx,Qj hx];exact re
  ·rw[Qk hx,Qk hx];exact r1
end
def kOf:D->Option Key
 | .int i=>some (.inl i)
 | .str x=>some (.inr x)
 | _=>none
def j1e:List D->Option (List Key)
 | []=>some []
 | d::ds=>match kOf d with
  | some k=>(j1e ds).map (k :: ·)
  | none=>none
def tOf:D->Option (List Key)
 | .tup ds=>j1e ds
 | _=>none
def z3z:MK->List D->D->Option (Option D)
 | .t ks,ds,x=>(tOf x).map fun y=>vL ks ds y
 | .k ks,ds,x=>(kOf x).map fun y=>vL ks ds y
 | .i _ _,_,_=>none
def z94:MK->List D->D->D->Option (MK×List D)
 | .t ks,ds,x,d=>(tOf x).map fun y=>if y9z ks y=true then(.t ks,y43 ks ds y d)else(.t (ks++[y]),ds++[d])
 | .k ks,ds,x,d=>(kOf x).map fun y=>if y9z ks y=true then(.k ks,y43 ks ds y d)else(.k (ks++[y]),ds++[d])
 | .i _ _,_,_,_=>none
section
variable {K:PySem.W.Frag}{H:Hp}{w:Wn}{o:Ow}
theorem y58{x:D}{k:Key}(h:kOf x=some k)(r:Rep K H w o q x v F):v=kV k:=by
 cases x<;>cases h<;>cases r<;>rfl
theorem y5k:∀ {ds:List D} {ks:List Key} {vs:List V},j1e ds=some ks->Reps K H w o 0 ds vs []->vs=ks.map kV
 | [],ks,vs,h,r=>by
  cases h
  exact r.nilV
 | d::ds,ks,vs,h,r=>by
  unfold j1e at h
  split at h
  ·rename_i k hk
   obtain⟨ks',e,rfl⟩:=Qu.mp h
   obtain⟨v,us,rfl,r1,s⟩:=r.split
   rw[y58 hk r1,y5k e s]
   rfl
  ·cases h
theorem y7t{x:D}{k:List Key}(h:tOf x=some k)(r:Rep K H w o q x v F):∃ b,v=.ref b/\H b=some (.tup (k.map kV)):=by
 cases x with
 | tup ds=>
  obtain⟨a,vs,rfl,e,rs⟩:=r.tupAt
  rw[y5k h rs]at e
  exact⟨a,rfl,e⟩
 | _=>cases h
theorem y9e{k:MK}{x:D}{y:V}{r:Option D}(hH:H a=some z)(i:k.Is K vs z)(rs:Reps K H w o 0 ds vs [])(rx:Rep K H w' o' q x y F)(h:z3z k ds x=some r) :
  ∃ rv,y7j H a y rv/\(∀ d,r=some d->∃ v,rv=some v/\Rep K H w o 0 d v [])/\(r=none->rv=none):=by
 cases k with
 | t ks=>
  obtain⟨kk,e,rfl⟩:=Qu.mp h
  cases i
  obtain⟨b,rfl,hb⟩:=y7t e rx
  refine⟨_,y7j.t hH hb,?_⟩
  rw[y2n]
  exact z0j kk rs
 | k ks=>
  obtain⟨kk,e,rfl⟩:=Qu.mp h
  cases i
  rw[y58 e rx]
  refine⟨_,y7j.k hH,?_⟩
  rw[y2n]
  exact z0j kk rs
 | i C fs=>cases h
theorem z7a{k k':MK}{ds':List D}{x:D}{y:V}(hH:H a=some z)(i:k.Is K vs z)(hl:k.len=ds.length)(few:ds.length<1000)(rs:Reps K H w o 0 ds vs [])(rx:Rep K H w' o' q x y F)(rd:Rep K H w o 0 d u [])(h:z94 k ds x d=some (k',ds')) :
  ∃ z' vs',z1l H a y u (upd H a z')/\k'.Is K vs' z'/\k'.len=ds'.length/\Reps K H w o 0 ds' vs' []:=by
 have lv:=rs.length
 cases k with
 | t ks=>
  obtain⟨kk,e,hh⟩:=Qu.mp h
  cases i
  obtain⟨b,rfl,hb⟩:=y7t e rx
  have hl:ks.length=ds.length:=hl
  have dp:=z1l.t (v:=u) hH hb (by rw[Z8,<- lv,hl,VZ];exact x33 (ZP few))
  rw[y5w kk u ks vs (by omega)]at dp
  by_cases hk:y9z ks kk=true
  ·rw[Qj hk]at hh dp
   cases hh
   exact⟨_,_,dp,rfl,(hl.trans (y1h kk d hl).symm),y1r kk rd rs⟩
  ·rw[Qk hk]at hh dp
   cases hh
   refine⟨_,_,dp,rfl,?_,Reps.snoc (F:=[]) (G:=[]) rd rs (fun _ z=>nomatch z)⟩
   show(ks++[kk]).length=_
   rw[Qw,Qw,hl]
   rfl
 | k ks=>
  obtain⟨kk,e,hh⟩:=Qu.mp h
  cases i
  rw[y58 e rx]
  have hl:ks.length=ds.length:=hl
  have dp:=z1l.k (k:=kk) (v:=u) hH (by rw[Z8,<- lv,hl,VZ];exact x33 (ZP few))
  rw[y5w kk u ks vs (by omega)]at dp
  by_cases hk:y9z ks kk=true
  ·rw[Qj hk]at hh dp
   cases hh
   exact⟨_,_,dp,rfl,(hl.trans (y1h kk d hl).symm),y1r kk rd rs⟩
  ·rw[Qk hk]at hh dp
   cases hh
   refine⟨_,_,dp,rfl,?_,Reps.snoc (F:=[]) (G:=[]) rd rs (fun _ z=>nomatch z)⟩
   show(ks++[kk]).length=_
   rw[Qw,Qw,hl]
   rfl
 | i C fs=>cases h
end
theorem z5o(v:OX):z2s v.ho=false:=by cases v<;>rfl
theorem MK.ntb{k:MK}{x:HO}(h:k.Is K vs x):z2s x=false:=by
 obtain⟨v,rfl⟩:=MK.ox h
 exact z5o v
section
variable {K:PySem.W.Frag}{σ:St}{ρ:Rho}{t:Nat}
theorem z4o{H1:Hp}{p:Addr}{w1:Wn}{k:MK}(g:Good K ρ σ H1 w1 t)(hp:H1 p=none)(i:k.Is K vs z)(hl:k.len=ds.length)(r:Reps K H1 w1 .f 0 ds vs []) :
  Good K ρ σ (upd H1 p z) (y5e p (.t t) w1) (t+1)/\Go H1 w1 (upd H1 p z) (y5e p (.t t) w1)/\Rep K (upd H1 p z) (y5e p (.t t) w1) (.t t) 1 (.mp k ds) (.ref p) [p]:=by
 have ne:∀ a x,H1 a=some x->a≠p:=fun a x e=>x0r e hp
 have nw:∀ a o,w1 a=some o->a≠p:=fun a o e=>by obtain⟨vs,q⟩:=g.wl a o e;exact ne a _ q
 have st:x63 H1 w1 (upd H1 p z) (y5e p (.t t) w1):=fun a x e n=>⟨sm (by rw[x0e (ne a x e)];exact e),by rw[x1s (ne a x e)];exact n⟩
 refine⟨⟨⟨fun a o e=>?_,g.wl.tb.upd (MK.ntb i) (.inl hp)⟩,fun a i e=>?_,fun a i e=>?_,g.len,fun i d q e=>?_⟩,⟨st,fun a o e _=>⟨x0e (nw a o e),(x1s (nw a o e)).trans e⟩⟩,?_⟩
 ·by_cases h:a=p
  ·subst h
   obtain⟨v,rfl⟩:=MK.ox i
   exact⟨v,x0y⟩
  ·rw[x1s h]at e
   obtain⟨us,q⟩:=g.wl a o e
   exact⟨us,by rw[x0e h];exact q⟩
 ·by_cases h:a=p
  ·subst h;rw[x2v]at e;cases e
  ·rw[x1s h]at e;exact g.ws a i e
 ·by_cases h:a=p
  ·subst h;rw[x2v]at e;cases e;exact Zv _
  ·rw[x1s h]at e;exact Zr (g.wt a i e)
 ·obtain⟨v,F,h1,h2⟩:=g.slot i d q e
  exact⟨v,F,h1,Rep.go g.wl st h2 fun a m=>⟨x0e (nw a _ (h2.owns a m)),(x1s (nw a _ (h2.owns a m))).trans (h2.owns a m)⟩⟩
 ·exact .mpo x0y i x2v hl (Reps.go g.wl st r (fun _ z=>nomatch z))
theorem Rep.mpAt{k:MK}(r:Rep K H w o q (.mp k ds) v F):∃ a vs z,v=.ref a/\H a=some z/\k.Is K vs z/\k.len=ds.length/\Reps K H w o 0 ds vs []:=by
 cases r with
 | mps h i e l r=>exact⟨_,_,_,rfl,h,i,l,r⟩
 | mpo h i e l r=>exact⟨_,_,_,rfl,h,i,l,r⟩
theorem Good.slotM{k:MK}(g:Good K ρ σ H w t)(e:ρ[i]? = some (some (.mp k ds,q))) :
  ∃ l vs z,σ[i]? = some (some (.ref l))/\H l=some z/\k.Is K vs z/\k.len=ds.length/\Reps K H w .f 0 ds vs []:=by
 obtain⟨v,F,h1,h2⟩:=g.slot i _ _ e
 obtain⟨a,vs,z,rfl,x1,x2,x3,x4⟩:=h2.mpAt
 exact⟨a,vs,z,h1,x1,x2,x3,x4.any g.wl⟩
theorem Good.mutM{k:MK}(g:Good K ρ σ H w t)(e:ρ[i]? = some (some (.mp k ds,1))) :
  ∃ l vs z,σ[i]? = some (some (.ref l))/\H l=some z/\k.Is K vs z/\k.len=ds.length/\Reps K H w .f 0 ds vs []/\∀ k' ds' vs' z',k'.Is K vs' z'->k'.len=ds'.length->Reps K H w .f 0 ds' vs' []->
   Good K (ρ.set i (some (.mp k' ds',1))) σ (upd H l z') w t/\Go H w (upd H l z') w:=by
 obtain⟨v,F,h1,h2⟩:=g.slot i _ _ e
 cases h2 with
 | @mpo _ l vs _ _ z hl his hw hlen rs=>
  refine⟨l,vs,z,h1,hl,his,hlen,rs.any g.wl,fun k' ds' vs' z' i' l' r'=>?_⟩
  have nl:∀ a o,w a=some o->o ≠ .s i->a≠l:=fun a o e n z=>by subst z;rw[hw]at e;exact n (QC e).symm
  have nn:∀ a,w a=none->a≠l:=fun a e z=>by subst z;rw[hw]at e;cases e
  have st:x63 H w (upd H l z') w:=fun a x h n=>⟨sm (by rw[x0e (nn a n)];exact h),n⟩
  refine⟨⟨⟨fun a o h=>?_,g.wl.tb.upd (MK.ntb i') (.inr (g.wl l _ hw))⟩,g.ws,g.wt,by rw[Ze];exact g.len,fun j d' q' e'=>?_⟩,⟨st,fun a o h n=>⟨x0e (nl a o h (n i)),h⟩⟩⟩
  ·by_cases z:a=l
   ·subst z
    obtain⟨v,rfl⟩:=MK.ox i'
    exact⟨v,x0y⟩
   ·obtain⟨us,q⟩:=g.wl a o h
    exact⟨us,by rw[x0e z];exact q⟩
  ·by_cases hj:i=j
   ·subst hj
    rw[QX (QB.mp e).1]at e'
    cases e'
    exact⟨_,_,h1,.mpo x0y i' hw l' (Reps.go g.wl st r' (fun _ z=>nomatch z))⟩
   ·rw[QY hj]at e'
    obtain⟨v',F',h1',h2'⟩:=g.slot j d' q' e'
    exact⟨v',F',h1',Rep.go g.wl st h2' fun a m=>⟨x0e (nl a _ (h2'.owns a m) (fun z=>hj (by cases z;rfl))),h2'.owns a m⟩⟩
end
@[simp] def isDc:Option (OD)->Bool
 | some (some (.mp (.t _) _,_))=>true
 | some (some (.mp (.k _) _,_))=>true
 | _=>false
theorem z6e{o:Option (OD)}(h:isDc o=true):∃ k ds q,o=some (some (.mp k ds,q))/\(∀ C fs,k ≠ .i C fs):=by
 unfold isDc at h
 split at h
 ·exact⟨_,_,_,rfl,fun _ _ z=>nomatch z⟩
 ·exact⟨_,_,_,rfl,fun _ _ z=>nomatch z⟩
 ·cases h
theorem MK.isD{k:MK}(i:k.Is K vs z)(n:∀ C fs,k ≠ .i C fs)(e:H a=some z):L2.IsD H a:=by
 cases k with
 | t ks=>cases i;exact .inr ⟨_,.inl e⟩
 | k ks=>cases i;exact .inl ⟨_,.inl e⟩
 | i C fs=>exact absurd rfl (n C fs)
theorem Good.isDc{ρ:Rho}{t:Nat}(g:Good K ρ σ H w t)(h:isDc ρ[i]? = true):∃ l,σ[i]? = some (some (.ref l))/\L2.IsD H l:=by
 obtain⟨k,ds,q,e,n⟩:=z6e h
 obtain⟨l,vs,z,h1,h2,h3,_,_⟩:=g.slotM e
 exact⟨l,h1,MK.isD h3 n h2⟩
@[simp] def z9a:Den:=fun ρ=>some (.mp (.t []) [],1,ρ)
@[simp] def j0m:Den:=fun ρ=>some (.mp (.k []) [],1,ρ)
def z7y (i:Nat)(fk:Den):Den:=fun ρ=>if isDc ρ[i]? = true then match fk ρ with
 | some (x,_,ρ1)=>match ρ1[i]? with
  | some (some (.mp k ds,_))=>match z3z k ds x with
   | some (some d)=>some (d,y0a d,ρ1)
   | _=>none
  | _=>none
 | none=>none
 else none
def x8h (i:Nat)(fk fz:Den):Den:=fun ρ=>if isDc ρ[i]? = true then match fk ρ with
 | some (x,_,ρ1)=>match fz ρ1 with
  | some (z,_,ρ2)=>match ρ2[i]? with
   | some (some (.mp k ds,_))=>match z3z k ds x with
    | some r=>some (r.getD z,y0a (r.getD z),ρ2)
    | none=>none
   | _=>none
  | none=>none
 | none=>none
 else none
def y3w (i:Nat)(fk fv:Den):x1g:=fun ρ=>match fv ρ with
 | some (d,_,ρ1)=>if isDc ρ1[i]? = true then match fk ρ1 with
  | some (x,_,ρ2)=>match ρ2[i]? with
   | some (some (.mp k ds,1))=>if ds.length<1000 then match z94 k ds x d with
    | some (k',ds')=>some (.nx (ρ2.set i (some (.mp k' ds',1))))
    | none=>none
    else none
   | _=>none
  | none=>none
  else none
 | none=>none
def z54:List (List Key)->Option (List (Nat×Nat))
 | []=>some []
 | [.inl i,.inl j]::ks=>if 0<=i/\0<=j/\j<1000 then(z54 ks).map ((i.toNat,j.toNat) :: ·)else none
 | _=>none
def y3x (i:Nat):Den:=fun ρ=>match ρ[i]? with
 | some (some (.mp (.t ks) ds,_))=>match z54 ks with
  | some kp=>if kp.length<64 then some (.lst ((y6c kp).map prD),1,ρ)else none
  | none=>none
 | _=>none
theorem z5x:∀ {ks:List (List Key)} {kp:List (Nat×Nat)},z54 ks=some kp->ks=kp.map prK/\∀ x∈kp,x.2<1000:=by
 intro ks
 induction ks with
 | nil=>intro kp h;cases h;exact⟨rfl,fun x hx=>nomatch hx⟩
 | cons k ks ih=>
  intro kp h
  unfold z54 at h
  split at h
  ·rename_i h0;cases h0
  ·rename_i i j ks' h0
   cases h0
   split at h
   ·rename_i hb
    obtain⟨kp',e,rfl⟩:=Qu.mp h
    obtain⟨e1,e2⟩:=ih e
    refine⟨?_,fun x hx=>?_⟩
    ·rw[Qx,<- e1]
     have h1:Int.ofNat i.toNat=i:=Jm hb.1
     have h2:Int.ofNat j.toNat=j:=Jm hb.2.1
     show _=[Sum.inl (Int.ofNat i.toNat),Sum.inl (Int.ofNat j.toNat)]::_
     rw[h1,h2]
    ·rcases Qq.mp hx with z|z
     ·rw[z];show j.toNat<1000;omega
     ·exact e2 x z
   ·cases h
  ·cases h
theorem y8i:∀ (kp:List (Nat×Nat)),(∀ x∈kp,x.2<1000)->z54 (kp.map prK)=some kp
 | [],_=>rfl
 | x::kp,h=>by
  have ih:=y8i kp fun y hy=>h y (Qe _ hy)
  have hx:=h x Qf
  show(if 0<=Int.ofNat x.1/\0<=Int.ofNat x.2/\Int.ofNat x.2<1000 then(z54 (kp.map prK)).map _ else none)=_
  rw[Qj ⟨Jv _,Jv _,by show(x.2:Int)<1000;omega⟩,ih]
  rfl
section
variable {X:Cx}{a b c e:Expr}{fa fb fc f:Den}{p p1 pos pos' cpos apos:Pos}{x:Str}{i:Nat}
theorem z1c:QD X (.Dict [] [] pos) z9a:=⟨PE.imp z1n fun σ H Q hh0=>by
 obtain⟨ρ,w,t,r',q,ρ',gd,ee,k⟩:=hh0
 cases ee
 intro p hp
 obtain⟨a1,a2,a3⟩:=z4o (k:=.t []) (vs:=[]) (ds:=[]) gd hp rfl rfl .nil
 exact k _ _ _ _ a1 a2 a3⟩
theorem z1q:QD X (.Dict [] [] pos) j0m:=⟨PE.imp z3p fun σ H Q hh0=>by
 obtain⟨ρ,w,t,r',q,ρ',gd,ee,k⟩:=hh0
 cases ee
 intro p hp
 obtain⟨a1,a2,a3⟩:=z4o (k:=.k []) (vs:=[]) (ds:=[]) gd hp rfl rfl .nil
 exact k _ _ _ _ a1 a2 a3⟩
theorem z93{k:Nat}(hr:Room k X.A)(h:QE X (.Name x p1) (y3s i))(hk:QD X b fb)(hs:j2z b:=by exact fun _ _=>rfl):QD X (.Subscript (.Name x p1) b pos) (z7y i fb):=⟨have h:=h.o;have hk:=hk.o;PE.imp (z4w (z1g hr) h hk hs) fun σ H Q hh0=>by
 obtain⟨ρ,w,t,r',q,ρ',gd,ee,kk⟩:=hh0
 unfold z7y at ee
 split at ee
 ·rename_i hd
  obtain⟨l,hσ,_⟩:=gd.isDc hd
  split at ee
  ·rename_i x0 q1 ρ1 h1
   split at ee
   ·rename_i k0 ds q2 e1
    split at ee
    ·rename_i d hg
     cases ee
     refine⟨_,hσ,ρ,w,t,_,_,_,gd,h1,fun y H1 w1 F1 g1 go1 r1=>?_⟩
     obtain⟨l',vs,z,hσ',hH,his,_,rs⟩:=(g1.drop (t':=t)).slotM e1
     rw[hσ]at hσ'
     cases hσ'
     obtain⟨rv,dg,v1,_⟩:=y9e hH his rs r1 hg
     obtain⟨v,rfl,rd⟩:=v1 _ rfl
     exact⟨l,v,rfl,dg,z19 kk gd g1 go1 (rd.any (g1.drop (t':=t)).wl).dep⟩
    ·cases ee
   ·cases ee
  ·cases ee
 ·cases ee⟩
theorem y60{k:Nat}(hr:Room k X.A)(h:QE X (.Name x p1) (y3s i))(hk:QD X b fb)(hz:QD X c fc)(hbase:attributeBase (.Name x p1) "get" X.env (eval (.Name x p1) X.env)=eval (.Name x p1) X.env:=by rfl)(hfew:((backTo cpos (starEach [b,c] X.env)).all (fun x=>!x.1)&&(backToKw cpos (keywordEach [] X.env)).all (fun x=>x.1.isSome)
   && decide (([b,c]:List Expr).length+([]:List Keyword).length+(if([]:List Keyword).isEmpty then 0 else 1)<30))=true:=by rfl) (hline:(apos.endLine==cpos.line)=true:=by rfl) (htr:backTo cpos (starEach [b,c] X.env)=[(false,eval b X.env),(false,eval c X.env)]:=by rfl):QD X (.Call (.Attribute (.Name x p1) "get" apos) [b,c] [] cpos) (x8h i fb fc):=⟨have h:=h.o;have hk:=hk.o;have hz:=hz.o;PE.imp (y61 (z1g hr) h hk hz ⟨hbase,hfew,hline,htr⟩) fun σ H Q hh0=>by
 obtain⟨ρ,w,t,r',q,ρ',gd,ee,kk⟩:=hh0
 unfold x8h at ee
 split at ee
 ·rename_i hd
  obtain⟨l,hσ,isd⟩:=gd.isDc hd
  split at ee
  ·rename_i x0 q1 ρ1 h1
   split at ee
   ·rename_i z0 q3 ρ2 h2
    split at ee
    ·rename_i k0 ds q2 e1
     split at ee
     ·rename_i r hg
      cases ee
      refine⟨_,hσ,l,rfl,isd,ρ,w,t,_,_,_,gd,h1,fun y H1 w1 F1 g1 go1 r1=>⟨ρ1,w1,t+1,_,_,_,g1,h2,fun zv H2 w2 F2 g2 go2 r2=>?_⟩⟩
      have gg:=g2.drop (t':=t)
      obtain⟨l',vs,z,hσ',hH,his,_,rs⟩:=gg.slotM e1
      rw[hσ]at hσ'
      cases hσ'
      have rx:=r1.gone g1.wl go2
      have rz:=r2.drop (o:=.t t) (t':=t) (by omega)
      obtain⟨rv,dg,v1,v2⟩:=y9e hH his rs rx hg
      refine⟨rv,dg,?_⟩
      cases r with
      | none=>
       rw[v2 rfl]
       exact z19 kk gd g2 (go1.trans go2) rz.dep
      | some d=>
       obtain⟨v,rfl,rd⟩:=v1 d rfl
       exact z19 kk gd g2 (go1.trans go2) (rd.any gg.wl).dep
     ·cases ee
    ·cases ee
   ·cases ee
  ·cases ee
 ·cases ee⟩
theorem y64{k:Nat}(hr:Room k X.A)(h:QE X (.Name x p1) (y3s i))(hk:QD X b fb)(hv:QD X e f)(hs:swapsWith e (some (.Subscript (.Name x p1) b pos')) pos.line X.env=pure false:=by rfl):QDS X (.Assign [.Subscript (.Name x p1) b pos'] e pos) (y3w i fb f):=⟨have h:=h.o;have hk:=hk.o;have hv:=hv.o;PS.imp (z6x (z1g hr) h hk hv hs) fun Dn σ H hh0=>by
 obtain⟨ρ,w,o,gd,ee,kk⟩:=hh0
 unfold y3w at ee
 split at ee
 ·rename_i d q0 ρ1 h0
  split at ee
  ·rename_i hd
   split at ee
   ·rename_i x0 q1 ρ2 h1
    split at ee
    ·rename_i k0 ds e1
     split at ee
     ·rename_i few
      split at ee
      ·rename_i k' ds' hp
       cases ee
       refine⟨ρ,w,0,_,_,_,gd,h0,fun u H1 w1 F1 g1 go1 r1=>?_⟩
       obtain⟨l,hσ,_⟩:=g1.isDc hd
       refine⟨_,hσ,ρ1,w1,1,_,_,_,g1,h1,fun y H2 w2 F2 g2 go2 r2=>?_⟩
       have gg:=g2.drop (t':=0)
       obtain⟨l',vs,z,hσ',hH,his,hl,rs,mk⟩:=gg.mutM e1
       rw[hσ]at hσ'
       cases hσ'
       have rv:=((r1.gone g1.wl go2).drop (o:=.f) (t':=0) (Qi 0))
       obtain⟨z',vs',dp,i',l',rs'⟩:=z7a hH his hl few rs r2 rv hp
       obtain⟨m1,m2⟩:=mk k' ds' vs' z' i' l' rs'
       exact⟨l,_,rfl,dp,kk σ _ _ rfl m1 (((go1.trans go2).drop gd.wt).trans m2)⟩
      ·cases ee
     ·cases ee
    ·cases ee
   ·cases ee
  ·cases ee
 ·cases ee⟩
theorem z33(hc:X.calm=true)(hm:X.mg "sorted" = none)(h:QE X (.Name x p1) (y3s i))(hb2:bootBuiltins "sorted" = some (.builtin "sorted"):=by kernel_rfl)(hg:Gl X "sorted":=by rfl)(hs:starEach [.Name x p1] X.env=(false,eval (.Name x p1) X.env)::starEach [] X.env:=by rfl)(hpl:(backTo pos (starEach [] X.env)).any (·.1)=false:=by rfl):QD X (.Call (.Name "sorted" p) [.Name x p1] [] pos) (y3x i):=⟨have h:=h.o;by
 refine PE.imp (x3i (y6y hc) hg hm hb2 (x3y h x65 hs) (by decide) (by decide) hs hpl) fun σ H Q hh0=>?_
 obtain⟨ρ,w,t,r',q,ρ',gd,ee,k⟩:=hh0
 unfold y3x at ee
 split at ee
 ·rename_i ks ds q1 e1
  split at ee
  ·rename_i kp hp
   split at ee
   ·rename_i h64
    cases ee
    obtain⟨l,vs,z,hσ,hH,his,hl,rs⟩:=gd.slotM e1
    cases his
    obtain⟨ek,h1000⟩:=z5x hp
    refine⟨_,hσ,l,_,kp,rfl,hH,?_,h64,h1000,fun l ks' cs hl pm so tu3=>?_⟩
    ·rw[List.map_fst_zip (by have:ks.length=ds.length:=hl;have:=rs.length;omega)]
     exact ek
    ·have es:=x9t h1000 pm so
     subst es
     obtain⟨a1,a2,a3⟩:=y0k gd hl (j1i tu3)
     exact k _ _ _ _ a1 a2 a3
   ·cases ee
  ·cases ee
 ·cases ee⟩
end
theorem j2w{X:Cx}{pins:List (Addr×Obj)}{H':Hp}{s:Shared}{h':Heap}{t':Nat}(I:Inv X pins σ H s)(k:∀ b u,s.heap.get? b=some u->h'.get? b=some u)(up:∀ b x,H b=some x->H' b=some x)(nw:∀ b,H' b≠H b->s.heap.get? b=none)
  (ok:∀ b x,H' b=some x->H b=none->x1q X.prog X.w H' h' b x):Inv X pins σ H' { s with heap:=h',toks:=t' }:=by
 have un:Un X.fs [] H H' s.heap h':={
  keep:=fun b u q _ _ _=>k b u q
  slot:=fun b u q _ _ _=>⟨u.slots,k b u q⟩
  free:=fun b u q n _=>by
   by_cases e:H' b=H b
   ·rw[e];exact n
   ·rw[nw b e]at q;cases q
  there:=fun b u q _=>⟨u,k b u q⟩
  tups:=fun b xs q=>up b _ q
  frzs:=fun b u xs q=>up b _ q
  tbls:=fun b ps q=>⟨#[],by rw[up b _ q];simp⟩ }
 refine I.un un fun b x e=>?_
 cases q:H b with
 | none=>exact ok b x e q
 | some y=>
  have:=up b y q
  rw[e]at this
  cases this
  exact(I.hok b x q).stay (fun c v _ z=>k c v z) (fun c z=>up c _ z) fun c xs z=>up c _ z
def IV (r d:Addr):Heap->Prop:=fun h=>h.IsItemsView r d
def z87 (td:TE):TE:=fun σ H Q=>td σ H fun x H1=>∃ a kvs,x=.ref a/\H1 a=some (.dK kvs)/\∀ p,H1 p=none->Q (.ref p) (upd H1 p (.ext (IV p a)))
section
variable {X:Cx}{o:Expr}{apos cpos:Pos}{td:TE}
theorem z1k(ho:PE X o td)(hbase:attributeBase o "items" X.env (eval o X.env)=eval o X.env:=by rfl)(hline:(apos.endLine==cpos.line)=true:=by rfl):PE X (.Call (.Attribute o "items" apos) [] [] cpos) (z87 td):=by
 intro pins s σ H Q I h
 refine wpAny_Call_method (T:="dict") (id:="dict.items") hbase rfl hline Vi Vl PySem.F.type_dict_items (thn (ho pins s σ H _ I h) fun u s1 hh0=>?_)
 obtain⟨x,H1,I1,rx,a,kvs,ex,e,q⟩:=hh0
 subst ex
 obtain rfl:u=Value.ref a:=rx
 obtain⟨_,lo,vs,_,hm⟩:=z30 I1.hok e
 refine⟨hm.typeIs,hm.mapOf.noDict,?_⟩
 show wpAny _ _ (callWith cpos (.builtin "dict.items") [.ref a] [] []) _ _ s1
 refine method_meetsIn Vl PySem.F.entry_dict_items rfl (PyProof.Rows.evalArgs_none ⟨rfl,hm.typeIs,PySem.F.args_dict_items_1 _,_,meets_dict_items (x1d X.prog X.w) a lo,⟨vs,hm⟩,?_⟩)
 have g:(s1.heap.push { cls:=.type "dict_items",data:=.fields #[.ref a] }).get? s1.heap.objs.size=some { cls:=.type "dict_items",data:=.fields #[.ref a] }:=Qo _ rfl
 refine⟨.ref s1.heap.objs.size,_,I1.laid (a:=s1.heap.objs.size) (o:=.ext (IV s1.heap.objs.size a)) (t':=s1.toks) (fun _ _ q=>Qb _ q) (Qi _) ⟨⟨_,g,rfl,rfl⟩,⟨_,g⟩,fun h1 h2 x k=>?_⟩,rfl,q _ (I1.hok.fresh (Qi _))⟩
 obtain⟨o,e1,e2⟩:=x
 exact⟨o,k o e1,e2⟩
theorem x97{P:Program}{w:World}{o:HO}(x:x1q P w H h a o):∃ ob,h.get? a=some ob:=by
 cases o with
 | lst xs=>obtain⟨_,_,_,_,e⟩:=x;exact⟨_,e⟩
 | tup xs=>obtain⟨_,_,_,o,e,_⟩:=x;exact⟨_,e⟩
 | dK kvs=>obtain⟨_,_,_,_,o,_,_,e,_⟩:=x;exact⟨_,e⟩
 | dT kvs=>obtain⟨_,_,_,_,o,_,_,e,_⟩:=x;exact⟨_,e⟩
 | set S n=>obtain⟨o,_,_,_,e,_⟩:=x;exact⟨_,e⟩
 | ins C dx fs=>obtain⟨_,_,_,e,_⟩:=x;exact⟨_,e⟩
 | own y=>obtain⟨_,e⟩:=x;exact⟨_,e⟩
 | xd fs=>obtain⟨_,⟨_,_,_,e,_⟩,_⟩:=x;exact⟨_,e⟩
 | rng lo hi=>obtain⟨_,_,_,e⟩:=x;exact⟨_,e⟩
 | frz ob u=>obtain⟨e,_⟩:=x;exact⟨_,e⟩
 | tbl ps=>exact⟨_,show h.get? a=some _ from x⟩
 | met f y=>exact⟨_,show h.get? a=some _ from x⟩
 | ext φ=>obtain⟨_,⟨_,e⟩,_⟩:=x;exact⟨_,e⟩
abbrev kvI (x:Nat×Nat):Key×V:=(.inl (Int.ofNat x.1),.int (Int.ofNat x.2))
theorem z43:∀ {kp:List (Nat×Nat)} {vs:List (Key×Value)},KV (kp.map kvI) vs->vs.length=kp.length/\∀ (i:Nat) (x:Nat×Nat),kp[i]? = some x->∃ t,vs[i]? = some (.inl (Int.ofNat x.1),.int (Int.ofNat x.2) t)
 | [],_,r=>by cases r;exact⟨rfl,fun i x e=>by simp at e⟩
 | y::kp,_,r=>by
  rw[Qx]at r
  cases r with
  | @cons p q ps qs h t=>
   obtain⟨l,ih⟩:=z43 t
   obtain⟨q1,q2⟩:=q
   obtain⟨h1,tt,h2⟩:=h
   dsimp only at h1 h2
   subst h1 h2
   refine⟨by rw[QH,QH,l],fun i x e=>?_⟩
   cases i with
   | zero=>cases e;exact⟨tt,rfl⟩
   | succ i=>exact ih i x e
theorem y7d(hc:X.calm=true):x7b X (.builtin "sorted") (fun xs H Q=>∃ r a kp,xs=[.ref r]/\H r=some (.ext (IV r a))/\H a=some (.dK (kp.map kvI))/\kp.length<64/\(∀ x∈kp,x.2<1000) /\
  ∀ H' p ks cs,(∀ b x,H b=some x->H' b=some x)->(∀ b ps,H' b=some (.tbl ps)->H b=some (.tbl ps))->H' p=none->ks.Perm kp->(∀ i j,i<=j->j<ks.length->rk (ks.getD i (0,0))<=rk (ks.getD j (0,0)))->PrH X.K H' ks cs->Q (.ref p) (upd H' p (.lst (cs.map V.ref)))):=by
 intro pins s σ H xs us Q I r hh
 obtain⟨rr,a,kp,rfl,hr,ha,few,hb,q⟩:=hh
 obtain⟨u,rfl,ru⟩:=x9m r
 cases ru
 obtain⟨hv,_,_⟩:=I.hok _ _ hr
 obtain⟨_,lo,vs,kv,⟨od,es,ep,ho,hrest⟩⟩:=z30 I.hok ha
 have hm:s.heap.DictAt (x1d X.prog X.w) a vs ep:=⟨od,es,ho,hrest⟩
 obtain⟨lv,kvat⟩:=z43 kv
 refine JF kind_sorted plain_sorted entry_sorted (args_sorted1 _) ?_
 unfold Builtin.«sorted»
 refine wpAny_bind (m:=checkCount "sorted" 1 1 _) (Qd (wpAny_bind (kdx_collect (A:=X.A.in1) (knd:=x1d X.prog X.w) (I.ok.hd hc) hv hm (J8 (by rw[lv];omega)) fun h' tk as hk hl hG=>?c1)))
 case c1=>
 have hlr:(as.map Value.ref).length=kp.length:=by rw[Qc,hl,lv]
 have tupAt:∀ (i:Nat) (x:Nat×Nat),kp[i]? = some x->∃ b t1 t2,as[i]? = some b/\h'.get? b=some { cls:=.type "tuple",data:=.seq #[.int (Int.ofNat x.1) t1,.int (Int.ofNat x.2) t2] }:=fun i x e=>by
  have hi:=(QB.mp e).1
  have ea:as[i]? = some (as[i]'(by rw[hl,lv];exact hi)):=Qa _
  obtain⟨key,k,y,e1,e2,e3⟩:=hG.pairs i _ ea
  obtain⟨t2,e4⟩:=kvat i x e
  rw[e4]at e1
  cases e1
  rw[y7g]at e2
  rcases L2.x1u e2 with⟨j,t1,z1,z2⟩|⟨j,t1,z1,z2⟩
  ·cases z1
   subst z2
   exact⟨_,t1,t2,ea,e3⟩
  ·cases z1
 have T0:x4d X.prog X.w h' (as.map Value.ref) kp:=⟨hlr,fun i x e=>by
  obtain⟨b,t1,t2,e1,e2⟩:=tupAt i x e
  exact⟨b,by rw[Ql,e1];rfl,_,_,_,e2,rfl,rfl,.cons (intKind_is _ _ _ _) (.cons (intKind_is _ _ _ _) .nil)⟩⟩
 refine wpAny_bind (Vc ?c2 (by rw[hlr];exact J8 (by omega)))
 case c2=>
 have T1:x4d X.prog X.w (h'.push (seqObj "list" (as.map Value.ref).toArray 0)) (as.map Value.ref) kp:=T0.keep fun b o q _=>Qb _ q
 have oL:(h'.push (seqObj "list" (as.map Value.ref).toArray 0)).get? h'.objs.size=some (seqObj "list" (as.map Value.ref).toArray 0):=Qo _ rfl
 refine wpAny_bind (Za (Q1 slot_list_sort ⟨_,oL,rfl⟩ entry_list_sort (y1t (s:={ s with heap:=h'.push (seqObj "list" (as.map Value.ref).toArray 0),toks:=tk }) oL T1 hb (by rw[hlr];exact few) fun out ks' o1 om o2 o3=>⟨_,rfl,?c3⟩) (args_list_sort _)))
 case c3=>
 refine Qd ⟨_,rfl,?c4⟩
 case c4=>
 have up:∀ (G:Heap) (f:Array Value->Array Value),(∀ b o,h'.get? b=some o->G.get? b=some o)->∀ b o,h'.get? b=some o->(G.update h'.objs.size (Obj.mapSeq f)).get? b=some o:=
  fun G f q b o e=>(ZF _ _ (YA (Qm e))).trans (q b o e)
 unfold sortedHeap
 have g1:=Z9 oL (fun _=>(#[]:Array Value))
 have g4:=Z9 (Qb (seqObj "list" #[] 0) (Qb (seqObj "tuple" (as.map Value.ref).toArray 0) g1)) (fun _=>out.toArray)
 have hk2:∀ b o,h'.get? b=some o->_:=up _ (fun _=>out.toArray) fun b o e=>Qb (seqObj "list" #[] 0) (Qb (seqObj "tuple" (as.map Value.ref).toArray 0) (up _ (fun _=>(#[]:Array Value)) (fun b o e=>Qb (seqObj "list" (as.map Value.ref).toArray 0) e) b o e))
 obtain⟨cs,rfl⟩:∃ cs:List Addr,out=cs.map Value.ref:=by
  have:∀ (l:List Value),(∀ v∈l,v∈as.map Value.ref)->∃ cs:List Addr,l=cs.map Value.ref:=by
   intro l
   induction l with
   | nil=>intro _;exact⟨[],rfl⟩
   | cons v l ih=>
    intro h
    obtain⟨cs,e⟩:=ih fun w hw=>h w (Qe _ hw)
    obtain⟨b,_,rfl⟩:=Qp.mp (h v Qf)
    exact⟨b::cs,by rw[e];rfl⟩
  exact this out om
 have lc:cs.length=ks'.length:=by have:=o1.1;rwa [Qc]at this
 -- the new tuples
 let fnd:Addr->Option (Nat×Nat):=fun b=>((as.zip kp).find? fun y=>decide (y.1=b)).map (·.2)
 let Hn:Hp:=fun b=>match fnd b with
  | some x=>some (.tup [.int (Int.ofNat x.1),.int (Int.ofNat x.2)])
  | none=>H b
 have fS:∀ b x,fnd b=some x->∃ i,as[i]? = some b/\kp[i]? = some x:=fun b x e=>by
  obtain⟨y,e1,rfl⟩:=Qu.mp e
  have m:=List.mem_of_find?_eq_some e1
  have hy:=List.find?_some e1
  have hy:y.1=b:=QR hy
  obtain⟨i,hi,e2⟩:=Q8 m
  refine⟨i,?_,?_⟩
  ·rw[<- hy,<- e2]
   rw[Vm]
   exact Qa _
  ·rw[<- e2,Vm]
   exact Qa _
 have fN:∀ b,b∈as->∃ x,fnd b=some x:=fun b m=>by
  obtain⟨i,hi,e⟩:=Q8 m
  have hz:i<(as.zip kp).length:=by rw[Z8,hl,lv];rw[hl,lv]at hi;omega
  cases q:fnd b with
  | some x=>exact⟨x,rfl⟩
  | none=>
   have q':(as.zip kp).find? (fun y=>decide (y.1=b))=none:=Option.map_eq_none_iff.mp q
   have:=List.find?_eq_none.mp q' _ (Zc hz)
   rw[Vm]at this
   exact absurd (Qs e) this
 have big:∀ b,b∈as->s.heap.objs.size<b/\∃ o,h'.get? b=some o:=fun b m=>by
  refine⟨hG.above b m,?_⟩
  obtain⟨i,hi,e⟩:=Q8 m
  obtain⟨_,_,_,_,_,e3⟩:=hG.pairs i b (by rw[Qa hi,e])
  exact⟨_,e3⟩
 have fA:∀ b x,fnd b=some x->b∈as:=fun b x e=>by
  obtain⟨i,e1,_⟩:=fS b x e
  exact Qy e1
 have Hup:∀ b x,H b=some x->Hn b=some x:=fun b x e=>by
  have:fnd b=none:=by
   cases z:fnd b with
   | none=>rfl
   | some y=>
    have:=(big b (fA b y z)).1
    exact absurd ((I.hok b x e).lt) (Nat.not_lt.mpr (ZP this))
  show(match fnd b with|some x=>_|none=>H b)=_
  rw[this]
  exact e
 have Hnew:∀ b x,Hn b=some x->H b=some x\/∃ y,fnd b=some y/\x=.tup [.int (Int.ofNat y.1),.int (Int.ofNat y.2)]:=fun b x e=>by
  cases z:fnd b with
  | none=>
   have e':(match fnd b with|some x=>some (HO.tup [.int (Int.ofNat x.1),.int (Int.ofNat x.2)])|none=>H b)=some x:=e
   rw[z]at e'
   exact .inl e'
  | some y=>
   have e':(match fnd b with|some x=>some (HO.tup [.int (Int.ofNat x.1),.int (Int.ofNat x.2)])|none=>H b)=some x:=e
   rw[z]at e'
   cases e'
   exact .inr ⟨y,rfl,rfl⟩
 have hp:s.heap.get? h'.objs.size=none:=by
  cases z:s.heap.get? h'.objs.size with
  | none=>rfl
  | some o=>exact absurd (Qm (hk _ o z)) (QL _)
 have pas:h'.objs.size ∉ as:=fun m=>by
  obtain⟨o,e⟩:=(big _ m).2
  exact absurd (Qm e) (QL _)
 have Hp0:H h'.objs.size=none:=by
  cases z:H h'.objs.size with
  | none=>rfl
  | some x=>
   obtain⟨o,e⟩:=x97 (I.hok _ x z)
   rw[hp]at e;cases e
 have Hnp:Hn h'.objs.size=none:=by
  cases z:Hn h'.objs.size with
  | none=>rfl
  | some x=>
   rcases Hnew _ x z with y|⟨y,y1,_⟩
   ·rw[Hp0]at y;cases y
   ·exact absurd (fA _ _ y1) pas
 have as0:∀ b,b∈as->H b=none/\s.heap.get? b=none:=fun b m=>by
  have e0:s.heap.get? b=none:=by
   cases z:s.heap.get? b with
   | none=>rfl
   | some o=>exact absurd (J0 (Qm z) (big b m).1) (QL _)
  refine⟨?_,e0⟩
  cases z:H b with
  | none=>rfl
  | some x=>
   obtain⟨o,e⟩:=x97 (I.hok _ x z)
   rw[e0]at e;cases e
 refine⟨.ref h'.objs.size,upd Hn h'.objs.size (.lst (cs.map V.ref)),j2w (s:=s) (t':=tk) I (fun b u e=>hk2 b u (hk b u e)) (fun b x e=>?_) (fun b e=>?_) (fun b x e n=>?_),rfl,q Hn _ ks' cs Hup (fun b ps e=>?_) Hnp o2 o3 ⟨lc.symm,fun i x b x1 x2=>?_⟩⟩
 ·rw[x0e (x0r e Hp0)]
  exact Hup b x e
 ·by_cases hb':b=h'.objs.size
  ·rw[hb'];exact hp
  ·rw[x0e hb']at e
   cases z:fnd b with
   | none=>
    have:Hn b=H b:=by
     show(match fnd b with|some x=>_|none=>H b)=_
     rw[z]
    exact absurd this e
   | some y=>exact(as0 b (fA b y z)).2
 ·by_cases hb':b=h'.objs.size
  ·subst hb'
   rw[x0y]at e
   cases e
   exact⟨J8 (by rw[Qc,lc,o2.length_eq];omega),cs.map Value.ref,_,x6p cs,g4⟩
  ·rw[x0e hb']at e
   rcases Hnew b x e with y|⟨y,y1,rfl⟩
   ·rw[n]at y;cases y
   ·obtain⟨i,z1,z2⟩:=fS b y y1
    obtain⟨b',t1,t2,e1,e2⟩:=tupAt i y z2
    rw[z1]at e1
    cases e1
    exact⟨J8 (by show 2<=_;decide),[.int (Int.ofNat y.1) t1,.int (Int.ofNat y.2) t2],.cons ⟨t1,rfl⟩ (.cons ⟨t2,rfl⟩ .nil),_,hk2 _ _ e2,rfl,⟨_,rfl⟩,rfl⟩
 ·rcases Hnew b _ e with y|⟨y,_,y2⟩
  ·exact y
  ·cases y2
 ·obtain⟨a',y1,y2⟩:=o1.2 i x x1
  rw[Ql,x2]at y1
  cases y1
  have mb:b∈as:=by
   obtain⟨b',hb',e⟩:=Qp.mp (om (.ref b) (Qp.mpr ⟨b,Qy x2,rfl⟩))
   cases e
   exact hb'
  obtain⟨y,hy⟩:=fN b mb
  obtain⟨j,z1,z2⟩:=fS b y hy
  obtain⟨b',z3,z4⟩:=T1.2 j y z2
  rw[Ql,z1]at z3
  cases z3
  have:=y4z (z4.inj y2)
  subst this
  show(match fnd b with|some x=>_|none=>H b)=_
  rw[hy]
end
def z47:List Key->List D->Option (List (Nat×Nat))
 | [],[]=>some []
 | .inl i::ks,.int j::ds=>if 0<=i/\0<=j/\j<1000 then(z47 ks ds).map ((i.toNat,j.toNat) :: ·)else none
 | _,_=>none
theorem z5v:∀ {ks:List Key} {ds:List D} {kp:List (Nat×Nat)} {vs:List V},z47 ks ds=some kp->Reps K H w o 0 ds vs []->ks.zip vs=kp.map kvI/\∀ x∈kp,x.2<1000:=by
 intro ks
 induction ks with
 | nil=>
  intro ds kp vs h r
  cases ds with
  | nil=>cases h;exact⟨rfl,fun x hx=>nomatch hx⟩
  | cons _ _=>cases h
 | cons k ks ih=>
  intro ds kp vs h r
  unfold z47 at h
  split at h
  ·rename_i h0;cases h0
  ·rename_i i ks' j ds' h0
   cases h0
   split at h
   ·rename_i hb
    obtain⟨kp',e,rfl⟩:=Qu.mp h
    obtain⟨v,us,rfl,r1,s⟩:=r.split
    obtain⟨e1,e2⟩:=ih e s
    have hv:v=.int j:=by cases r1;rfl
    subst hv
    refine⟨?_,fun x hx=>?_⟩
    ·rw[Qx,<- e1]
     have h1:Int.ofNat i.toNat=i:=Jm hb.1
     have h2:Int.ofNat j.toNat=j:=Jm hb.2.1
     show _=(Sum.inl (Int.ofNat i.toNat),V.int (Int.ofNat j.toNat))::_
     rw[h1,h2]
     rfl
    ·rcases Qq.mp hx with z|z
     ·rw[z];show j.toNat<1000;omega
     ·exact e2 x z
   ·cases h
  ·cases h
theorem y93:∀ (kp:List (Nat×Nat)),(∀ x∈kp,x.2<1000)->z47 (kp.map fun x=>.inl (Int.ofNat x.1)) (kp.map fun x=>.int (Int.ofNat x.2))=some kp
 | [],_=>rfl
 | x::kp,h=>by
  have ih:=y93 kp fun y hy=>h y (Qe _ hy)
  have hx:=h x Qf
  show(if 0<=Int.ofNat x.1/\0<=Int.ofNat x.2/\Int.ofNat x.2<1000 then(z47 (kp.map fun x=>.inl (Int.ofNat x.1)) (kp.map fun x=>.int (Int.ofNat x.2))).map _ else none)=_
  rw[Qj ⟨Jv _,Jv _,by show(x.2:Int)<1000;omega⟩,ih]
  rfl
def x5v (i:Nat):Den:=fun ρ=>match ρ[i]? with
 | some (some (.mp (.k ks) ds,_))=>match z47 ks ds with
  | some kp=>if kp.length<64 then some (.lst ((y6c kp).map prD),1,ρ)else none
  | none=>none
 | _=>none
section
variable {X:Cx}{p p1 pos apos cpos:Pos}{x:Str}{i:Nat}
theorem y32(hc:X.calm=true)(hm:X.mg "sorted" = none)(h:QE X (.Name x p1) (y3s i))(hb2:bootBuiltins "sorted" = some (.builtin "sorted"):=by kernel_rfl)(hg:Gl X "sorted":=by rfl)(hbase:attributeBase (.Name x p1) "items" X.env (eval (.Name x p1) X.env)=eval (.Name x p1) X.env:=by rfl)(hline:(apos.endLine==cpos.line)=true:=by rfl)(hs:starEach [.Call (.Attribute (.Name x p1) "items" apos) [] [] cpos] X.env=(false,eval (.Call (.Attribute (.Name x p1) "items" apos) [] [] cpos) X.env)::starEach [] X.env:=by rfl)(hpl:(backTo pos (starEach [] X.env)).any (·.1)=false:=by rfl):QD X (.Call (.Name "sorted" p) [.Call (.Attribute (.Name x p1) "items" apos) [] [] cpos] [] pos) (x5v i):=⟨have h:=h.o;by
 refine PE.imp (x3i (y7d hc) hg hm hb2 (x3y (z1k h hbase hline) x65 hs) (by decide) (by decide) hs hpl) fun σ H Q hh0=>?_
 obtain⟨ρ,w,t,r',q,ρ',gd,ee,k⟩:=hh0
 unfold x5v at ee
 split at ee
 ·rename_i ks ds q1 e1
  split at ee
  ·rename_i kp hp
   split at ee
   ·rename_i h64
    cases ee
    obtain⟨l,vs,z,hσ,hH,his,hl,rs⟩:=gd.slotM e1
    cases his
    obtain⟨ek,h1000⟩:=z5v hp rs
    rw[ek]at hH
    refine⟨_,hσ,l,_,rfl,hH,fun r hr=>⟨r,l,kp,rfl,x0y,by rw[x0e (x0r hH hr)];exact hH,h64,h1000,fun H' p ks' cs up tb hp pm so tu3=>?_⟩⟩
    have es:=x9t h1000 pm so
    subst es
    have mo:Mo X.K H H':=⟨fun a x e=>up a x (by rw[x0e (x0r e hr)];exact e),fun t=>?_⟩
    ·obtain⟨g1,go1⟩:=gd.more mo
     obtain⟨a1,a2,a3⟩:=y0k g1 hp (j1i tu3)
     exact k _ _ _ _ a1 (go1.trans a2) a3
    ·have bk:∀ P ps,H' P=some (.tbl ps)->H P=some (.tbl ps):=fun P ps e=>by
      have:=tb P ps e
      by_cases hP:P=r
      ·subst hP;rw[x0y]at this;cases this
      ·rw[x0e hP]at this;exact this
     have fw:∀ a x,H a=some x->H' a=some x:=fun a x e=>up a x (by rw[x0e (x0r e hr)];exact e)
     refine⟨fun P ps e=>t.tr P ps (bk P ps e),fun P ps e pos cv hc=>?_,fun x hx c P hP=>?_⟩
     ·obtain⟨c,oc,u,vs,q,tt,h1,h2,h3⟩:=t.cd P ps (bk P ps e) pos cv hc
      exact⟨c,oc,u,vs,q,tt,h1,fw _ _ h2,h3⟩
     ·obtain⟨ps,e⟩:=t.is x hx c P hP
      exact⟨ps,fw _ _ e⟩
   ·cases ee
  ·cases ee
 ·cases ee⟩
end
end L3
namespace L3
open PySem PySem.Spec PyProof.Rows L2
variable {K:PySem.W.Frag}{N ps:List Str}{P:Program}{X:Cx}{base:Heap}{body:x1g}{mg:Str->Option Value}{st:Stmt}{w:World}{x:Str}
theorem qv(i:Nat){pos:Pos}(hN:X.N[i]? = some x:=by rfl)(hv:Vis X.env.scope x:=by first|exact Or.inl rfl|exact Or.inr (Or.inl rfl)|exact Or.inr (Or.inr rfl))(hd:(x==("__debug__":Str))=false:=by decide)(hcd:(x==("__classdict__":Str))=false:=by decide):QE X (.Name x pos) (y3s i):=⟨pv i hN hv hd hcd⟩
theorem z9x{e:Expr}{f:x4x}(h:QDW X e f):QDT X e f:=⟨PW.pt h.o⟩
theorem Cal.mkQ{k:Nat}(a:At K mg x st ps)(S:FnScope N ps (x0c st))
  (h:∀ (f:Addr) (cdv:Value) (A:Around) (outer:List Env) (s:Shared) (H:Hp) (E:XK),Room k (A.deeper (envOfC x (x0c st) s.heap.objs.size f cdv))->QDSs (y7u CX0 P w K mg base N x (x0c st) f cdv A outer s H E).nox (x2x st) body) :
  Cal P w K mg base (k+1) x ps.length (fnD N.length body):=Cal.mk a S fun f cdv A outer s H E hr=>(h f cdv A outer s H E hr).o
theorem z66{k:Nat}{f:Addr}{fd:FuncData}(F:Fun K x x st f fd)(S:FnScope N ps (x0c st))
  (h:∀ (f:Addr) (cdv:Value) (A:Around) (outer:List Env) (s:Shared) (H:Hp) (E:XK),Room k (A.deeper (envOfC x (x0c st) s.heap.objs.size f cdv))->QDSs (y7u CX0 P w K mg base N x (x0c st) f cdv A outer s H E).nox (x2x st) body) :
  FnOk P w K mg base CX0 (k+1) f fd ps (spD K ps.length (fnD N.length body)):=j01 F S fun f cdv A outer s H E hr=>(h f cdv A outer s H E hr).o
end L3
namespace L3
open PySem PySem.Spec PyProof.Rows PySem.W L2
variable {K:PySem.W.Frag}{q:Program}{x:Str}
theorem j15(a:nsIn K mainGlobals x=some none):tabIn K x=none:=by unfold tabIn;rw[a]
def x5l (K:PySem.W.Frag)(b:Addr):Bool:=x9q.any fun x=>match tabIn K x with
 | some (_,P)=>P==b
 | none=>false
theorem z2v{b:Addr}(h:x5l K b=true):∃ x∈x9q,∃ c,tabIn K x=some (c,b):=by
 obtain⟨x,hx,e⟩:=Yk.mp h
 split at e
 ·rename_i c P hP
  rw[eq_of_beq e]at hP
  exact⟨x,hx,c,hP⟩
 ·cases e
theorem z2l{c P:Addr}(hx:x∈x9q)(e:tabIn K x=some (c,P)):x5l K P=true:=
 Yk.mpr ⟨x,hx,by rw[e];exact Z0 P⟩
theorem y9d{P:Program}{w:World}{mg mb:Str->Option Value}{CX:CXT}{k:Nat}{fa a:Addr}{fd:FuncData}{sp:Sp}{s₁:Shared}{vs:List Value}{ns:List Int}
  (KX:K.In s₁.heap) (hns:s₁.heap.Ns mainGlobals mg) (hb:s₁.heap.Ns builtinsNs mb) (hbb:∀ x:Str,x ≠ "__name__"->mb x=bootBuiltins x) (hlim:s₁.heap.NoLimit) (hg:s₁.gens = #[])
  (hbm:∃ bm o,mg "__builtins__" = some (.ref bm)/\bm≠builtinsNs/\s₁.heap.get? bm=some o/\o.cls=.type "module" /\ o.dict=some builtinsNs/\o.data=.plain)
  (hT:∀ x∈x9q,∀ c Pt,tabIn K x=some (c,Pt)->CodeHd s₁.heap c Pt/\s₁.heap.get? Pt=some (tabObj #[])) (hnt:noTabs K=true)
  (ha:s₁.heap.get? a=some { cls:=.type "list",data:=.seq vs.toArray }) (hi:IntsAre vs ns) (hl:ns.length<=sizeLine) (hr:Room k callerA)
  (F:∀ base:Heap,K.In base->base.Ns mainGlobals mg->Lm K mg base->FnOk P w K mg base CX k fa fd [x] sp) (hbind:∀ (s:Shared) (u:Value),BindsTo s fd ⟨[u],[]⟩ [(x,u)])
  (hsp:∀ H:Hp,TB K H->SqL K H a (ns.map V.int)->sp [.ref a] H (fun v _=>v=.bl true) fun _ _ _=>False)
  (hCX:∀ H e s',CX [] H s₁ (fun _ _ _=>False) e s'->False) :
  codeAny (model P w) callerA (.call (.ref fa) ⟨[.ref a],[]⟩) (fun r s'=>r=.ok (.ret (.bool true))/\OldK s₁.heap s'.heap/\s'.os=s₁.os/\AllBare s'.gens) s₁:=by
 have rv:=x7d hi
 have lenV:=hi.length
 have tabO:∀ b,x5l K b=true->(∃ c,CodeHd s₁.heap c b)/\s₁.heap.get? b=some (tabObj #[]):=fun b h=>by
  obtain⟨x,hx,c,e⟩:=z2v h
  obtain⟨h1,h2⟩:=hT x hx c b e
  exact⟨⟨c,h1⟩,h2⟩
 have core:∀ H:Hp,(∀ b,H b=none\/(b=a/\∃ o xs,H b=some (.frz o (.lst xs)))\/(x5l K b=true/\H b=some (.tbl #[])))->(∀ b,x5l K b=true->H b=some (.tbl #[]))->SqL K H a (ns.map V.int)->HOk P w H s₁.heap->(∀ o xs,H a=some (.frz o (.lst xs))->K.lookup a=none)->
   codeAny (model P w) callerA (.call (.ref fa) ⟨[.ref a],[]⟩) (fun r s'=>r=.ok (.ret (.bool true))/\OldK s₁.heap s'.heap/\s'.os=s₁.os/\AllBare s'.gens) s₁:=by
  intro H hO hO2 hS hok hK
  have base_of:∀ {b:Addr} {o:Obj},s₁.heap.get? b=some o->H b=none->(z16 s₁.heap H).get? b=some o:=fun e n=>z23 e n
  have noA:∀ {b:Addr} {o:Obj},s₁.heap.get? b=some o->o.cls ≠ .type "list"->o.cls ≠ .none->H b=none:=fun {b o} e d1 d2=>by
   rcases hO b with z|⟨z,_⟩|⟨z,_⟩
   ·exact z
   ·subst z;rw[ha]at e;cases e;exact absurd rfl d1
   ·rw[(tabO b z).2]at e;cases e;exact absurd rfl d2
  have noD:∀ {b:Addr} {o:Obj} {es:Array DictEntry} {ep:Nat},s₁.heap.get? b=some o->o.data=.dict es ep->H b=none:=fun {b o es ep} e d=>by
   rcases hO b with z|⟨z,_⟩|⟨z,_⟩
   ·exact z
   ·subst z;rw[ha]at e;cases e;exact nomatch (show Data.seq vs.toArray _=Data.dict es ep from d)
   ·rw[(tabO b z).2]at e;cases e;exact nomatch (show Data.fields _=Data.dict es ep from d)
  have nsK:∀ {b:Addr} {m:Str->Option Value},s₁.heap.Ns b m->(z16 s₁.heap H).Ns b m:=fun {b m} hh=>by
   obtain⟨o,es,ep,e,d,r⟩:=hh
   exact⟨o,es,ep,base_of e (noD e d),d,r⟩
  have hKb:K.In (z16 s₁.heap H):=fun b o e=>base_of (KX b o e) (by
   rcases hO b with z|⟨z,o',xs,z2⟩|⟨z,_⟩
   ·exact z
   ·subst z;rw[hK _ _ z2]at e;cases e
   ·have e2:=KX b o e
    rw[(tabO b z).2]at e2
    cases e2
    have h2:=JB.mp hnt (b,tabObj #[]) (mem_of_lookupK e)
    exact absurd (show false=true from h2) Zp)
  have hM:Mod K mg (z16 s₁.heap H):=by
   obtain⟨mc,h1,h2⟩:=hlim
   exact⟨hKb,nsK hns,⟨mb,nsK hb,hbb⟩,⟨mc,nsK h1,h2⟩⟩
  have hL:Lm K mg (z16 s₁.heap H):=by
   refine⟨?_,fun x hx c Pt e=>?_⟩
   ·obtain⟨bm,o,h1,h2,h3,h4,h5⟩:=hbm
    exact⟨bm,o,h1,h2,base_of h3 (noA h3 (by rw[h4];decide) (by rw[h4];nofun)),h4,h5⟩
   ·obtain⟨o,v1,v2,v3,v4,v5,v6,v7,v8,e1,e2,r⟩:=(hT x hx c Pt e).1
    exact⟨o,v1,v2,v3,v4,v5,v6,v7,v8,base_of e1 (noA e1 (by rw[e2];decide) (by rw[e2];nofun)),e2,r⟩
  have tb:TB K H:=by
   refine⟨fun Q ps e=>?_,fun Q ps e pos cv hc=>?_,fun x hx c Pt e=>⟨_,hO2 Pt (z2l hx e)⟩⟩<;>rcases hO Q with z|⟨_,o',xs,z⟩|⟨_,z⟩<;>rw[e]at z<;>cases z
   ·exact True.intro
   ·cases hc
  have e0:Env0 P w K mg (z16 s₁.heap H) callerA [] s₁ H:=⟨rfl,hM,fun b o e=>z6r e,Nat.le_of_eq (y9o _ _),trivial,fun b hb=>absurd (show b∈([]:List Addr)from hb) (by simp),hok,.of_eq hg⟩
  refine JX ((F _ hKb (nsK hns) hL).run callerA [] s₁ H ⟨[.ref a],[]⟩ [.ref a] [.ref a] _ _ hr e0 (hbind s₁ (.ref a)) (.cons rfl .nil) (hsp H tb hS)) fun r s' h=>?_
  cases r with
  | error e=>exact(hCX H e s' h).elim
  | ok fl=>
   cases fl with
   | next=>exact False.elim h
   | brk=>exact False.elim h
   | cont=>exact False.elim h
   | ret u=>
    obtain⟨v,H',os,bare,un,hok',r',q⟩:=h
    have q':v=.bl true:=q
    subst q'
    obtain rfl:u=Value.bool true:=r'
    have kp:∀ b o,s₁.heap.get? b=some o->x5l K b=false->s'.heap.get? b=some o:=fun b o e nt=>by
     rcases hO b with z|⟨_,ob,xs,z⟩|⟨z,_⟩
     ·exact un.keep b o e z (by intro z;exact absurd (show b∈([]:List Addr)from z) (by simp)) (by simp)
     ·have z2:=un.frzs b ob _ z
      obtain⟨e1,_⟩:=hok b _ z
      obtain⟨e2,_⟩:=hok' b _ z2
      rw[e]at e1;cases e1
      exact e2
     ·rw[z]at nt;cases nt
    have gr:∀ b,x5l K b=true->∃ ps,s'.heap.get? b=some (tabObj ps):=fun b t=>by
     obtain⟨more,z⟩:=un.tbls b _ (hO2 b t)
     exact⟨_,hok' b _ z⟩
    refine⟨rfl,⟨fun b o e=>?_,fun b o e=>?_⟩,os,bare⟩
    ·cases t:x5l K b with
     | false=>exact .inl (kp b o e t)
     | true=>
      obtain⟨⟨c,C⟩,e1⟩:=tabO b t
      obtain⟨ps,e2⟩:=gr b t
      rw[e]at e1;cases e1
      exact .inr (.inl ⟨(C.tab e).isCodeTable,rfl,#[],ps,rfl,by rw[Array.empty_append];exact e2⟩)
    ·cases t:x5l K b with
     | false=>exact⟨o,kp b o e t⟩
     | true=>obtain⟨ps,e2⟩:=gr b t;exact⟨_,e2⟩
 have aT:x5l K a=false:=by
  cases t:x5l K a with
  | false=>rfl
  | true=>
   have:=(tabO a t).2
   rw[ha]at this;cases this
 cases hk:K.lookup a with
 | some o=>
  have e:=KX a o hk
  rw[ha]at e
  cases e
  refine core (fun b=>if x5l K b=true then some (.tbl #[])else none) (fun b=>?_) (fun b h=>Qj h) (.inr ⟨_,vs.toArray,_,hk,rfl,rfl,rfl,by rw[Qn,lenV];exact hl,by simpa using rv⟩) (fun b u z=>?_) fun o xs z=>?_
  ·by_cases hb:x5l K b=true
   ·exact .inr (.inr ⟨hb,Qj hb⟩)
   ·exact .inl (Qk hb)
  ·by_cases hb:x5l K b=true
   ·have z':=(Qj hb).symm.trans z
    cases z'
    exact(tabO b hb).2
   ·have z':=(Qk hb).symm.trans z
    cases z'
  ·have z':=(Qk (by rw[aT];decide)).symm.trans z
   cases z'
 | none=>
  refine core (fun b=>if b=a then some (.frz { cls:=.type "list",data:=.seq vs.toArray } (.lst (ns.map V.int)))else if x5l K b=true then some (.tbl #[])else none) (fun b=>?_) (fun b h=>?_) (.inl (.inr ⟨{ cls:=.type "list",data:=.seq vs.toArray },Qj rfl⟩)) (fun b u z=>?_) fun _ _ _=>hk
  ·by_cases hb:b=a
   ·exact .inr (.inl ⟨hb,_,_,Qj hb⟩)
   ·by_cases ht:x5l K b=true
    ·exact .inr (.inr ⟨ht,(Qk hb).trans (Qj ht)⟩)
    ·exact .inl ((Qk hb).trans (Qk ht))
  ·have hb:b≠a:=fun z=>by rw[z,aT]at h;cases h
   exact(Qk hb).trans (Qj h)
  ·by_cases hb:b=a
   ·have z':=(Qj hb).symm.trans z
    cases z'
    subst hb
    exact⟨ha,by rw[Qc];exact hl,vs,_,rv,ha⟩
   ·by_cases ht:x5l K b=true
    ·have z':=((Qk hb).trans (Qj ht)).symm.trans z
     cases z'
     exact(tabO b ht).2
    ·have z':=((Qk hb).trans (Qk ht)).symm.trans z
     cases z'
def j1c (q:Program)(K:PySem.W.Frag):Prop:=∀ x∈x9q,(∃ d,(recsOf q).find? (fun e=>e.name==x)=some d)\/tabIn K x=none
theorem j1c.of(h1:(∃ d,(recsOf q).find? (fun e=>e.name==("turned":Str))=some d)\/tabIn K "turned" = none)(h2:(∃ d,(recsOf q).find? (fun e=>e.name==("chain_ladder":Str))=some d)\/tabIn K "chain_ladder" = none)
  (h3:(∃ d,(recsOf q).find? (fun e=>e.name==("flat_ladder":Str))=some d)\/tabIn K "flat_ladder" = none) (h4:(∃ d,(recsOf q).find? (fun e=>e.name==("paired":Str))=some d)\/tabIn K "paired" = none) (h5:(∃ d,(recsOf q).find? (fun e=>e.name==("height_of":Str))=some d)\/tabIn K "height_of" = none) (h6:(∃ d,(recsOf q).find? (fun e=>e.name==("_law_high":Str))=some d)\/tabIn K "_law_high" = none):j1c q K:=fun x hx=>by
 rcases Qq.mp hx with rfl|hx
 ·exact h1
 rcases Qq.mp hx with rfl|hx
 ·exact h2
 rcases Qq.mp hx with rfl|hx
 ·exact h3
 rcases Qq.mp hx with rfl|hx
 ·exact h4
 rcases Qq.mp hx with rfl|hx
 ·exact h5
 rcases Qq.mp hx with rfl|hx
 ·exact h6
 cases hx
theorem z3h{l:PySem.W.OpenLaw}{n k:Nat}{loose:List Str}{XP:(Str->Option Value)->Heap->Prop}{YP:World->Heap->Prop}{d:DefRec}{K:Params->PySem.W.Frag}{CX:World->CXT}{sp:World->Sp}
  (hn:l.most=some n) (hn2:n<=sizeLine) (hdf:d.params.defaults=[]) (hr:Room k callerA)
  (hY:∀ (w:World) (h:Heap),YP w h->(K w.params).In h)
  (F:∀ (w:World) (mg:Str->Option Value) (fa:Addr) (h:Heap),(K w.params).In h->h.Ns mainGlobals mg->mg d.name=some (.ref fa)->j1c q (K w.params)/\noTabs (K w.params)=true /\
    ∃ fd:FuncData,(∀ (s:Shared) (u:Value),BindsTo s fd ⟨[u],[]⟩ [(x,u)]) /\
     ∀ base:Heap,(K w.params).In base->base.Ns mainGlobals mg->Lm (K w.params) mg base->FnOk l.prog w (K w.params) mg base (CX w) k fa fd [x] (sp w))
  (hsp:∀ (w:World) (H:Hp) (a:Addr) (ns:List Int),ns.length<=n->TB (K w.params) H->SqL (K w.params) H a (ns.map V.int)->sp w [.ref a] H (fun v _=>v=.bl true) fun _ _ _=>False)
  (hCX:∀ (w:World) (H:Hp) (s:Shared) (e:Value) (s':Shared),CX w [] H s (fun _ _ _=>False) e s'->False) :
  PySem.W.WalkO q loose XP YP l.row.toRowW d [] (fun f vs=>PySem.call f vs):=by
 refine Att.z7e hn hdf fun w s₀ s₁ mg mb fa o pm cd doc a vs ns G Y ho hd hcd hmg hobj hints hlen hg=>?_
 have KX:=hY w _ Y
 obtain⟨hrec,hnt,fd,hb,hF⟩:=F w mg fa _ KX G.T.g hmg
 have hbm:=G.T.bmain
 refine y9d KX G.T.g G.T.b G.T.builtins G.T.nolimit hg ?_ (fun x hx c Pt e=>?_) hnt hobj hints (QU hlen hn2) hr hF hb (fun H hO hS=>hsp w H a ns hlen hO hS) fun H e s'=>hCX w H s₁ e s'
 ·obtain⟨bm,ob,b1,b2,b3,b4,b5,b6⟩:=hbm
  exact⟨bm,ob,b1,b2,b3,b4,b5,b6⟩
 ·rcases hrec x hx with⟨dd,hd⟩|z
  ·exact tab_of G.T KX hd e
  ·rw[z]at e;cases e
end L3
namespace L3
open PySem PySem.Spec PyProof.Rows L2
theorem x42{k:Nat}{pt:x8u}{tt:x4x}{te:Den}{deep:Bool}:∀ (ds:List D) (S:Nat->Rho) (b:Nat->Bool) (v:Nat->D),
  (∀ i (h:i<ds.length),∃ ρ1 ρ2,pt ds[i] (S i++List.replicate k none)=some ρ1/\tt ρ1=some (b i,ρ2) /\
    (if b i=true then ∃ q ρ3,te ρ2=some (v i,q,ρ3)/\¬ (deep=true/\(v i).isL=true/\q≠1)/\ρ3.take (S i).length=S (i+1)else ρ2.take (S i).length=S (i+1)))->
  x5a k pt tt te deep ds (S 0)=some (((List.range ds.length).filter b).map v,S ds.length)
 | [],S,b,v,_=>rfl
 | d::ds,S,b,v,h=>by
  obtain⟨ρ1,ρ2,h1,h2,h3⟩:=h 0 (by simp)
  have ih:=x42 ds (fun i=>S (i+1)) (fun i=>b (i+1)) (fun i=>v (i+1)) (fun i hi=>h (i+1) (by simpa using hi))
  have er:((List.range (d::ds).length).filter b).map v=(if b 0=true then [v 0]else [])++((List.range ds.length).filter fun i=>b (i+1)).map fun i=>v (i+1):=by
   rw[QH,List.range_succ_eq_map,List.filter_cons,VC]
   split<;>simp[Y3]
  rw[er]
  unfold x5a
  rw[show pt d (S 0++List.replicate k none)=some ρ1 from h1]
  simp only[h2]
  split at h3
  ·rename_i hb
   obtain⟨q,ρ3,h4,h5,h6⟩:=h3
   simp only[hb,ZD,h4,Qk h5,h6,ih]
   rfl
  ·rename_i hb
   simp only[hb,h3,ih]
   rfl
theorem x2k{pt:x8u}{body:x1g}:∀ (ds:List D) (I:Nat->Rho->Prop) (ρ:Rho),(∀ i (h:i<ds.length) ρ,I i ρ->∃ ρ1 ρ2,pt ds[i] ρ=some ρ1/\(body ρ1=some (.nx ρ2)\/body ρ1=some (.ct ρ2))/\I (i+1) ρ2)->I 0 ρ->∃ ρ',y09 pt body ds ρ=some (.nx ρ')/\I ds.length ρ'
 | [],I,ρ,_,h0=>⟨ρ,rfl,h0⟩
 | d::ds,I,ρ,h,h0=>by
  obtain⟨ρ1,ρ2,h1,h2,h3⟩:=h 0 (by simp) ρ h0
  obtain⟨ρ',e,h4⟩:=x2k ds (fun i=>I (i+1)) ρ2 (fun i hi=>h (i+1) (by simpa using hi)) h3
  refine⟨ρ',?_,h4⟩
  unfold y09
  rw[show pt d ρ=some ρ1 from h1]
  rcases h2 with h2|h2<;>(simp only[h2];exact e)
theorem x0m{f g:x1g}{ρ ρ1:Rho}(h:f ρ=some (.nx ρ1)):x16 f g ρ=g ρ1:=by unfold x16;rw[h]
theorem x3o{n:Nat}{body:x1g}{ds:List D}{d:D}{q:Nat}(h:body (x8i n ds)=some (.rt d q)):fnD n body ds=some (d,q):=by unfold fnD;rw[h]
theorem x23{k:Nat}{it:y6n}{pt:x8u}{tt:x4x}{te:Den}{deep:Bool}{ρ ρ1 ρ2:Rho}{ds vs:List D}(hi:it ρ=some (ds,ρ1))(hc:x5a k pt tt te deep ds ρ1=some (vs,ρ2)):x2r k it pt tt te deep ρ=some (.lst vs,if deep=true then 2 else 1,ρ2):=by unfold x2r;rw[hi];simp only[hc]
theorem z4u{i:Nat}{f:Den}{ρ ρ1:Rho}{d:D}{q:Nat}(h:f ρ=some (d,q,ρ1)):x25 i f ρ=some (.nx (ρ1.set i (some (d,q)))):=by unfold x25;rw[h]
theorem x46{f:Den}{ρ ρ1:Rho}{d:D}{q:Nat}(h:f ρ=some (d,q,ρ1)):x3t f ρ=some (.rt d q):=by unfold x3t;rw[h]
theorem x3g{it:y6n}{pt:x8u}{body:x1g}{ρ ρ1:Rho}{ds:List D}(h:it ρ=some (ds,ρ1)):x7p it pt body ρ=y09 pt body ds ρ1:=by unfold x7p;rw[h]
theorem j2k{g:x4x}{s s':x1g}{ρ ρ1:Rho}(h:g ρ=some (true,ρ1)):sIf g s s' ρ=s ρ1:=by unfold sIf;rw[h];rfl
theorem z63{g:x4x}{s s':x1g}{ρ ρ1:Rho}(h:g ρ=some (false,ρ1)):sIf g s s' ρ=s' ρ1:=by unfold sIf;rw[h];rfl
theorem x38{i:Nat}{f:Den}{ρ ρ1 ρ2:Rho}{d:D}{q:Nat}(h:f ρ=some (d,q,ρ1))(e:ρ1.set i (some (d,q))=ρ2):x25 i f ρ=some (.nx ρ2):=by rw[z4u h,e]
theorem x20{f:Den}{ρ ρ1:Rho}{d:D}{q:Nat}(h:f ρ=some (d,q,ρ1)):x01 f x0g ρ=some ([d],ρ1):=by unfold x01;rw[h];rfl
theorem x1e{f:Den}{g:x47}{ρ ρ1 ρ2:Rho}{d:D}{q:Nat}{ds:List D}(h:f ρ=some (d,q,ρ1))(h':g ρ1=some (ds,ρ2)):x01 f g ρ=some (d::ds,ρ2):=by unfold x01;rw[h];simp only[h']
theorem x37{g:x47}{ρ ρ1:Rho}{ds:List D}(h:g ρ=some ([.lst ds],ρ1)):x2g g ρ=some (.tup ds,9,ρ1):=by unfold x2g;rw[h]
theorem y3t{g:x47}{ρ ρ1:Rho}{ds:List D}(h:x14 g ρ=some (ds,ρ1)):x8d g ρ=some (.lst ds,1,ρ1):=by unfold x8d;rw[h]
theorem x3m{F:List D->OD}{n:Nat}{g:x47}{ρ ρ1:Rho}{ds:List D}{d:D}{q:Nat}(h:g ρ=some (ds,ρ1))(hl:ds.length=n)(hF:F ds=some (d,q)):x0p F n g ρ=some (d,q,ρ1):=by unfold x0p;rw[h];simp only[hl,ZD,hF]
def x0h (l:List Nat):List D:=l.map fun i=>.int (Int.ofNat i)
def y6t (n:Nat)(f:Nat->Nat->Nat)(i:Nat):D:=.tup (x0h ((List.range n).map fun j=>f i j))
def x0o (n:Nat)(f:Nat->Nat->Nat):D:=.tup ((List.range n).map fun i=>y6t n f i)
def x72 (n:Nat)(f:Nat->Nat->Nat)(i:Nat):D:=.lst (x0h ((List.range n).map fun j=>f i j))
def x34 (n:Nat)(f:Nat->Nat->Nat):D:=.lst ((List.range n).map fun i=>x72 n f i)
@[simp] theorem j14{n:Nat}{f:Nat->Nat->Nat}:(x0o n f).isL=false:=rfl
@[simp] theorem j1a{n:Nat}{f:Nat->Nat->Nat}{i:Nat}:(y6t n f i).isL=false:=rfl
@[simp] theorem j1h{n:Nat}{f:Nat->Nat->Nat}:(x34 n f).isL=true:=rfl
@[simp] theorem j1g{n:Nat}{f:Nat->Nat->Nat}{i:Nat}:(x72 n f i).isL=true:=rfl
theorem x1f(l:List Nat):(x0h l).length=l.length:=by simp[x0h]
theorem y69(l:List Nat)(i:Nat):(x0h l)[i]? = (l[i]?).map fun x=>.int (Int.ofNat x):=by simp[x0h]
theorem y1g{n i:Nat}(h:i<n):ixN n (Int.ofNat i)=some i:=by
 unfold ixN
 rw[Qj (by exact Jv i),Qj (by show(i:Int)<n;omega)]
 rfl
theorem y16{α:Type}{xs:List α}{i:Nat}{x:α}(h:xs[i]? = some x):L2.atI xs (Int.ofNat i)=some x:=by
 unfold L2.atI
 rw[y1g (QB.mp h).1]
 exact h
theorem z0v{l:List Nat}{i x:Nat}(h:l[i]? = some x):L2.atI (x0h l) (Int.ofNat i)=some (.int (Int.ofNat x)):=y16 (by rw[y69,h];rfl)
theorem z4l{g:Nat->D}{n i:Nat}(h:i<n):L2.atI ((List.range n).map g) (Int.ofNat i)=some (g i):=y16 (by rw[Ql,Zk h];rfl)
theorem x1r{g:Nat->Nat}{n i:Nat}(h:i<n):L2.atI (x0h ((List.range n).map g)) (Int.ofNat i)=some (.int (Int.ofNat (g i))):=z0v (by rw[Ql,Zk h];rfl)
theorem x6c{n:Nat}{f:Nat->Nat->Nat}{i:Nat}(h:i<n):atD (x0o n f) (Int.ofNat i)=some (y6t n f i):=z4l h
theorem x87{n:Nat}{f:Nat->Nat->Nat}{i j:Nat}(h:j<n):atD (y6t n f i) (Int.ofNat j)=some (.int (Int.ofNat (f i j))):=x1r h
theorem z61{n:Nat}{f:Nat->Nat->Nat}{i:Nat}(h:i<n):atD (x34 n f) (Int.ofNat i)=some (x72 n f i):=z4l h
theorem z6v{n:Nat}{f:Nat->Nat->Nat}{i j:Nat}(h:j<n):atD (x72 n f i) (Int.ofNat j)=some (.int (Int.ofNat (f i j))):=x1r h
theorem x3b{n:Nat}{f:Nat->Nat->Nat}:y02 (x0o n f)=some n:=by simp[x0o,y02]
theorem x70{n:Nat}{f:Nat->Nat->Nat}:y02 (x34 n f)=some n:=by simp[x34,y02]
theorem x5x{n:Nat}{f g:Nat->Nat->Nat}(h:∀ a b,a<n->b<n->f a b=g a b):x34 n f=x34 n g:=by
 unfold x34 x72
 refine ZL D.lst (QP fun a ha=>?_)
 refine ZL (fun l=>D.lst (x0h l)) (QP fun b hb=>?_)
 exact h a b (QA.mp ha) (QA.mp hb)
theorem x7o{α:Type}{g:Nat->α}{n m:Nat}{x:α}:((List.range n).map g).set m x=(List.range n).map fun a=>if a=m then x else g a:=by
 apply Zx
 intro i
 by_cases hi:i<n
 ·by_cases h:m=i
  ·subst h
   rw[QX (by simpa using hi),Ql,Zk hi]
   simp
  ·rw[QY h,Ql,Ql,Zk hi]
   simp
   exact fun z=>absurd z.symm h
 ·rw[QF (by simp;omega),QF (by simp;omega)]
theorem x7i{g:Nat->Nat}{n:Nat}:x0h ((List.range n).map g)=(List.range n).map fun i=>.int (Int.ofNat (g i)):=by simp[x0h]
theorem z2r{n:Nat}{f:Nat->Nat->Nat}{a b v:Nat}:D.lst (((List.range n).map fun i=>x72 n f i).set a (.lst ((x0h ((List.range n).map fun j=>f a j)).set b (.int (Int.ofNat v)))))=x34 n fun i j=>if i=a/\j=b then v else f i j:=by
 unfold x34
 rw[x7o]
 refine ZL D.lst (QP fun i hi=>?_)
 by_cases h:i=a
 ·subst h
  rw[Qj rfl,x7i,x7o]
  unfold x72
  rw[x7i]
  refine ZL D.lst (QP fun j hj=>?_)
  by_cases hj:j=b<;>simp[hj]
 ·rw[Qk h]
  unfold x72
  simp[h]
theorem j28(n:Nat):D.lst (List.replicate n [D.int 0]).flatten=x72 n (fun _ _=>0) 0:=by
 unfold x72 x0h
 congr 1
 simp[Ya,List.map_const']
theorem y5f:∀ ds:List D,x7q ds=ds.map toP
 | []=>rfl
 | d::ds=>by rw[x7q,y5f ds];rfl
def lay (d:D):Bool:=x6s d&&(toP d).canLay0
theorem z95{d:D}(h:lay d=true):x6s d=true:=(Zu.mp h).1
theorem z9d{d:D}(h:lay d=true):(toP d).canLay0=true:=(Zu.mp h).2
theorem x7y:∀ {ds:List D},(∀ d∈ds,lay d=true)->x9f ds=true
 | [],_=>rfl
 | d::ds,h=>by
  show(x6s d&&x9f ds)=true
  rw[z95 (h d Qf),x7y fun x m=>h x (Qe _ m)]
  rfl
def dep (d:D):Nat:=(toP d).depth
theorem y8j:∀ {ds:List D},(∀ d∈ds,lay d=true)->PyData.canLayAll0 (x7q ds)=true
 | [],_=>rfl
 | d::ds,h=>by
  rw[x7q,PyData.canLayAll0,y8j fun x m=>h x (Qe _ m),VS]
  exact z9d (h d Qf)
theorem z0q{k:Nat}:∀ {ds:List D},(∀ d∈ds,dep d<=k)->PyData.depthAll (x7q ds)<=k
 | [],_=>Zb _
 | d::ds,h=>by
  rw[x7q,PyData.depthAll]
  exact Nat.max_le.mpr ⟨h d Qf,z0q fun x m=>h x (Qe _ m)⟩
def Sh (k:Nat)(d:D):Prop:=lay d=true/\dep d<=k
theorem Sh.int{k:Nat}(i:Int):Sh k (.int i):=⟨rfl,Zb _⟩
theorem Sh.non{k:Nat}:Sh k .non:=⟨rfl,Zb _⟩
theorem Sh.tup{k:Nat}{ds:List D}(h:∀ d∈ds,Sh k d):Sh (k+1) (.tup ds):=⟨Zu.mpr ⟨x7y fun d m=>(h d m).1,y8j fun d m=>(h d m).1⟩,Vg (z0q fun d m=>(h d m).2)⟩
theorem Sh.lst{k:Nat}{ds:List D}(h:∀ d∈ds,Sh k d):Sh (k+1) (.lst ds):=⟨Zu.mpr ⟨x7y fun d m=>(h d m).1,y8j fun d m=>(h d m).1⟩,Vg (z0q fun d m=>(h d m).2)⟩
theorem Sh.ok{k:Nat}{d:D}(h:Sh k d)(hk:k<=64:=by decide):okD d=true:=by
 show(x6s d&&((toP d).canLay0&&decide ((toP d).depth<=64)))=true
 rw[z95 h.1,z9d h.1,Vb,Vb]
 exact Qs (QU h.2 hk)
theorem y83{l:List Nat}{d:D}(m:d∈x0h l):Sh 0 d:=by
 obtain⟨x,_,rfl⟩:=Qp.mp m
 exact .int _
theorem z9w(l:List Nat):Sh 1 (.lst (x0h l)):=.lst fun _ m=>y83 m
theorem z4e(l:List Nat):Sh 1 (.tup (x0h l)):=.tup fun _ m=>y83 m
theorem z67(n:Nat)(f:Nat->Nat->Nat):Sh 2 (x0o n f):=.tup fun d m=>by
 obtain⟨x,_,rfl⟩:=Qp.mp m
 exact z4e _
theorem x6i:∀ l l':List Nat,PyData.eqvAll (x7q (x0h l)) (x7q (x0h l'))=decide (l=l')
 | [],[]=>rfl
 | [],_::_=>rfl
 | _::_,[]=>rfl
 | x::l,y::l'=>by
  show(((x:Int)==(y:Int))&&PyData.eqvAll (x7q (x0h l)) (x7q (x0h l')))=_
  rw[x6i l l']
  by_cases h:x=y
  ·subst h;simp
  ·have:((x:Int)==(y:Int))=false:=by simp;omega
   rw[this]
   simp[h]
theorem j0p(l l':List Nat):eqD (.lst (x0h l)) (.lst (x0h l'))=decide (l=l'):=x6i l l'
theorem z5z(l l':List Nat):eqD (.tup (x0h l)) (.tup (x0h l'))=decide (l=l'):=x6i l l'
theorem y54(i j:Int):eqD (.int i) (.int j)=decide (i=j):=by
 show(i==j)=_
 rw[Bool.beq_eq_decide_eq]
theorem z7d(i j:Nat):eqD (.int (Int.ofNat i)) (.int (Int.ofNat j))=decide (i=j):=by
 rw[y54]
 exact JE.mpr ⟨fun h=>Vd h,fun h=>by rw[h]⟩
theorem j2g(l l':List Nat):dEq (.lst (x0h l)) (.lst (x0h l'))=some (.bl (decide (l=l'))):=by unfold dEq;rw[Qj ⟨(z9w l).ok,(z9w l').ok⟩,j0p]
theorem j0f(l l':List Nat):dNe (.lst (x0h l)) (.lst (x0h l'))=some (.bl (!decide (l=l'))):=by unfold dNe;rw[Qj ⟨(z9w l).ok,(z9w l').ok⟩,j0p]
theorem y9r(i j:Int):dEq (.int i) (.int j)=some (.bl (decide (i=j))):=by unfold dEq;rw[Qj ⟨(Sh.int (k:=0) i).ok,(Sh.int (k:=0) j).ok⟩,y54]
theorem z73(i j:Int):dNe (.int i) (.int j)=some (.bl (!decide (i=j))):=by unfold dNe;rw[Qj ⟨(Sh.int (k:=0) i).ok,(Sh.int (k:=0) j).ok⟩,y54]
theorem z0y(i j:Nat):dEq (.int (Int.ofNat i)) (.int (Int.ofNat j))=some (.bl (decide (i=j))):=by unfold dEq;rw[Qj ⟨(Sh.int (k:=0) _).ok,(Sh.int (k:=0) _).ok⟩,z7d]
theorem x79{α:Type}{p:α->Bool}:∀ {l:List α} {j:Nat} {x:α},l[j]? = some x->p x=true->(∀ i y,i<j->l[i]? = some y->p y=false)->l.findIdx? p=some j
 | [],j,x,h,_,_=>by simp at h
 | a::l,0,x,h,hp,_=>by
  simp at h;subst h
  simp[List.findIdx?_cons,hp]
 | a::l,j+1,x,h,hp,hn=>by
  have h0:p a=false:=hn 0 a (Js _) rfl
  have ih:=x79 (l:=l) (j:=j) (x:=x) (by simpa using h) hp fun i y hi hy=>hn (i+1) y (Nat.succ_lt_succ hi) (by simpa using hy)
  simp[List.findIdx?_cons,h0,ih]
structure Lad (n:Nat) (f:Nat->Nat->Nat):Prop where
 lo:0<n
 hi:n<=16
 cl:∀ i j,i<n->j<n->f i j<n
 idem:∀ i,i<n->f i i=i
 comm:∀ i j,i<n->j<n->f i j=f j i
 assoc:∀ i j k,i<n->j<n->k<n->f (f i j) k=f i (f j k)
 bot:∃ z,z<n/\∀ j,j<n->f z j=j
def j2f (n:Nat)(f:Nat->Nat->Nat):Bool:=
 decide (0<n)&&decide (n<=16)&&((List.range n).all fun i=>(List.range n).all fun j=>decide (f i j<n))&&((List.range n).all fun i=>decide (f i i=i))&&((List.range n).all fun i=>(List.range n).all fun j=>decide (f i j=f j i)) &&
 ((List.range n).all fun i=>(List.range n).all fun j=>(List.range n).all fun k=>decide (f (f i j) k=f i (f j k)))&&((List.range n).any fun z=>(List.range n).all fun j=>decide (f z j=j))
theorem z6j{n:Nat}{f:Nat->Nat->Nat}(h:j2f n f=true):Lad n f:=by
 unfold j2f at h
 simp only[Yg,ZU,JB,Yk,QA]at h
 obtain⟨⟨⟨⟨⟨⟨h1,h2⟩,h3⟩,h4⟩,h5⟩,h6⟩,z,hz,h7⟩:=h
 exact⟨h1,h2,fun i j hi hj=>h3 i hi j hj,h4,fun i j hi hj=>h5 i hi j hj,fun i j k hi hj hk=>h6 i hi j hj k hk,z,hz,h7⟩
theorem Lad.ren{n:Nat}{f:Nat->Nat->Nat}(L:Lad n f){π ι:Nat->Nat}(h1:∀ i,i<n->π i<n)(h2:∀ i,i<n->ι i<n)(h3:∀ i,i<n->ι (π i)=i)(h4:∀ i,i<n->π (ι i)=i):Lad n fun a b=>π (f (ι a) (ι b)):=by
 obtain⟨l1,l2,cl,idem,comm,assoc,z,hz,bot⟩:=L
 refine⟨l1,l2,fun i j hi hj=>h1 _ (cl _ _ (h2 i hi) (h2 j hj)),fun i hi=>?_,fun i j hi hj=>?_,fun i j k hi hj hk=>?_,π z,h1 z hz,fun j hj=>?_⟩
 ·show π (f (ι i) (ι i))=i
  rw[idem _ (h2 i hi),h4 i hi]
 ·show π (f (ι i) (ι j))=π (f (ι j) (ι i))
  rw[comm _ _ (h2 i hi) (h2 j hj)]
 ·show π (f (ι (π (f (ι i) (ι j)))) (ι k))=π (f (ι i) (ι (π (f (ι j) (ι k)))))
  rw[h3 _ (cl _ _ (h2 i hi) (h2 j hj)),h3 _ (cl _ _ (h2 j hj) (h2 k hk)),assoc _ _ _ (h2 i hi) (h2 j hj) (h2 k hk)]
 ·show π (f (ι (π z)) (ι j))=j
  rw[h3 z hz,bot _ (h2 j hj),h4 j hj]
def x31 (p:Nat->Nat->Nat)(n:Nat):Nat->List Nat
 | 0=>List.range n
 | k+1=>(x31 p n k).eraseIdx (p k (x31 p n k).length)
def drawn (p:Nat->Nat->Nat)(n k:Nat):Nat:=(x31 p n k).getD (p k (x31 p n k).length) 0
theorem y0z:∀ (l:List Nat) (j:Nat),(x0h l).eraseIdx j=x0h (l.eraseIdx j)
 | [],_=>rfl
 | _::_,0=>rfl
 | a::l,j+1=>ZL (D.int (Int.ofNat a) :: ·) (y0z l j)
theorem x7m{p:Nat->Nat->Nat}{n:Nat}(hp:∀ k m,0<m->p k m<m):∀ k,k<=n->(x31 p n k).length=n-k
 | 0,_=>by simp[x31]
 | k+1,h=>by
  have ih:=x7m hp k (Nat.le_of_succ_le h)
  have:=hp k (n-k) (by omega)
  rw[x31,VN,ih,Qj this]
  omega
theorem y19:∀ {l:List Nat} {j:Nat} (h:j<l.length),(l[j]::l.eraseIdx j).Perm l
 | a::l,0,_=>YR _
 | a::l,j+1,h=>(List.Perm.swap a (l[j]'(by simpa using h)) (l.eraseIdx j)).trans (List.Perm.cons a (y19 (by simpa using h)))
theorem y3r{p:Nat->Nat->Nat}{n:Nat}(hp:∀ k m,0<m->p k m<m):∀ k,k<=n->(((List.range k).map (drawn p n))++x31 p n k).Perm (List.range n)
 | 0,_=>by simp[x31]
 | k+1,h=>by
  have ih:=y3r hp k (Nat.le_of_succ_le h)
  have hl:=x7m hp k (by omega:k<=n)
  have hj:p k (x31 p n k).length<(x31 p n k).length:=by rw[hl];exact hp k _ (by omega)
  refine List.Perm.trans ?_ ih
  rw[JN,QZ,Jz]
  refine VF _ ?_
  have e:drawn p n k=(x31 p n k)[p k (x31 p n k).length]:=by unfold drawn;rw[Qh,Qa hj];rfl
  show(drawn p n k::(x31 p n (k+1))).Perm _
  rw[e,x31]
  exact y19 hj
theorem x5t{p:Nat->Nat->Nat}{n:Nat}(hp:∀ k m,0<m->p k m<m):((List.range n).map (drawn p n)).Perm (List.range n):=by
 have h:=y3r hp n (Qi n)
 have hl:=x7m hp n (Qi n)
 rw[VY]at hl
 rw[ZC.mp hl,Z5]at h
 exact h
theorem y6l{p:Nat->Nat->Nat}{n:Nat}(hp:∀ k m,0<m->p k m<m){i:Nat}(h:i<n):drawn p n i<n:=by
 have m:drawn p n i∈(List.range n).map (drawn p n):=Qp.mpr ⟨i,QA.mpr h,rfl⟩
 exact QA.mp ((x5t hp).mem_iff.mp m)
def x30 (p:Nat->Nat->Nat)(n a:Nat):Nat:=((List.range n).map (drawn p n)).idxOf a
theorem y0y{p:Nat->Nat->Nat}{n:Nat}(hp:∀ k m,0<m->p k m<m){a:Nat}(h:a<n):x30 p n a<n:=by
 have m:a∈(List.range n).map (drawn p n):=(x5t hp).mem_iff.mpr (QA.mpr h)
 have:=YC m
 rw[Qc,QJ]at this
 exact this
theorem x6w{p:Nat->Nat->Nat}{n:Nat}(hp:∀ k m,0<m->p k m<m){a:Nat}(h:a<n):drawn p n (x30 p n a)=a:=by
 have m:a∈(List.range n).map (drawn p n):=(x5t hp).mem_iff.mpr (QA.mpr h)
 have:=List.getElem_idxOf (YC m)
 rw[List.getElem_map,List.getElem_range]at this
 exact this
theorem x6y{p:Nat->Nat->Nat}{n:Nat}(hp:∀ k m,0<m->p k m<m){i:Nat}(h:i<n):x30 p n (drawn p n i)=i:=by
 have nd:((List.range n).map (drawn p n)).Nodup:=(x5t hp).nodup_iff.mpr Jq
 have hi:i<((List.range n).map (drawn p n)).length:=by simpa using h
 have:=nd.idxOf_getElem i hi
 rw[List.getElem_map,List.getElem_range]at this
 exact this
theorem z3r{i n:Nat}{tt:x4x}{te:Den}{ρ:Rho}{deep:Bool}(hi:ρ.length=i)(b:Nat->Bool)(v:Nat->D)(q:Nat->Nat)(ht:∀ j,j<n->tt (ρ++[some (.int (Int.ofNat j),9)])=some (b j,ρ++[some (.int (Int.ofNat j),9)]))
  (he:∀ j,j<n->b j=true->te (ρ++[some (.int (Int.ofNat j),9)])=some (v j,q j,ρ++[some (.int (Int.ofNat j),9)])) (hd:deep=true->∀ j,(v j).isL=true->q j=1:=by intro h;cases h) :
  x5a 1 (x0k i) tt te deep (x12 n) ρ=some (((List.range n).filter b).map v,ρ):=by
 have h:=x42 (k:=1) (pt:=x0k i) (tt:=tt) (te:=te) (deep:=deep) (x12 n) (fun _=>ρ) b v (fun j hj=>?_)
 ·rw[x0s]at h
  exact h
 ·rw[x0s]at hj
  refine⟨ρ++[some (.int (Int.ofNat j),9)],_,?_,ht j hj,?_⟩
  ·have:(x12 n)[j]'(by rw[x0s];exact hj)=.int (Int.ofNat j):=by simp[x12]
   rw[this]
   unfold x0k
   rw[Qj (by simp[hi])]
   subst hi
   simp[Yw]
  ·by_cases hb:b j=true
   ·rw[Qj hb]
    exact⟨q j,_,he j hj hb,fun⟨h1,h2,h3⟩=>h3 (hd h1 j h2),by simp⟩
   ·rw[Qk hb]
    simp
theorem y0w{z:Nat}:∀ n:Nat,(List.range n).filter (fun w=>decide (w=z))=if z<n then [z]else []
 | 0=>by simp
 | n+1=>by
  rw[JN,JR,y0w n]
  by_cases h:n=z
  ·subst h;simp
  ·have:¬ (n=z):=h
   by_cases h2:z<n
   ·rw[Qj h2,Qj (by omega)];simp[h]
   ·rw[Qk h2,Qk (by omega)];simp[h]
theorem y3h{n:Nat}{g:Nat->Nat}:(List.range n).map g=List.range n ↔ ∀ j,j<n->g j=j:=by
 constructor
 ·intro h j hj
  have:=ZL (fun l=>l[j]?) h
  simpa [hj]using this
 ·intro h
  have e:=QP (l:=List.range n) (f:=g) (g:=id) fun a ha=>h a (QA.mp ha)
  rw[e,V3]
namespace Lad
variable {z:Nat}
variable {n:Nat}{f:Nat->Nat->Nat}(L:Lad n f)
include L
theorem bot_uniq{x:Nat}(hz:z<n)(bz:∀ j,j<n->f z j=j)(hx:x<n)(bx:∀ j,j<n->f x j=j):x=z:=by
 have h1:=bx z hz
 have h2:=bz x hx
 rw[L.comm x z hx hz]at h1
 omega
theorem fold_lt:∀ {l:List Nat} {a:Nat},a<n->(∀ x∈l,x<n)->l.foldl f a<n
 | [],a,ha,_=>ha
 | y::l,a,ha,h=>fold_lt (l:=l) (L.cl a y ha (h y Qf)) fun x m=>h x (Qe _ m)
theorem y89:∀ {l:List Nat} {a x:Nat},a<n->x<n->(∀ x∈l,x<n)->f x a=a->f x (l.foldl f a)=l.foldl f a
 | [],a,x,_,_,_,e=>e
 | y::l,a,x,ha,hx,h,e=>by
  have hy:=h y Qf
  refine y89 (l:=l) (L.cl a y ha hy) hx (fun x m=>h x (Qe _ m)) ?_
  rw[<- L.assoc x a y hx ha hy,e]
theorem fold_mem:∀ {l:List Nat} {a x:Nat},a<n->(∀ x∈l,x<n)->x∈l->f x (l.foldl f a)=l.foldl f a
 | y::l,a,x,ha,h,m=>by
  have hy:=h y Qf
  have hl:∀ x∈l,x<n:=fun x m=>h x (Qe _ m)
  rcases Qq.mp m with rfl|m
  ·refine y89 L (l:=l) (L.cl a x ha hy) hy hl ?_
   rw[L.comm a x ha hy,<- L.assoc x x a hy hy ha,L.idem x hy]
  ·exact fold_mem (l:=l) (L.cl a y ha hy) hl m
theorem fold_out(hz:z<n)(bz:∀ j,j<n->f z j=j):∀ {l:List Nat} {a:Nat},a<n->(∀ x∈l,x<n)->l.foldl f a=f a (l.foldl f z)
 | [],a,ha,_=>by show a=f a z;rw[L.comm a z ha hz,bz a ha]
 | y::l,a,ha,h=>by
  have hy:=h y Qf
  have hl:∀ x∈l,x<n:=fun x m=>h x (Qe _ m)
  show l.foldl f (f a y)=f a (l.foldl f (f z y))
  rw[bz y hy,fold_out hz bz (L.cl a y ha hy) hl,fold_out hz bz hy hl,L.assoc a y _ ha hy (L.fold_lt hz hl)]
end Lad
theorem y9w{l:List Nat}{i:Nat}(h:i<(x0h l).length):(x0h l)[i]=.int (Int.ofNat (l.getD i 0)):=by
 have h':i<l.length:=by rw[x1f]at h;exact h
 simp[x0h,h']
theorem y5x{l:List Nat}{i:Nat}(h:i<l.length):l.getD i 0∈l:=by
 rw[Qh,Qa h]
 exact Zc h
theorem j2p{i:Nat}{te:Den}{ρ:Rho}{deep:Bool}(l:List Nat)(hi:ρ.length=i)(v:Nat->D)(q:Nat->Nat)
  (he:∀ x,x∈l->te (ρ++[some (.int (Int.ofNat x),9)])=some (v x,q x,ρ++[some (.int (Int.ofNat x),9)])) (hd:deep=true->∀ j,(v j).isL=true->q j=1:=by intro h;cases h) :
  x5a 1 (x0k i) x2d te deep (x0h l) ρ=some (l.map v,ρ):=by
 have h:=x42 (k:=1) (pt:=x0k i) (tt:=x2d) (te:=te) (deep:=deep) (x0h l) (fun _=>ρ) (fun _=>true) (fun j=>v (l.getD j 0)) (fun j hj=>?_)
 ·rw[x1f,show(List.range l.length).filter (fun _=>true)=List.range l.length by simp]at h
  rw[h]
  have e:(List.range l.length).map (fun j=>v (l.getD j 0))=l.map v:=by
   apply Zx
   intro k
   by_cases hk:k<l.length
   ·simp[hk]
   ·rw[QF (by simp;omega),QF (by simp;omega)]
  rw[e]
 ·have hj':j<l.length:=by rw[x1f]at hj;exact hj
  refine⟨ρ++[some (.int (Int.ofNat (l.getD j 0)),9)],_,?_,rfl,?_⟩
  ·rw[y9w hj]
   unfold x0k
   rw[Qj (by simp[hi])]
   subst hi
   simp[Yw]
  ·rw[Qj rfl]
   exact⟨q _,_,he _ (y5x hj'),fun⟨h1,h2,h3⟩=>h3 (hd h1 _ h2),by simp⟩
theorem y9y{g:D->D->Option D}{fa fb:Den}{ρ ρ1 ρ2:Rho}{x y d:D}{q q':Nat}(ha:fa ρ=some (x,q,ρ1))(hb:fb ρ1=some (y,q',ρ2))(hg:g x y=some d):e2 g fa fb ρ=some (d,9,ρ2):=by unfold e2;rw[ha];simp only[hb,hg]
theorem x9d{f:Den}{ρ ρ1:Rho}{b:Bool}{q:Nat}(h:f ρ=some (.bl b,q,ρ1)):x4n f ρ=some (b,ρ1):=by unfold x4n;rw[h]
theorem y1o{i:Nat}{g:x47}{ρ ρ1 ρ2:Rho}{ds:List D}{d:D}(hl:y8m ρ[i]? = true)(hg:g ρ=some ([d],ρ1))(h1:ρ1[i]? = some (some (.lst ds,1)))(hn:ds.length<=1000)(e:ρ1.set i (some (.lst (ds++[d]),1))=ρ2):x3f (x8y i g) ρ=some (.nx ρ2):=by
 unfold x3f x8y
 rw[Qj hl,hg]
 simp only[h1,Qj hn,e]
theorem j2j{b:List D->Option D}{g:x47}{ρ ρ1:Rho}{ds:List D}{d:D}(h:g ρ=some (ds,ρ1))(hd:b ds=some d):eB b g ρ=some (d,9,ρ1):=by unfold eB;rw[h];simp only[hd]
def x0i (n:Nat)(r:Nat->Nat):D:=.tup (x0h ((List.range n).map r))
@[simp] theorem j13{n:Nat}{r:Nat->Nat}:(x0i n r).isL=false:=rfl
theorem z3t{n i:Nat}{r:Nat->Nat}(h:i<n):atD (x0i n r) (Int.ofNat i)=some (.int (Int.ofNat (r i))):=x1r h
theorem z2a(l l':List Nat):dNe (.tup (x0h l)) (.tup (x0h l'))=some (.bl (!decide (l=l'))):=by unfold dNe;rw[Qj ⟨(z4e l).ok,(z4e l').ok⟩,z5z]
theorem z9c(l l':List Nat):dEq (.tup (x0h l)) (.tup (x0h l'))=some (.bl (decide (l=l'))):=by unfold dEq;rw[Qj ⟨(z4e l).ok,(z4e l').ok⟩,z5z]
theorem x85{n:Nat}{r s:Nat->Nat}(h:∀ i,i<n->r i=s i):x0i n r=x0i n s:=ZL (fun l=>D.tup (x0h l)) (QP fun i hi=>h i (QA.mp hi))
theorem z5m{n:Nat}(g:Nat->Nat):D.tup ((List.range n).map fun i=>.int (Int.ofNat (g i)))=x0i n g:=by unfold x0i;rw[x7i]
theorem y8e(n:Nat)(r:Nat->Nat):Sh 1 (x0i n r):=z4e _
theorem y8z(n:Nat)(a b:Nat->Nat):((x0h ((List.range n).map a)).zip (x0h ((List.range n).map b))).map (fun x=>D.tup [x.1,x.2])=(List.range n).map fun j=>.tup [.int (Int.ofNat (a j)),.int (Int.ofNat (b j))]:=by
 rw[x7i,x7i,List.zip_map',QV]
 rfl
theorem j1z{i n:Nat}{tt:x4x}{te:Den}{ρ:Rho}{deep:Bool}(hi:ρ.length=i)(a b:Nat->Nat)(ok:Nat->Bool)(v:Nat->D)(q:Nat->Nat)
  (ht:∀ j,j<n->tt (ρ++[some (.int (Int.ofNat (a j)),9),some (.int (Int.ofNat (b j)),9)])=some (ok j,ρ++[some (.int (Int.ofNat (a j)),9),some (.int (Int.ofNat (b j)),9)]))
  (he:∀ j,j<n->ok j=true->te (ρ++[some (.int (Int.ofNat (a j)),9),some (.int (Int.ofNat (b j)),9)])=some (v j,q j,ρ++[some (.int (Int.ofNat (a j)),9),some (.int (Int.ofNat (b j)),9)]))
  (hd:deep=true->∀ j,(v j).isL=true->q j=1:=by intro h;cases h) :
  x5a 2 (y6b (x13 (x0k i) (x13 (x0k (i+1)) x5z))) tt te deep ((List.range n).map fun j=>.tup [.int (Int.ofNat (a j)),.int (Int.ofNat (b j))]) ρ=some (((List.range n).filter ok).map v,ρ):=by
 have h:=x42 (k:=2) (pt:=y6b (x13 (x0k i) (x13 (x0k (i+1)) x5z))) (tt:=tt) (te:=te) (deep:=deep) ((List.range n).map fun j=>.tup [.int (Int.ofNat (a j)),.int (Int.ofNat (b j))]) (fun _=>ρ) ok v (fun j hj=>?_)
 ·rw[Qc,QJ]at h
  exact h
 ·rw[Qc,QJ]at hj
  refine⟨ρ++[some (.int (Int.ofNat (a j)),9),some (.int (Int.ofNat (b j)),9)],_,?_,ht j hj,?_⟩
  ·subst hi
   simp[-Int.ofNat_eq_natCast,Yw]
  ·by_cases hb:ok j=true
   ·rw[Qj hb]
    exact⟨q j,_,he j hj hb,fun⟨h1,h2,h3⟩=>h3 (hd h1 j h2),by simp⟩
   ·rw[Qk hb]
    simp
namespace Lad
variable {b x y z:Nat}
variable {n:Nat}{f:Nat->Nat->Nat}(L:Lad n f)
include L
theorem le_trans(hx:x<n)(hy:y<n)(hz:z<n)(h1:f x y=y)(h2:f y z=z):f x z=z:=by
 rw[<- h2,<- L.assoc x y z hx hy hz,h1]
theorem le_anti(hx:x<n)(hy:y<n)(h1:f x y=y)(h2:f y x=x):x=y:=by
 rw[L.comm y x hy hx,h1]at h2;exact h2.symm
theorem le_l(hx:x<n)(hy:y<n):f x (f x y)=f x y:=by rw[<- L.assoc x x y hx hx hy,L.idem x hx]
theorem le_r(hx:x<n)(hy:y<n):f y (f x y)=f x y:=by rw[L.comm x y hx hy];exact L.le_l hy hx
theorem lub(hx:x<n)(hy:y<n)(hz:z<n)(h1:f x z=z)(h2:f y z=z):f (f x y) z=z:=by rw[L.assoc x y z hx hy hz,h2,h1]
theorem sup_least(hz:z<n)(bz:∀ j,j<n->f z j=j)(hb:b<n):∀ {l:List Nat},(∀ x∈l,x<n)->(∀ x∈l,f x b=b)->f (l.foldl f z) b=b
 | [],_,_=>bz b hb
 | y::l,h,k=>by
  have hy:=h y Qf
  have hl:∀ x∈l,x<n:=fun x m=>h x (Qe _ m)
  have e:(y::l).foldl f z=f y (l.foldl f z):=by
   show l.foldl f (f z y)=_
   rw[bz y hy,L.fold_out hz bz hy hl]
  rw[e]
  exact L.lub hy (L.fold_lt hz hl) hb (k y Qf) (sup_least hz bz hb hl fun x m=>k x (Qe _ m))
omit L
def low (n:Nat)(f:Nat->Nat->Nat)(x:Nat):List Nat:=(List.range n).filter fun y=>decide (f y x=x)
theorem mem_low:y∈low n f x ↔ y<n/\f y x=x:=by simp[low]
def lr (n:Nat)(f:Nat->Nat->Nat)(z:Nat)(r:Nat->Nat)(x:Nat):Nat:=((low n f x).map r).foldl f z
include L
variable {z:Nat}(hz:z<n)(bz:∀ j,j<n->f z j=j){r s:Nat->Nat}(hr:∀ i,i<n->r i<n)
include hz bz hr
theorem lr_mem:∀ y∈(low n f x).map r,y<n:=fun y m=>by
 obtain⟨k,hk,rfl⟩:=Qp.mp m
 exact hr k (mem_low.mp hk).1
theorem lr_lt(x:Nat):lr n f z r x<n:=L.fold_lt hz (lr_mem L hz bz hr)
theorem lr_ub(hy:y<n)(h:f y x=x):f (r y) (lr n f z r x)=lr n f z r x:=L.fold_mem hz (lr_mem L hz bz hr) (Qp.mpr ⟨y,mem_low.mpr ⟨hy,h⟩,rfl⟩)
theorem lr_least(hb:b<n)(h:∀ y,y<n->f y x=x->f (r y) b=b):f (lr n f z r x) b=b:=L.sup_least hz bz hb (lr_mem L hz bz hr) fun y m=>by
 obtain⟨k,hk,rfl⟩:=Qp.mp m
 exact h k (mem_low.mp hk).1 (mem_low.mp hk).2
theorem lr_rises(hx:x<n)(hy:y<n)(h:f x y=y):f (lr n f z r x) (lr n f z r y)=lr n f z r y:=
 L.lr_least hz bz hr (L.lr_lt hz bz hr y) fun k hk e=>L.lr_ub hz bz hr hk (L.le_trans hk hx hy e h)
end Lad
theorem j08{α:Type}{us:List α}(h:us.length=1):∃ a,us=[a]:=match us,h with|[a],_=>⟨a,rfl⟩
theorem j3p{α:Type}{us:List α}(h:us.length=2):∃ a b,us=[a,b]:=by
 cases us with
 | nil=>cases h
 | cons a us=>
  obtain⟨b,hh⟩:=j08 (J9 h)
  exact⟨a,b,by rw[hh]⟩
theorem j3q{α:Type}{us:List α}(h:us.length=3):∃ a b c,us=[a,b,c]:=by
 cases us with
 | nil=>cases h
 | cons a us=>
  obtain⟨b,c,hh⟩:=j3p (J9 h)
  exact⟨a,b,c,by rw[hh]⟩
theorem j4i{α:Type}{us:List α}(h:us.length=4):∃ a b c d,us=[a,b,c,d]:=by
 cases us with
 | nil=>cases h
 | cons a us=>
  obtain⟨b,c,d,hh⟩:=j3q (J9 h)
  exact⟨a,b,c,d,by rw[hh]⟩
theorem z4y{pt:x8u}{body:x1g}{d:D}{ds:List D}{ρ ρ1 ρ2:Rho}(h1:pt d ρ=some ρ1)(h2:body ρ1=some (.nx ρ2)):y09 pt body (d::ds) ρ=y09 pt body ds ρ2:=by
 show(match pt d ρ with|none=>none|some ρ1=>_)=_
 simp only[h1,h2]
theorem x9v{α J σ:Type}{pt:x8u}{body:x1g}(enc:α->D)(S:σ->J->Rho)(g:σ->α->σ)(I:σ->Prop):∀ (l:List α) (s:σ) (j:J),I s->
  (∀ x∈l,∀ s j,I s->I (g s x)/\∃ ρ1 j',pt (enc x) (S s j)=some ρ1/\body ρ1=some (.nx (S (g s x) j')))->∃ j',y09 pt body (l.map enc) (S s j)=some (.nx (S (l.foldl g s) j'))/\I (l.foldl g s)
 | [],s,j,i,_=>⟨j,rfl,i⟩
 | x::l,s,j,i,h=>by
  obtain⟨i1,ρ1,j1,h1,h2⟩:=h x Qf s j i
  obtain⟨j2,e,i2⟩:=x9v enc S g I l (g s x) j1 i1 fun y m=>h y (Qe _ m)
  exact⟨j2,(z4y h1 h2).trans e,i2⟩
theorem y0u{c:x4x}{b:x1g}{Q:Rho->Prop}(I:Nat->Rho->Prop)
  (h:∀ k ρ,I k ρ->(∃ ρ1,c ρ=some (false,ρ1)/\Q ρ1)\/(∃ ρ1 ρ2 k',c ρ=some (true,ρ1)/\b ρ1=some (.nx ρ2)/\k'<k/\I k' ρ2)):∀ m k ρ,k<m->I k ρ->∃ ρ',x5f c b m ρ=some (.nx ρ')/\Q ρ'
 | 0,k,_,hk,_=>absurd hk (Zf k)
 | m+1,k,ρ,hk,i=>by
  rcases h k ρ i with⟨ρ1,h1,h2⟩|⟨ρ1,ρ2,k',h1,h2,h3,h4⟩
  ·exact⟨ρ1,by unfold x5f;simp[h1],h2⟩
  ·obtain⟨ρ',e,q⟩:=y0u I h m k' ρ2 (by omega) h4
   refine⟨ρ',?_,q⟩
   unfold x5f
   simp[h1,h2,e]
theorem y7c{c:x4x}{b:x1g}{Q:Rho->Prop}(I:Nat->Rho->Prop){k:Nat}{ρ:Rho}(hk:k<1000)(i:I k ρ)
  (h:∀ k ρ,I k ρ->(∃ ρ1,c ρ=some (false,ρ1)/\Q ρ1)\/(∃ ρ1 ρ2 k',c ρ=some (true,ρ1)/\b ρ1=some (.nx ρ2)/\k'<k/\I k' ρ2)):∃ ρ',y9p c b ρ=some (.nx ρ')/\Q ρ':=y0u I h 1000 k ρ hk i
def gv (v:List Nat)(i:Nat):Nat:=v.getD i 0
theorem y99{v:List Nat}{i:Nat}(h:i<v.length):v[i]? = some (gv v i):=by unfold gv;simp[h]
theorem z89{v:List Nat}{i:Nat}(h:i<v.length):gv v i∈v:=y5x h
theorem j3a{v:List Nat}{i:Nat}(h:i<v.length):atD (.tup (x0h v)) (Int.ofNat i)=some (.int (Int.ofNat (gv v i))):=z0v (y99 h)
theorem z8j{v:List Nat}{i:Nat}(h:i<v.length)(x j:Nat):gv (v.set i x) j=if j=i then x else gv v j:=by
 unfold gv
 rw[Qh,Qh]
 by_cases e:j=i
 ·subst e;rw[Qj rfl,QX h];rfl
 ·rw[Qk e,QY (fun z=>e z.symm)]
theorem z42{u v:List Nat}(h:u.length=v.length)(k:∀ i,i<u.length->gv u i=gv v i):u=v:=by
 apply Zx
 intro i
 by_cases hi:i<u.length
 ·rw[y99 hi,y99 (by omega),k i hi]
 ·rw[QF (by omega),QF (by omega)]
structure Vn (n p:Nat) (v:List Nat):Prop where
 len:v.length=p
 lt:∀ x∈v,x<n
theorem Vn.gv{n p:Nat}{v:List Nat}(h:Vn n p v){i:Nat}(hi:i<p):gv v i<n:=h.lt _ (z89 (by rw[h.len];exact hi))
theorem Vn.set{n p:Nat}{v:List Nat}(h:Vn n p v){i x:Nat}(hx:x<n):Vn n p (v.set i x):=⟨by rw[Ze];exact h.len,fun y hy=>by
 rcases List.mem_or_eq_of_mem_set hy with h' | h'
 ·exact h.lt y h'
 ·rw[h'];exact hx⟩
def leV (f:Nat->Nat->Nat)(p:Nat)(u v:List Nat):Prop:=∀ i,i<p->f (gv u i) (gv v i)=gv v i
abbrev ChS:=Nat×(List Nat->Nat)
def doS (f:Nat->Nat->Nat)(v:List Nat)(s:ChS):List Nat:=v.set s.1 (f (gv v s.1) (s.2 v))
structure OkS (n p:Nat) (f:Nat->Nat->Nat) (s:ChS):Prop where
 pl:s.1<p
 lt:∀ v,Vn n p v->s.2 v<n
 mono:∀ u v,Vn n p u->Vn n p v->leV f p u v->f (s.2 u) (s.2 v)=s.2 v
def ClS (f:Nat->Nat->Nat)(l:List ChS)(v:List Nat):Prop:=∀ s∈l,f (s.2 v) (gv v s.1)=gv v s.1
namespace Lad
variable {s:ChS}{u v:List Nat}
variable {n:Nat}{f:Nat->Nat->Nat}(L:Lad n f){p:Nat}
include L
theorem leV_refl(h:Vn n p v):leV f p v v:=fun i hi=>L.idem _ (h.gv hi)
theorem leV_trans{w:List Nat}(hu:Vn n p u)(hv:Vn n p v)(hw:Vn n p w)(a:leV f p u v)(b:leV f p v w):leV f p u w:=fun i hi=>L.le_trans (hu.gv hi) (hv.gv hi) (hw.gv hi) (a i hi) (b i hi)
theorem leV_anti(hu:Vn n p u)(hv:Vn n p v)(a:leV f p u v)(b:leV f p v u):u=v:=
 z42 (hu.len.trans hv.len.symm) fun i hi=>by
  rw[hu.len]at hi
  exact L.le_anti (hu.gv hi) (hv.gv hi) (a i hi) (b i hi)
theorem doS_V(hs:OkS n p f s)(h:Vn n p v):Vn n p (doS f v s):=h.set (L.cl _ _ (h.gv hs.pl) (hs.lt v h))
theorem doS_gv(hs:OkS n p f s)(h:Vn n p v)(i:Nat):gv (doS f v s) i=if i=s.1 then f (gv v s.1) (s.2 v)else gv v i:=z8j (by rw[h.len];exact hs.pl) _ _
theorem doS_up(hs:OkS n p f s)(h:Vn n p v):leV f p v (doS f v s):=fun i hi=>by
 rw[L.doS_gv hs h]
 by_cases e:i=s.1
 ·subst e;rw[Qj rfl];exact L.le_l (h.gv hi) (hs.lt v h)
 ·rw[Qk e];exact L.idem _ (h.gv hi)
theorem doS_mono(hs:OkS n p f s)(hu:Vn n p u)(hv:Vn n p v)(a:leV f p u v):leV f p (doS f u s) (doS f v s):=fun i hi=>by
 rw[L.doS_gv hs hu,L.doS_gv hs hv]
 by_cases e:i=s.1
 ·subst e
  rw[Qj rfl,Qj rfl]
  have h1:=hu.gv hs.pl
  have h2:=hs.lt u hu
  have h3:=hv.gv hs.pl
  have h4:=hs.lt v hv
  exact L.lub h1 h2 (L.cl _ _ h3 h4) (L.le_trans h1 h3 (L.cl _ _ h3 h4) (a _ hs.pl) (L.le_l h3 h4)) (L.le_trans h2 h4 (L.cl _ _ h3 h4) (hs.mono u v hu hv a) (L.le_r h3 h4))
 ·rw[Qk e,Qk e];exact a i hi
theorem doS_fix(hs:OkS n p f s)(h:Vn n p v):doS f v s=v ↔ f (s.2 v) (gv v s.1)=gv v s.1:=by
 constructor
 ·intro e
  have:=ZL (fun u=>gv u s.1) e
  rw[L.doS_gv hs h,Qj rfl]at this
  rw[L.comm _ _ (hs.lt v h) (h.gv hs.pl)]
  exact this
 ·intro e
  refine z42 (by unfold doS;rw[Ze]) fun i hi=>?_
  rw[L.doS_gv hs h]
  by_cases e':i=s.1
  ·subst e';rw[Qj rfl,L.comm _ _ (h.gv hs.pl) (hs.lt v h)];exact e
  ·rw[Qk e']
theorem foldS_V:∀ {l:List ChS} {v:List Nat},(∀ s∈l,OkS n p f s)->Vn n p v->Vn n p (l.foldl (doS f) v)
 | [],v,_,h=>h
 | s::l,v,hs,h=>foldS_V (l:=l) (fun t m=>hs t (Qe _ m)) (L.doS_V (hs s Qf) h)
theorem foldS_up:∀ {l:List ChS} {v:List Nat},(∀ s∈l,OkS n p f s)->Vn n p v->leV f p v (l.foldl (doS f) v)
 | [],v,_,h=>L.leV_refl h
 | s::l,v,hs,h=>by
  have h1:=L.doS_V (hs s Qf) h
  have hl:∀ t∈l,OkS n p f t:=fun t m=>hs t (Qe _ m)
  exact L.leV_trans h h1 (L.foldS_V (l:=l) hl h1) (L.doS_up (hs s Qf) h) (foldS_up (l:=l) hl h1)
theorem foldS_below{a:List Nat}(ha:Vn n p a):∀ {l:List ChS} {v:List Nat},(∀ s∈l,OkS n p f s)->Vn n p v->ClS f l a->leV f p v a->leV f p (l.foldl (doS f) v) a
 | [],v,_,h,_,e=>e
 | s::l,v,hs,h,c,e=>by
  have s0:=hs s Qf
  have h1:=L.doS_V s0 h
  have hl:∀ t∈l,OkS n p f t:=fun t m=>hs t (Qe _ m)
  refine foldS_below ha (l:=l) hl h1 (fun t m=>c t (Qe _ m)) ?_
  have:=L.doS_mono s0 h ha e
  rw[(L.doS_fix s0 ha).mpr (c s Qf)]at this
  exact this
theorem foldS_fix:∀ {l:List ChS} {v:List Nat},(∀ s∈l,OkS n p f s)->Vn n p v->(l.foldl (doS f) v=v ↔ ClS f l v)
 | [],v,_,h=>⟨fun _ _ m=>(Qg m).elim,fun _=>rfl⟩
 | s::l,v,hs,h=>by
  have s0:=hs s Qf
  have h1:=L.doS_V s0 h
  have hl:∀ t∈l,OkS n p f t:=fun t m=>hs t (Qe _ m)
  constructor
  ·intro e
   have e0:l.foldl (doS f) (doS f v s)=v:=e
   have up:=L.foldS_up hl h1
   rw[e0]at up
   have e1:doS f v s=v:=L.leV_anti h1 h up (L.doS_up s0 h)
   rw[e1]at e0
   have c:=(foldS_fix (l:=l) hl h).mp e0
   intro t m
   rcases Qq.mp m with rfl|m
   ·exact(L.doS_fix s0 h).mp e1
   ·exact c t m
  ·intro c
   show l.foldl (doS f) (doS f v s)=v
   rw[(L.doS_fix s0 h).mpr (c s Qf)]
   exact(foldS_fix (l:=l) hl h).mpr fun t m=>c t (Qe _ m)
def cnt (n:Nat)(f:Nat->Nat->Nat)(x:Nat):Nat:=((List.range n).filter fun y=>decide (f x y=y)).length
def mu (n:Nat)(f:Nat->Nat->Nat)(v:List Nat):Nat:=(v.map (cnt n f)).sum
omit L in
theorem z8t(x:Nat):cnt n f x<=n:=by
 have:=Zz (fun y=>decide (f x y=y)) (List.range n)
 rw[QJ]at this
 exact this
omit L in
theorem mu_le(h:Vn n p v):mu n f v<=p*n:=by
 have key:∀ l:List Nat,(l.map (cnt n f)).sum<=l.length*n:=by
  intro l
  induction l with
  | nil=>simp
  | cons x l ih=>
   have:=z8t (n:=n) (f:=f) x
   simp only[Qx,List.sum_cons,QH,Nat.succ_mul]
   omega
 have:=key v
 rw[h.len]at this
 exact this
omit L in
theorem x76{q r:Nat->Bool}{a:Nat}:∀ {l:List Nat},(∀ x∈l,r x=true->q x=true)->a∈l->q a=true->r a=false->(l.filter r).length<(l.filter q).length
 | y::l,h,ha,hq,hr=>by
  have hl:∀ x∈l,r x=true->q x=true:=fun x m=>h x (Qe _ m)
  have le:∀ l:List Nat,(∀ x∈l,r x=true->q x=true)->(l.filter r).length<=(l.filter q).length:=by
   intro l
   induction l with
   | nil=>intro _;simp
   | cons z l ih=>
    intro h
    have i:=ih fun x m=>h x (Qe _ m)
    by_cases hz:r z=true
    ·rw[QT hz,QT (h z Qf hz)]
     simp only[QH];omega
    ·rw[Q5 hz]
     by_cases hz':q z=true
     ·rw[QT hz'];simp only[QH];omega
     ·rw[Q5 hz'];exact i
  by_cases e:y=a
  ·subst e
   rw[Q5 (by rw[hr];simp),QT hq]
   have:=le l hl
   simp only[QH];omega
  ·have ha':a∈l:=by
    rcases Qq.mp ha with h' | h'
    ·exact absurd h'.symm e
    ·exact h'
   have i:=x76 (l:=l) hl ha' hq hr
   by_cases hz:r y=true
   ·rw[QT hz,QT (h y Qf hz)]
    simp only[QH];omega
   ·rw[Q5 hz]
    by_cases hz':q y=true
    ·rw[QT hz'];simp only[QH];omega
    ·rw[Q5 hz'];exact i
theorem cnt_lt{x y:Nat}(hx:x<n)(hy:y<n)(h:f x y=y)(ne:x≠y):cnt n f y<cnt n f x:=by
 refine x76 (a:=x) (fun k m hk=>?_) (QA.mpr hx) (Qs (L.idem x hx)) (QK fun e=>ne (L.le_anti hx hy h e))
 exact Qs (L.le_trans hx hy (QA.mp m) h (QR hk))
theorem mu_lt(hu:Vn n p u)(hv:Vn n p v)(a:leV f p u v)(ne:u≠v):mu n f v<mu n f u:=by
 have key:∀ (u v:List Nat),u.length=v.length->(∀ x∈u,x<n)->(∀ x∈v,x<n)->(∀ i,i<u.length->f (gv u i) (gv v i)=gv v i)->((v.map (cnt n f)).sum<=(u.map (cnt n f)).sum)/\(u≠v->(v.map (cnt n f)).sum<(u.map (cnt n f)).sum):=by
  intro u
  induction u with
  | nil=>
   intro v hl _ _ _
   have:v=[]:=ZC.mp hl.symm
   subst this
   exact⟨Qi _,fun h=>absurd rfl h⟩
  | cons x u ih=>
   intro v hl h1 h2 h3
   cases v with
   | nil=>cases hl
   | cons y v=>
    have hl':u.length=v.length:=by simpa using hl
    obtain⟨i1,i2⟩:=ih v hl' (fun z m=>h1 z (Qe _ m)) (fun z m=>h2 z (Qe _ m)) (fun i hi=>h3 (i+1) (by simpa using hi))
    have e0:f x y=y:=h3 0 (by simp)
    have hx:=h1 x Qf
    have hy:=h2 y Qf
    simp only[Qx,List.sum_cons]
    by_cases e:x=y
    ·subst e
     exact⟨by omega,fun h=>by have:=i2 (fun z=>h (by rw[z]));omega⟩
    ·have:=L.cnt_lt hx hy e0 e
     exact⟨by omega,fun _=>by omega⟩
 exact(key u v (hu.len.trans hv.len.symm) hu.lt hv.lt (fun i hi=>a i (by rw[<- hu.len];exact hi))).2 ne
end Lad
end L3
namespace My
open PySem PySem.Spec PyProof.Rows L2 L3
variable {B l:List (Nat×Nat)}{W:List (Nat×Nat×(Nat->Nat))}{a d x:D}{b:Nat×Nat}{ds:List D}{f:Nat->Nat->Nat}{fk te:Den}{h:Heap}{i j n p q q' q2 z:Nat}{m:Int}{st:Stmt}{v:List Nat}{ρ ρ1 ρ2:Rho}
def top (i:Nat):Stmt:=PySem.Challenge.pw_ladderhall_k71_whole_joined_ways.main.body.getD i (.Pass ⟨0,0,0,0⟩)
structure Bt (mg:Str->Option Value):Prop where
 m_all:mg "all" = none
 m_bool:mg "bool" = none
 m_int:mg "int" = none
 m_isinstance:mg "isinstance" = none
 m_len:mg "len" = none
 m_list:mg "list" = none
 m_max:mg "max" = none
 m_range:mg "range" = none
 m_set:mg "set" = none
 m_sorted:mg "sorted" = none
 m_str:mg "str" = none
 m_tuple:mg "tuple" = none
 m_zip:mg "zip" = none
section
variable {P:Program}{w:World}{K:PySem.W.Frag}{mg:Str->Option Value}{base:Heap}
def y01:x1g:=x16 (sIf (x4n (e2 dLt (x05 1) (x1k 0))) (x3t (x1z 0 (x05 1))) y0r)
 (x16 (sIf (x4n (e2 dEq (x05 0) (x5w x0g))) (x3t (eC (.int 0))) y0r)
 (x3t (e2 x39 (e2 y6e (x1z 0 (e2 z57 (x05 1) (x1k 0))) (eC (.int 31))) (x05 1))))
def x3s:List D->OD:=fnD 2 (y01)
theorem y42:FnScope ["_law_script","_law_k"] ["_law_script","_law_k"] (x0c (top 27)):=fsq
theorem y4s(B:Bt mg)(a:At K mg "_law_cell" (top 27) ["_law_script","_law_k"]):Cal P w K mg base 1 "_law_cell" 2 (x3s):=
 Cal.mkQ (k:=0) a y42 fun f cdv A outer s H E hr=>
  x07 (x3u (y6k (x02 (qv 1)) (x17 B.m_len (qv 0))) (x0d (x0q (x0v (qv 0) (x02 (qv 1))))) x2n)
  (x07 (x3u (x8l hr (x02 (qv 0)) (x22 x03)) (x0d (x0q x09)) x2n)
  (x0d (x0q (x19 (x69 (x0v (qv 0) (y12 (x02 (qv 1)) (x17 B.m_len (qv 0)))) x09) (x02 (qv 1))))))
def x9n:x1g:=x16 (x25 3 (e2 z57 (e2 y6e (e2 x39 (x0p x3s 2 (x01 (x05 0) (x01 (x05 1) x0g))) (e2 y6e (eC (.int 6151)) (e2 x39 (x05 1) (eC (.int 1))))) (eC (.int 40692))) (eC (.int 2147483399))))
 (x3t (e2 z57 (e2 z57 (e2 x39 (e2 y6e (x05 3) (x05 3)) (e2 j16 (x05 3) (eC (.int 31)))) (eC (.int 2147483629))) (x05 2)))
def x0b:List D->OD:=fnD 4 (x9n)
theorem x8k:FnScope ["_law_script","_law_k","_law_many","_law_drawn"] ["_law_script","_law_k","_law_many"] (x0c (top 28)):=fsq
theorem y4b(B:Bt mg)(c11:Cal P w K mg base 1 "_law_cell" 2 x3s)(a:At K mg "_law_pick" (top 28) ["_law_script","_law_k","_law_many"]):Cal P w K mg base 2 "_law_pick" 3 (x0b):=
 Cal.mkQ (k:=1) a x8k fun f cdv A outer s H E hr=>
  x07 (x0n (i:=3) x8k.nd rfl (Or.inl rfl) (y12 (x69 (x19 (x0a c11 hr (by decide) (x00 (x02 (qv 0)) (x00 (x02 (qv 1)) x03 x04) x04)) (x69 x09 (x19 (x02 (qv 1)) x09))) x09) x09))
  (x0d (x0q (y12 (y12 (x19 (x69 (x02 (qv 3)) (x02 (qv 3))) (y9a (x02 (qv 3)) x09)) x09) (x02 (qv 2)))))
def y36:x1g:=x3t (x2r 1 (x14 (x01 (x05 0) x0g)) (x0k 1) x2d (x2r 1 (x14 (x01 (x05 0) x0g)) (x0k 2) x2d (eB j19 (x01 (x05 1) (x01 (x05 2) x0g))) false) false)
def x0x:List D->OD:=fnD 1 (y36)
theorem y25:FnScope ["_law_many"] ["_law_many"] (x0c (top 29)):=fsq
abbrev x7e:List Str:=["_law_many","_law_one","_law_other"]
theorem y0i:(x7e).Nodup:=by decide +kernel
abbrev x75:List Str:=["_law_many","_law_one"]
theorem y0e:(x75).Nodup:=by decide +kernel
theorem y3e(B:Bt mg)(a:At K mg "_law_chain" (top 29) ["_law_many"]):Cal P w K mg base 1 "_law_chain" 1 (x0x):=
 Cal.mkQ (k:=0) a y25 fun f cdv A outer s H E hr=>
  x0d (x0q (x3e (k:=1) (N':=x75) false rfl ⟨rfl,by decide +kernel,rfl,rfl,rfl⟩ (x0u B.m_range (x00 (x02 (qv 0)) x03 x04)) (fun _ _ _ _=>x0j (i:=1) (show 1<=1 by decide) y0e rfl (Or.inr rfl) (Or.inl rfl)) (fun _ _ _ _=>x2a) (fun _ _ _ _=>x3e (k:=1) (N':=x7e) false rfl ⟨rfl,by decide +kernel,rfl,rfl,rfl⟩ (x0u B.m_range (x00 (x02 (qv 0)) x03 x04)) (fun _ _ _ _=>x0j (i:=2) (show 2<=2 by decide) y0i rfl (Or.inl rfl) (Or.inr rfl)) (fun _ _ _ _=>x2a) (fun _ _ _ _=>y8a rfl B.m_max VH (x00 (x02 (qv 1)) (x00 (x02 (qv 2)) x03 x04) x04)))))
def y0g:x1g:=x16 (x25 2 (x1k 1))
 (x16 (x25 3 (x5w x0g))
 (x16 (x7p (x14 (x01 (e2 y6e (x1k 0) (x05 2)) x0g)) (x0k 4) (x16 (x25 5 (x5w x0g))
 (x16 (x7p (x14 (x01 (e2 y6e (x1k 0) (x05 2)) x0g)) (x0k 6) (x16 (x25 7 (eIx (x1z 0 (e2 j16 (x05 4) (x05 2))) (e2 j16 (x05 6) (x05 2))))
 (x3f (x8y 5 (x01 (e2 x39 (e2 y6e (x05 7) (x05 2)) (eIx (x1z 1 (e2 z57 (x05 4) (x05 2))) (e2 z57 (x05 6) (x05 2)))) x0g)))))
 (x3f (x8y 3 (x01 (x05 5) x0g))))))
 (x3t (x05 3))))
def x11:List D->OD:=fnD 8 (y0g)
theorem x1b:FnScope ["_law_one","_law_other","_law_many","_law_made","_law_here","_law_row","_law_there","_law_first"] ["_law_one","_law_other"] (x0c (top 30)):=fsq
theorem y0q(B:Bt mg)(a:At K mg "_law_couples" (top 30) ["_law_one","_law_other"]):Cal P w K mg base 1 "_law_couples" 2 (x11):=
 Cal.mkQ (k:=0) a x1b fun f cdv A outer s H E hr=>
  x07 (x0n (i:=2) x1b.nd rfl (Or.inl rfl) (x17 B.m_len (qv 1)))
  (x07 (x0n (i:=3) x1b.nd rfl (Or.inl rfl) (x22 x03))
  (x07 (x1t QN rfl (x0u B.m_range (x00 (x69 (x17 B.m_len (qv 0)) (x02 (qv 2))) x03 x0z)) (x0j (i:=4) (show 0<=4 by decide) x1b.nd rfl (Or.inl rfl)) (x07 (x0n (i:=5) x1b.nd rfl (Or.inl rfl) (x22 x03))
  (x07 (x1t QN rfl (x0u B.m_range (x00 (x69 (x17 B.m_len (qv 0)) (x02 (qv 2))) x03 x0z)) (x0j (i:=6) (show 0<=6 by decide) x1b.nd rfl (Or.inl rfl)) (x07 (x0n (i:=7) x1b.nd rfl (Or.inl rfl) (x53 (x0v (qv 0) (y9a (x02 (qv 4)) (x02 (qv 2)))) (y9a (x02 (qv 6)) (x02 (qv 2)))))
  (x0d (x2f (x1y (qv 5) (x00 (x19 (x69 (x02 (qv 7)) (x02 (qv 2))) (x53 (x0v (qv 1) (y12 (x02 (qv 4)) (x02 (qv 2)))) (y12 (x02 (qv 6)) (x02 (qv 2))))) x03 x0z))))))
  (x0d (x2f (x1y (qv 3) (x00 (x02 (qv 5)) x03 x04)))))))
  (x0d (x0q (x02 (qv 3))))))
def x6f:x1g:=x16 (x25 1 (x5w x0g))
 (x16 (x7p (x14 (x01 (e2 x39 (x05 0) (eC (.int 2))) x0g)) (x0k 2) (x16 (x25 3 (x5w x0g))
 (x16 (x7p (x14 (x01 (e2 x39 (x05 0) (eC (.int 2))) x0g)) (x0k 4) (x3f (x8y 3 (x01 (eIf (j00 (x4n (e2 dIn (eC (.int 0)) (x54 (x01 (x05 2) (x01 (x05 4) x0g))))) (x4n (e2 dEq (x05 2) (x05 4)))) (eB j19 (x01 (x05 2) (x01 (x05 4) x0g))) (e2 x39 (x05 0) (eC (.int 1)))) x0g))))
 (x3f (x8y 1 (x01 (x05 3) x0g))))))
 (x3t (x05 1)))
def x0t:List D->OD:=fnD 5 (x6f)
theorem x18:FnScope ["_law_many","_law_made","_law_one","_law_row","_law_other"] ["_law_many"] (x0c (top 31)):=fsq
theorem x6d(B:Bt mg)(a:At K mg "_law_side_by_side" (top 31) ["_law_many"]):Cal P w K mg base 1 "_law_side_by_side" 1 (x0t):=
 Cal.mkQ (k:=0) a x18 fun f cdv A outer s H E hr=>
  x07 (x0n (i:=1) x18.nd rfl (Or.inl rfl) (x22 x03))
  (x07 (x1t QN rfl (x0u B.m_range (x00 (x19 (x02 (qv 0)) x09) x03 x0z)) (x0j (i:=2) (show 0<=2 by decide) x18.nd rfl (Or.inl rfl)) (x07 (x0n (i:=3) x18.nd rfl (Or.inl rfl) (x22 x03))
  (x07 (x1t QN rfl (x0u B.m_range (x00 (x19 (x02 (qv 0)) x09) x03 x0z)) (x0j (i:=4) (show 0<=4 by decide) x18.nd rfl (Or.inl rfl)) (x0d (x2f (x1y (qv 3) (x00 (z2p (z9x (y8h (z8u hr x09 (x2w (x00 (x02 (qv 2)) (x00 (x02 (qv 4)) x03 x04) x04))) (y95 (x8l hr (x02 (qv 2)) (x02 (qv 4)))))) (y8a rfl B.m_max VH (x00 (x02 (qv 2)) (x00 (x02 (qv 4)) x03 x04) x04)) (x19 (x02 (qv 0)) x09)) x03 z1t)))))
  (x0d (x2f (x1y (qv 1) (x00 (x02 (qv 3)) x03 x04)))))))
  (x0d (x0q (x02 (qv 1)))))
def x9y:x1g:=x16 (x25 2 (x0p x0b 3 (x01 (x05 0) (x01 (x05 1) (x01 (eC (.int 9)) x0g)))))
 (x16 (sIf (x4n (e2 dLt (x05 2) (eC (.int 3)))) (x3t (x0p x0x 1 (x01 (e2 x39 (eC (.int 1)) (x0p x0b 3 (x01 (x05 0) (x01 (e2 x39 (x05 1) (eC (.int 1))) (x01 (eC (.int 5)) x0g))))) x0g))) y0r)
 (x16 (sIf (x4n (e2 dLt (x05 2) (eC (.int 5)))) (x3t (x0p x11 2 (x01 (x0p x0x 1 (x01 (eC (.int 2)) x0g)) (x01 (x0p x0x 1 (x01 (eIx (x5w (x01 (eC (.int 2)) (x01 (eC (.int 3)) (x01 (eC (.int 4)) x0g)))) (x0p x0b 3 (x01 (x05 0) (x01 (e2 x39 (x05 1) (eC (.int 1))) (x01 (eC (.int 3)) x0g))))) x0g)) x0g)))) y0r)
 (x16 (sIf (x4n (e2 dLt (x05 2) (eC (.int 7)))) (x3t (x0p x0t 1 (x01 (x0p x0b 3 (x01 (x05 0) (x01 (e2 x39 (x05 1) (eC (.int 1))) (x01 (eC (.int 5)) x0g)))) x0g))) y0r)
 (x16 (sIf (x4n (e2 dEq (x05 2) (eC (.int 7)))) (x3t (x0p x11 2 (x01 (x0p x0x 1 (x01 (eC (.int 2)) x0g)) (x01 (x0p x11 2 (x01 (x0p x0x 1 (x01 (eC (.int 2)) x0g)) (x01 (x0p x0x 1 (x01 (eC (.int 2)) x0g)) x0g))) x0g)))) y0r)
 (x16 (x25 3 (x5w (x01 (x5w (x01 (eC (.int 0)) (x01 (eC (.int 1)) (x01 (eC (.int 2)) (x01 (eC (.int 3)) (x01 (eC (.int 4)) x0g)))))) (x01 (x5w (x01 (eC (.int 1)) (x01 (eC (.int 1)) (x01 (eC (.int 2)) (x01 (eC (.int 4)) (x01 (eC (.int 4)) x0g)))))) (x01 (x5w (x01 (eC (.int 2)) (x01 (eC (.int 2)) (x01 (eC (.int 2)) (x01 (eC (.int 4)) (x01 (eC (.int 4)) x0g)))))) (x01 (x5w (x01 (eC (.int 3)) (x01 (eC (.int 4)) (x01 (eC (.int 4)) (x01 (eC (.int 3)) (x01 (eC (.int 4)) x0g)))))) (x01 (x5w (x01 (eC (.int 4)) (x01 (eC (.int 4)) (x01 (eC (.int 4)) (x01 (eC (.int 4)) (x01 (eC (.int 4)) x0g)))))) x0g)))))))
 (x3t (x05 3)))))))
def x3z:List D->OD:=fnD 4 (x9y)
theorem x5m:FnScope ["_law_script","_law_at","_law_kind","_law_rows"] ["_law_script","_law_at"] (x0c (top 32)):=fsq
theorem y4v(B:Bt mg)(c18:Cal P w K mg base 2 "_law_pick" 3 x0b)(c12:Cal P w K mg base 1 "_law_chain" 1 x0x)(c14:Cal P w K mg base 1 "_law_couples" 2 x11)(c20:Cal P w K mg base 1 "_law_side_by_side" 1 x0t)(a:At K mg "_law_base" (top 32) ["_law_script","_law_at"]):Cal P w K mg base 3 "_law_base" 2 (x3z):=
 Cal.mkQ (k:=2) a x5m fun f cdv A outer s H E hr=>
  x07 (x0n (i:=2) x5m.nd rfl (Or.inl rfl) (x0a c18 hr (by decide) (x00 (x02 (qv 0)) (x00 (x02 (qv 1)) (x00 x09 x03 x08) x04) x04)))
  (x07 (x3u (y6k (x02 (qv 2)) x09) (x0d (x0q (x0a c12 hr (by decide) (x00 (x19 x09 (x0a c18 hr (by decide) (x00 (x02 (qv 0)) (x00 (x19 (x02 (qv 1)) x09) (x00 x09 x03 x08) x0z) x04))) x03 x0z)))) x2n)
  (x07 (x3u (y6k (x02 (qv 2)) x09) (x0d (x0q (x0a c14 hr (by decide) (x00 (x0a c12 hr (by decide) (x00 x09 x03 x08)) (x00 (x0a c12 hr (by decide) (x00 (x53 (x22 (x00 x09 (x00 x09 (x00 x09 x03 x08) x08) x08)) (x0a c18 hr (by decide) (x00 (x02 (qv 0)) (x00 (x19 (x02 (qv 1)) x09) (x00 x09 x03 x08) x0z) x04))) x03 x0w)) x03 x0l) x0l)))) x2n)
  (x07 (x3u (y6k (x02 (qv 2)) x09) (x0d (x0q (x0a c20 hr (by decide) (x00 (x0a c18 hr (by decide) (x00 (x02 (qv 0)) (x00 (x19 (x02 (qv 1)) x09) (x00 x09 x03 x08) x0z) x04)) x03 x0l)))) x2n)
  (x07 (x3u (x8l hr (x02 (qv 2)) x09) (x0d (x0q (x0a c14 hr (by decide) (x00 (x0a c12 hr (by decide) (x00 x09 x03 x08)) (x00 (x0a c14 hr (by decide) (x00 (x0a c12 hr (by decide) (x00 x09 x03 x08)) (x00 (x0a c12 hr (by decide) (x00 x09 x03 x08)) x03 x0l) x0l)) x03 x0l) x0l)))) x2n)
  (x07 (x0n (i:=3) x5m.nd rfl (Or.inl rfl) (x22 (x00 (x22 (x00 x09 (x00 x09 (x00 x09 (x00 x09 (x00 x09 x03 x08) x08) x08) x08) x08)) (x00 (x22 (x00 x09 (x00 x09 (x00 x09 (x00 x09 (x00 x09 x03 x08) x08) x08) x08) x08)) (x00 (x22 (x00 x09 (x00 x09 (x00 x09 (x00 x09 (x00 x09 x03 x08) x08) x08) x08) x08)) (x00 (x22 (x00 x09 (x00 x09 (x00 x09 (x00 x09 (x00 x09 x03 x08) x08) x08) x08) x08)) (x00 (x22 (x00 x09 (x00 x09 (x00 x09 (x00 x09 (x00 x09 x03 x08) x08) x08) x08) x08)) x03 x9s) x9s) x9s) x9s) x9s)))
  (x0d (x0q (x02 (qv 3)))))))))
def x74:x1g:=x16 (x25 2 (x0p x3z 2 (x01 (x05 0) (x01 (x05 1) x0g))))
 (x16 (x25 3 (x8d (x01 (x1k 2) x0g)))
 (x16 (x25 4 (x2r 1 (x14 (x01 (x1k 2) x0g)) (x0k 8) x2d (j0o 3 (x01 (x0p x0b 3 (x01 (x05 0) (x01 (e2 x39 (e2 x39 (x05 1) (eC (.int 2))) (x05 8)) (x01 (x1k 3) x0g)))) x0g)) false))
 (x16 (x25 5 (x2r 1 (x5p (x05 2)) (x0k 8) x2d (y6q (x5w (x01 (eC (.int 0)) x0g)) (x1k 2)) true))
 (x16 (x7p (x14 (x01 (x1k 2) x0g)) (x0k 6) (x7p (x14 (x01 (x1k 2) x0g)) (x0k 7) (y8k 5 (qIx 4 (z6b 6)) (qIx 4 (z6b 7)) (x1z 4 (eIx (x1z 2 (x05 6)) (x05 7))))))
 (x3t (x2g (x01 (x2r 1 (x5p (x05 5)) (x0k 8) x2d (x2g (x01 (x05 8) x0g)) false) x0g)))))))
def x2b:List D->OD:=fnD 8 (x74)
theorem x1j:FnScope ["_law_script","_law_at","_law_base_here","_law_left","_law_name","_law_made","_law_one","_law_other"] ["_law_script","_law_at"] (x0c (top 33)):=fsq
abbrev x6b:List Str:=["_law_script","_law_at","_law_base_here","_law_left","_law_name","_law_made","_law_one","_law_other","_law_k"]
theorem x9a:(x6b).Nodup:=by decide +kernel
abbrev x49:List Str:=["_law_script","_law_at","_law_base_here","_law_left","_law_name","_law_made","_law_one","_law_other","_law_row"]
theorem x5e:(x49).Nodup:=by decide +kernel
theorem y28(B:Bt mg)(c10:Cal P w K mg base 3 "_law_base" 2 x3z)(c18:Cal P w K mg base 2 "_law_pick" 3 x0b)(a:At K mg "_law_ladder" (top 33) ["_law_script","_law_at"]):Cal P w K mg base 4 "_law_ladder" 2 (x2b):=
 Cal.mkQ (k:=3) a x1j fun f cdv A outer s H E hr=>
  x07 (x0n (i:=2) x1j.nd rfl (Or.inr rfl) (x0a c10 hr (by decide) (x00 (x02 (qv 0)) (x00 (x02 (qv 1)) x03 x04) x04)))
  (x07 (x0n (i:=3) x1j.nd rfl (Or.inr rfl) (y2g rfl B.m_list Jw B.m_range (x00 (x17 B.m_len (qv 2)) x03 x0l)))
  (x07 (x73 (i:=4) (k:=1) (N':=x6b) false x1j.nd rfl (Or.inl rfl) rfl rfl ⟨rfl,by decide +kernel,rfl,rfl,rfl⟩ (x0u B.m_range (x00 (x17 B.m_len (qv 2)) x03 x0l)) (fun _ _ _ _=>x0j (i:=8) (show 8<=8 by decide) x9a rfl (Or.inl rfl) (Or.inr rfl)) (fun _ _ _ _=>x2a) (fun _ _ _ _=>j11 (qv 3) (x00 (x0a c18 hr (by decide) (x00 (x02 (qv 0)) (x00 (x19 (x19 (x02 (qv 1)) x09) (x02 (qv 8))) (x00 (x17 B.m_len (qv 3)) x03 x0l) x0z) x04)) x03 x0l)))
  (x07 (x73 (i:=5) (k:=1) (N':=x49) true x1j.nd rfl (Or.inl rfl) rfl rfl ⟨rfl,by decide +kernel,rfl,rfl,rfl⟩ (x32 (x02 (qv 2))) (fun _ _ _ _=>x0j (i:=8) (show 8<=8 by decide) x5e rfl (Or.inl rfl) (Or.inr rfl)) (fun _ _ _ _=>x2a) (fun _ _ _ _=>y81 (x22 (x00 x09 x03 x08)) (x17 B.m_len (qv 2))))
  (x07 (x1t QN rfl (x0u B.m_range (x00 (x17 B.m_len (qv 2)) x03 x0l)) (x0j (i:=6) (show 0<=6 by decide) x1j.nd rfl (Or.inl rfl)) (x0d (x1t QN rfl (x0u B.m_range (x00 (x17 B.m_len (qv 2)) x03 x0l)) (x0j (i:=7) (show 0<=7 by decide) x1j.nd rfl (Or.inl rfl)) (x0d (z1f (qv 5) (z9i (qv 4) (z45 (qv 6))) (z9i (qv 4) (z45 (qv 7))) (x0v (qv 4) (x53 (x0v (qv 2) (x02 (qv 6))) (x02 (qv 7)))))))))
  (x0d (x0q (x2e B.m_tuple QG (x00 (x3e (k:=1) (N':=x49) false rfl ⟨rfl,by decide +kernel,rfl,rfl,rfl⟩ (x32 (x02 (qv 5))) (fun _ _ _ _=>x0j (i:=8) (show 8<=8 by decide) x5e rfl (Or.inl rfl) (Or.inr rfl)) (fun _ _ _ _=>x2a) (fun _ _ _ _=>x2e B.m_tuple QG (x00 (x02 (qv 8)) x03 x04))) x03 x35))))))))
def y15:x1g:=x3t (eIx (x2r 1 (x14 (x01 (x1k 0) x0g)) (x0k 1) (x4n (e2 dEq (y04 (x01 (x1z 0 (x05 1)) x0g)) (x8d (x01 (x1k 0) x0g)))) (x05 1) false) (eC (.int 0)))
def x36:List D->OD:=fnD 1 (y15)
theorem y5b:FnScope ["_law_ladder_here"] ["_law_ladder_here"] (x0c (top 34)):=fsq
abbrev x96:List Str:=["_law_ladder_here","_law_worth"]
theorem y2w:(x96).Nodup:=by decide +kernel
theorem y6w(B:Bt mg)(a:At K mg "_law_low" (top 34) ["_law_ladder_here"]):Cal P w K mg base 1 "_law_low" 1 (x36):=
 Cal.mkQ (k:=0) a y5b fun f cdv A outer s H E hr=>
  x0d (x0q (x53 (x3e (k:=1) (N':=x96) false rfl ⟨rfl,by decide +kernel,rfl,rfl,rfl⟩ (x0u B.m_range (x00 (x17 B.m_len (qv 0)) x03 x0l)) (fun _ _ _ _=>x0j (i:=1) (show 1<=1 by decide) y2w rfl (Or.inl rfl) (Or.inr rfl)) (fun _ _ _ _=>x94 (x8l hr (y7z B.m_list Jw (x00 (x0v (qv 0) (x02 (qv 1))) x03 x0w)) (y2g rfl B.m_list Jw B.m_range (x00 (x17 B.m_len (qv 0)) x03 x0l)))) (fun _ _ _ _=>x02 (qv 1))) x09))
def x99:x1g:=x16 (x25 2 (x0p x36 1 (x01 (x05 0) x0g)))
 (x16 (x7p (x5p (x05 1)) (x0k 3) (x25 2 (eIx (x1z 0 (x05 2)) (x05 3))))
 (x3t (x05 2)))
def x1i:List D->OD:=fnD 4 (x99)
theorem x44:FnScope ["_law_ladder_here","_law_worths","_law_here","_law_worth"] ["_law_ladder_here","_law_worths"] (x0c (top 35)):=fsq
theorem y4e(B:Bt mg)(c17:Cal P w K mg base 1 "_law_low" 1 x36)(a:At K mg "_law_join" (top 35) ["_law_ladder_here","_law_worths"]):Cal P w K mg base 2 "_law_join" 2 (x1i):=
 Cal.mkQ (k:=1) a x44 fun f cdv A outer s H E hr=>
  x07 (x0n (i:=2) x44.nd rfl (Or.inl rfl) (x0a c17 hr (by decide) (x00 (x02 (qv 0)) x03 x04)))
  (x07 (x1t QN rfl (x32 (x02 (qv 1))) (x0j (i:=3) (show 0<=3 by decide) x44.nd rfl (Or.inl rfl)) (x0d (x0n (i:=2) x44.nd rfl (Or.inl rfl) (x53 (x0v (qv 0) (x02 (qv 2))) (x02 (qv 3))))))
  (x0d (x0q (x02 (qv 2)))))
def x8c:x1g:=x3t (x2r 1 (x14 (x01 (x1k 0) x0g)) (x0k 2) (x4n (e2 dEq (eIx (x1z 0 (x05 2)) (x05 1)) (x05 1))) (x05 2) false)
def x1p:List D->OD:=fnD 2 (x8c)
theorem y1j:FnScope ["_law_ladder_here","_law_worth"] ["_law_ladder_here","_law_worth"] (x0c (top 36)):=fsq
abbrev x6t:List Str:=["_law_ladder_here","_law_worth","_law_one"]
theorem y0d:(x6t).Nodup:=by decide +kernel
theorem y3v(B:Bt mg)(a:At K mg "_law_under" (top 36) ["_law_ladder_here","_law_worth"]):Cal P w K mg base 1 "_law_under" 2 (x1p):=
 Cal.mkQ (k:=0) a y1j fun f cdv A outer s H E hr=>
  x0d (x0q (x3e (k:=1) (N':=x6t) false rfl ⟨rfl,by decide +kernel,rfl,rfl,rfl⟩ (x0u B.m_range (x00 (x17 B.m_len (qv 0)) x03 x0l)) (fun _ _ _ _=>x0j (i:=2) (show 2<=2 by decide) y0d rfl (Or.inl rfl) (Or.inr rfl)) (fun _ _ _ _=>x94 (x8l hr (x53 (x0v (qv 0) (x02 (qv 2))) (x02 (qv 1))) (x02 (qv 1)))) (fun _ _ _ _=>x02 (qv 2))))
def x9b:x1g:=x16 (x25 3 (x0p x36 1 (x01 (x05 2) x0g)))
 (x16 (x25 4 (x5w x0g))
 (x16 (x7p (x14 (x01 (x1k 2) x0g)) (x0k 5) (x3f (x8y 4 (x01 (eIx (x5w (x01 (x05 3) (x01 (x05 5) (x01 (x0p x0b 3 (x01 (x05 0) (x01 (e2 x39 (x05 1) (x05 5)) (x01 (x1k 2) x0g)))) x0g)))) (x0p x0b 3 (x01 (x05 0) (x01 (e2 x39 (e2 x39 (x05 1) (eC (.int 8))) (x05 5)) (x01 (eC (.int 3)) x0g))))) x0g))))
 (x16 (x25 6 (x5w x0g))
 (x16 (x7p (x14 (x01 (x1k 2) x0g)) (x0k 5) (x3f (x8y 6 (x01 (x0p x1i 2 (x01 (x05 2) (x01 (x2r 1 (x5p (x0p x1p 2 (x01 (x05 2) (x01 (x05 5) x0g)))) (x0k 7) x2d (x1z 4 (x05 7)) false) x0g))) x0g))))
 (x3t (x2g (x01 (x05 6) x0g)))))))
def x29:List D->OD:=fnD 7 (x9b)
theorem x2q:FnScope ["_law_script","_law_at","_law_ladder_here","_law_low_here","_law_drawn","_law_worth","_law_made"] ["_law_script","_law_at","_law_ladder_here"] (x0c (top 37)):=fsq
abbrev x8b:List Str:=["_law_script","_law_at","_law_ladder_here","_law_low_here","_law_drawn","_law_worth","_law_made","_law_one"]
theorem y1s:(x8b).Nodup:=by decide +kernel
theorem y4u(B:Bt mg)(c17:Cal P w K mg base 1 "_law_low" 1 x36)(c18:Cal P w K mg base 2 "_law_pick" 3 x0b)(c15:Cal P w K mg base 2 "_law_join" 2 x1i)(c23:Cal P w K mg base 1 "_law_under" 2 x1p)(a:At K mg "_law_rule" (top 37) ["_law_script","_law_at","_law_ladder_here"]):Cal P w K mg base 3 "_law_rule" 3 (x29):=
 Cal.mkQ (k:=2) a x2q fun f cdv A outer s H E hr=>
  x07 (x0n (i:=3) x2q.nd rfl (Or.inl rfl) (x0a c17 hr (by decide) (x00 (x02 (qv 2)) x03 x04)))
  (x07 (x0n (i:=4) x2q.nd rfl (Or.inr rfl) (x22 x03))
  (x07 (x1t QN rfl (x0u B.m_range (x00 (x17 B.m_len (qv 2)) x03 x0l)) (x0j (i:=5) (show 0<=5 by decide) x2q.nd rfl (Or.inl rfl)) (x0d (x2f (x1y (qv 4) (x00 (x53 (x22 (x00 (x02 (qv 3)) (x00 (x02 (qv 5)) (x00 (x0a c18 hr (by decide) (x00 (x02 (qv 0)) (x00 (x19 (x02 (qv 1)) (x02 (qv 5))) (x00 (x17 B.m_len (qv 2)) x03 x0l) x0z) x04)) x03 x0l) x04) x04)) (x0a c18 hr (by decide) (x00 (x02 (qv 0)) (x00 (x19 (x19 (x02 (qv 1)) x09) (x02 (qv 5))) (x00 x09 x03 x08) x0z) x04))) x03 x0w)))))
  (x07 (x0n (i:=6) x2q.nd rfl (Or.inl rfl) (x22 x03))
  (x07 (x1t QN rfl (x0u B.m_range (x00 (x17 B.m_len (qv 2)) x03 x0l)) (x0j (i:=5) (show 0<=5 by decide) x2q.nd rfl (Or.inl rfl)) (x0d (x2f (x1y (qv 6) (x00 (x0a c15 hr (by decide) (x00 (x02 (qv 2)) (x00 (x3e (k:=1) (N':=x8b) false rfl ⟨rfl,by decide +kernel,rfl,rfl,rfl⟩ (x32 (x0a c23 hr (by decide) (x00 (x02 (qv 2)) (x00 (x02 (qv 5)) x03 x04) x04))) (fun _ _ _ _=>x0j (i:=7) (show 7<=7 by decide) y1s rfl (Or.inl rfl) (Or.inr rfl)) (fun _ _ _ _=>x2a) (fun _ _ _ _=>x0v (qv 4) (x02 (qv 7)))) x03 x35) x04)) x03 x0l)))))
  (x0d (x0q (x2e B.m_tuple QG (x00 (x02 (qv 6)) x03 x04))))))))
def y0o:x1g:=x16 (x7p (x14 (x01 (x1k 0) x0g)) (x0k 2) (x7p (x14 (x01 (x05 2) x0g)) (x0k 3) (x16 (x25 4 (eIx (x1z 0 (x1z 1 (x05 2))) (x1z 1 (x05 3))))
 (sIf (x4n (e2 dNe (x1z 1 (eIx (x1z 0 (x05 2)) (x05 3))) (x05 4))) (x3t (eC (.bl false))) y0r))))
 (x3t (eC (.bl true)))
def x48:List D->OD:=fnD 5 (y0o)
theorem x2u:FnScope ["_law_ladder_here","_law_rule_here","_law_one","_law_other","_law_due"] ["_law_ladder_here","_law_rule_here"] (x0c (top 38)):=fsq
theorem y0n(B:Bt mg)(a:At K mg "_law_spreads" (top 38) ["_law_ladder_here","_law_rule_here"]):Cal P w K mg base 1 "_law_spreads" 2 (x48):=
 Cal.mkQ (k:=0) a x2u fun f cdv A outer s H E hr=>
  x07 (x1t QN rfl (x0u B.m_range (x00 (x17 B.m_len (qv 0)) x03 x0l)) (x0j (i:=2) (show 0<=2 by decide) x2u.nd rfl (Or.inl rfl)) (x0d (x1t QN rfl (x0u B.m_range (x00 (x02 (qv 2)) x03 x04)) (x0j (i:=3) (show 0<=3 by decide) x2u.nd rfl (Or.inl rfl)) (x07 (x0n (i:=4) x2u.nd rfl (Or.inl rfl) (x53 (x0v (qv 0) (x0v (qv 1) (x02 (qv 2)))) (x0v (qv 1) (x02 (qv 3)))))
  (x0d (x3u (y1b hr (x0v (qv 1) (x53 (x0v (qv 0) (x02 (qv 2))) (x02 (qv 3)))) (x02 (qv 4))) (x0d (x0q y9s)) x2n))))))
  (x0d (x0q y9s))
def x6u:x1g:=x16 (x25 3 (x0p x29 3 (x01 (x05 0) (x01 (x05 1) (x01 (x05 2) x0g)))))
 (x16 (sIf (z18 (x0p x48 2 (x01 (x05 2) (x01 (x05 3) x0g)))) (x3t (x05 3)) y0r)
 (x16 (x25 4 (x0p x0b 3 (x01 (x05 0) (x01 (e2 x39 (x05 1) (eC (.int 17))) (x01 (x1k 2) x0g)))))
 (x16 (x25 5 (x5w (x01 (x2g (x01 (x8d (x01 (x1k 2) x0g)) x0g)) (x01 (z5c (x54 (x01 (x05 4) x0g)) (x1k 2)) x0g))))
 (x16 (x3f (x8y 5 (x01 (x2g (x01 (x2r 1 (x14 (x01 (x1k 2) x0g)) (x0k 6) x2d (eIx (x1z 2 (x05 6)) (x05 4)) false) x0g)) x0g)))
 (x3t (x1z 5 (x0p x0b 3 (x01 (x05 0) (x01 (e2 x39 (x05 1) (eC (.int 16))) (x01 (eC (.int 3)) x0g))))))))))
def x24:List D->OD:=fnD 6 (x6u)
theorem x1v:FnScope ["_law_script","_law_at","_law_ladder_here","_law_rule_here","_law_worth","_law_some"] ["_law_script","_law_at","_law_ladder_here"] (x0c (top 39)):=fsq
abbrev x3x:List Str:=["_law_script","_law_at","_law_ladder_here","_law_rule_here","_law_worth","_law_some","_law_one"]
theorem x62:(x3x).Nodup:=by decide +kernel
theorem x7a(B:Bt mg)(c19:Cal P w K mg base 3 "_law_rule" 3 x29)(c22:Cal P w K mg base 1 "_law_spreads" 2 x48)(c18:Cal P w K mg base 2 "_law_pick" 3 x0b)(a:At K mg "_law_spread_rule" (top 39) ["_law_script","_law_at","_law_ladder_here"]):Cal P w K mg base 4 "_law_spread_rule" 3 (x24):=
 Cal.mkQ (k:=3) a x1v fun f cdv A outer s H E hr=>
  x07 (x0n (i:=3) x1v.nd rfl (Or.inl rfl) (x0a c19 hr (by decide) (x00 (x02 (qv 0)) (x00 (x02 (qv 1)) (x00 (x02 (qv 2)) x03 x04) x04) x04)))
  (x07 (x3u (x9k (x0a c22 hr (by decide) (x00 (x02 (qv 2)) (x00 (x02 (qv 3)) x03 x04) x04))) (x0d (x0q (x02 (qv 3)))) x2n)
  (x07 (x0n (i:=4) x1v.nd rfl (Or.inr rfl) (x0a c18 hr (by decide) (x00 (x02 (qv 0)) (x00 (x19 (x02 (qv 1)) x09) (x00 (x17 B.m_len (qv 2)) x03 x0l) x0z) x04)))
  (x07 (x0n (i:=5) x1v.nd rfl (Or.inl rfl) (x22 (x00 (x2e B.m_tuple QG (x00 (y2g rfl B.m_list Jw B.m_range (x00 (x17 B.m_len (qv 2)) x03 x0l)) x03 x0l)) (x00 (z6c (x2w (x00 (x02 (qv 4)) x03 x04)) (x17 B.m_len (qv 2))) x03 x0z) x0l)))
  (x07 (x2f (x1y (qv 5) (x00 (x2e B.m_tuple QG (x00 (x3e (k:=1) (N':=x3x) false rfl ⟨rfl,by decide +kernel,rfl,rfl,rfl⟩ (x0u B.m_range (x00 (x17 B.m_len (qv 2)) x03 x0l)) (fun _ _ _ _=>x0j (i:=6) (show 6<=6 by decide) x62 rfl (Or.inl rfl) (Or.inr rfl)) (fun _ _ _ _=>x2a) (fun _ _ _ _=>x53 (x0v (qv 2) (x02 (qv 6))) (x02 (qv 4)))) x03 x35)) x03 x0l)))
  (x0d (x0q (x0v (qv 5) (x0a c18 hr (by decide) (x00 (x02 (qv 0)) (x00 (x19 (x02 (qv 1)) x09) (x00 x09 x03 x08) x0z) x04)))))))))
abbrev x4t:x1g:=x16 (x25 7 (e2 x39 (e2 x39 (x05 1) (eC (.int 10))) (e2 y6e (eC (.int 22)) (x05 6))))
 (x16 (x25 8 (x0p x29 3 (x01 (x05 0) (x01 (e2 x39 (x05 7) (eC (.int 2))) (x01 (x05 2) x0g)))))
 (x16 (sIf (z18 (x05 3)) (x25 8 (x0p x24 3 (x01 (x05 0) (x01 (e2 x39 (x05 7) (eC (.int 2))) (x01 (x05 2) x0g))))) y0r)
 (x3f (x8y 5 (x01 (x54 (x01 (x0p x0b 3 (x01 (x05 0) (x01 (x05 7) (x01 (x05 4) x0g)))) (x01 (x0p x0b 3 (x01 (x05 0) (x01 (e2 x39 (x05 7) (eC (.int 1))) (x01 (x05 4) x0g)))) (x01 (x05 8) x0g)))) x0g)))))
abbrev x4y:x1g:=x16 (x25 10 (x0p x0b 3 (x01 (x05 0) (x01 (e2 x39 (e2 x39 (x05 1) (eC (.int 3))) (e2 y6e (eC (.int 2)) (x05 6))) (x01 (x1k 2) x0g)))))
 (x3f (x8y 9 (x01 (x54 (x01 (x0p x0b 3 (x01 (x05 0) (x01 (e2 x39 (e2 x39 (x05 1) (eC (.int 4))) (e2 y6e (eC (.int 2)) (x05 6))) (x01 (x05 4) x0g)))) (x01 (x05 10) x0g))) x0g)))
def x8j:x1g:=x16 (x25 4 (e2 x39 (eC (.int 1)) (x0p x0b 3 (x01 (x05 0) (x01 (x05 1) (x01 (eC (.int 5)) x0g))))))
 (x16 (x25 5 (x5w x0g))
 (x16 (x7p (x14 (x01 (x0p x0b 3 (x01 (x05 0) (x01 (e2 x39 (x05 1) (eC (.int 1))) (x01 (eC (.int 8)) x0g)))) x0g)) (x0k 6) (x16 (x25 7 (e2 x39 (e2 x39 (x05 1) (eC (.int 10))) (e2 y6e (eC (.int 22)) (x05 6))))
 (x16 (x25 8 (x0p x29 3 (x01 (x05 0) (x01 (e2 x39 (x05 7) (eC (.int 2))) (x01 (x05 2) x0g)))))
 (x16 (sIf (z18 (x05 3)) (x25 8 (x0p x24 3 (x01 (x05 0) (x01 (e2 x39 (x05 7) (eC (.int 2))) (x01 (x05 2) x0g))))) y0r)
 (x3f (x8y 5 (x01 (x54 (x01 (x0p x0b 3 (x01 (x05 0) (x01 (x05 7) (x01 (x05 4) x0g)))) (x01 (x0p x0b 3 (x01 (x05 0) (x01 (e2 x39 (x05 7) (eC (.int 1))) (x01 (x05 4) x0g)))) (x01 (x05 8) x0g)))) x0g)))))))
 (x16 (x25 9 (x5w x0g))
 (x16 (x7p (x14 (x01 (x0p x0b 3 (x01 (x05 0) (x01 (e2 x39 (x05 1) (eC (.int 2))) (x01 (eC (.int 4)) x0g)))) x0g)) (x0k 6) (x16 (x25 10 (x0p x0b 3 (x01 (x05 0) (x01 (e2 x39 (e2 x39 (x05 1) (eC (.int 3))) (e2 y6e (eC (.int 2)) (x05 6))) (x01 (x1k 2) x0g)))))
 (x3f (x8y 9 (x01 (x54 (x01 (x0p x0b 3 (x01 (x05 0) (x01 (e2 x39 (e2 x39 (x05 1) (eC (.int 4))) (e2 y6e (eC (.int 2)) (x05 6))) (x01 (x05 4) x0g)))) (x01 (x05 10) x0g))) x0g)))))
 (x3t (x54 (x01 (x05 4) (x01 (x2g (x01 (x05 5) x0g)) (x01 (x2g (x01 (x05 9) x0g)) x0g)))))))))
def x3c:List D->OD:=fnD 11 (x8j)
theorem x15:FnScope ["_law_script","_law_at","_law_ladder_here","_law_spread","_law_places","_law_ways","_law_k","_law_base_here","_law_rule_here","_law_begins","_law_worth"] ["_law_script","_law_at","_law_ladder_here","_law_spread"] (x0c (top 40)):=fsq
theorem y3k(B:Bt mg)(c18:Cal P w K mg base 2 "_law_pick" 3 x0b)(c19:Cal P w K mg base 3 "_law_rule" 3 x29)(c21:Cal P w K mg base 4 "_law_spread_rule" 3 x24)(a:At K mg "_law_chart" (top 40) ["_law_script","_law_at","_law_ladder_here","_law_spread"]):Cal P w K mg base 5 "_law_chart" 4 (x3c):=
 Cal.mkQ (k:=4) a x15 fun f cdv A outer s H E hr=>
  x07 (x0n (i:=4) x15.nd rfl (Or.inl rfl) (x19 x09 (x0a c18 hr (by decide) (x00 (x02 (qv 0)) (x00 (x02 (qv 1)) (x00 x09 x03 x08) x04) x04))))
  (x07 (x0n (i:=5) x15.nd rfl (Or.inl rfl) (x22 x03))
  (x07 (x1t QN rfl (x0u B.m_range (x00 (x0a c18 hr (by decide) (x00 (x02 (qv 0)) (x00 (x19 (x02 (qv 1)) x09) (x00 x09 x03 x08) x0z) x04)) x03 x0l)) (x0j (i:=6) (show 0<=6 by decide) x15.nd rfl (Or.inl rfl)) (x07 (x0n (i:=7) x15.nd rfl (Or.inl rfl) (x19 (x19 (x02 (qv 1)) x09) (x69 x09 (x02 (qv 6)))))
  (x07 (x0n (i:=8) x15.nd rfl (Or.inl rfl) (x0a c19 hr (by decide) (x00 (x02 (qv 0)) (x00 (x19 (x02 (qv 7)) x09) (x00 (x02 (qv 2)) x03 x04) x0z) x04)))
  (x07 (x3u (x9k (x02 (qv 3))) (x0d (x0n (i:=8) x15.nd rfl (Or.inl rfl) (x0a c21 hr (by decide) (x00 (x02 (qv 0)) (x00 (x19 (x02 (qv 7)) x09) (x00 (x02 (qv 2)) x03 x04) x0z) x04)))) x2n)
  (x0d (x2f (x1y (qv 5) (x00 (x2w (x00 (x0a c18 hr (by decide) (x00 (x02 (qv 0)) (x00 (x02 (qv 7)) (x00 (x02 (qv 4)) x03 x04) x04) x04)) (x00 (x0a c18 hr (by decide) (x00 (x02 (qv 0)) (x00 (x19 (x02 (qv 7)) x09) (x00 (x02 (qv 4)) x03 x04) x0z) x04)) (x00 (x02 (qv 8)) x03 x04) x0l) x0l)) x03 y2f))))))))
  (x07 (x0n (i:=9) x15.nd rfl (Or.inl rfl) (x22 x03))
  (x07 (x1t QN rfl (x0u B.m_range (x00 (x0a c18 hr (by decide) (x00 (x02 (qv 0)) (x00 (x19 (x02 (qv 1)) x09) (x00 x09 x03 x08) x0z) x04)) x03 x0l)) (x0j (i:=6) (show 0<=6 by decide) x15.nd rfl (Or.inl rfl)) (x07 (x0n (i:=10) x15.nd rfl (Or.inl rfl) (x0a c18 hr (by decide) (x00 (x02 (qv 0)) (x00 (x19 (x19 (x02 (qv 1)) x09) (x69 x09 (x02 (qv 6)))) (x00 (x17 B.m_len (qv 2)) x03 x0l) x0z) x04)))
  (x0d (x2f (x1y (qv 9) (x00 (x2w (x00 (x0a c18 hr (by decide) (x00 (x02 (qv 0)) (x00 (x19 (x19 (x02 (qv 1)) x09) (x69 x09 (x02 (qv 6)))) (x00 (x02 (qv 4)) x03 x04) x0z) x04)) (x00 (x02 (qv 10)) x03 x04) x0l)) x03 y2f))))))
  (x0d (x0q (x2w (x00 (x02 (qv 4)) (x00 (x2e B.m_tuple QG (x00 (x02 (qv 5)) x03 x04)) (x00 (x2e B.m_tuple QG (x00 (x02 (qv 9)) x03 x04)) x03 x0l) x0l) x04))))))))
def x6a:x1g:=x3t (x2g (x01 (x2r 2 (z1v (x01 (x05 1) (x01 (x05 2) x0g))) (y6b (x13 (x0k 3) (x13 (x0k 4) x5z))) x2d (eIx (x1z 0 (x05 3)) (x05 4)) false) x0g))
def x10:List D->OD:=fnD 3 (x6a)
theorem x9h:FnScope ["ladder","one","other"] ["ladder","one","other"] (x0c (top 11)):=fsq
abbrev x58:List Str:=["ladder","one","other","x","y"]
theorem x50:(x58).Nodup:=by decide +kernel
theorem y0p(B:Bt mg)(a:At K mg "joined_rules" (top 11) ["ladder","one","other"]):Cal P w K mg base 1 "joined_rules" 3 (x10):=
 Cal.mkQ (k:=0) a x9h fun f cdv A outer s H E hr=>
  x0d (x0q (x2e B.m_tuple QG (x00 (x3e (k:=2) (N':=x58) false rfl ⟨rfl,by decide +kernel,rfl,rfl,rfl⟩ (z7g B.m_zip (x00 (x02 (qv 1)) (x00 (x02 (qv 2)) x03 x04) x04)) (fun _ _ _ _=>x9w (n:=2) rfl (x28 (x0j (i:=3) (show 3<=3 by decide) x50 rfl (Or.inl rfl) (Or.inr rfl)) (x28 (x0j (i:=4) (show 3<=4 by decide) x50 rfl (Or.inl rfl) (Or.inr rfl)) x6z)) y1w) (fun _ _ _ _=>x2a) (fun _ _ _ _=>x53 (x0v (qv 0) (x02 (qv 3))) (x02 (qv 4)))) x03 x35)))
abbrev x4a:x1g:=y3w 2 (x54 (x01 (x05 3) (x01 (x05 4) x0g))) (x0p x10 3 (x01 (x05 0) (x01 (x8h 2 (x54 (x01 (x05 3) (x01 (x05 4) x0g))) (x05 5)) (x01 (x05 5) x0g))))
def x6x:x1g:=x16 (x25 2 z9a)
 (x16 (x7p (x5p (x05 1)) (y6b (x13 (x0k 3) (x13 (x0k 4) (x13 (x0k 5) x5z)))) (y3w 2 (x54 (x01 (x05 3) (x01 (x05 4) x0g))) (x0p x10 3 (x01 (x05 0) (x01 (x8h 2 (x54 (x01 (x05 3) (x01 (x05 4) x0g))) (x05 5)) (x01 (x05 5) x0g))))))
 (x3t (x2g (x01 (x2r 2 (x5p (y3x 2)) (y6b (x13 (x0k 6) (x13 (x0k 7) x5z))) x2d (x54 (x01 (x05 6) (x01 (x05 7) (x01 (z7y 2 (x54 (x01 (x05 6) (x01 (x05 7) x0g)))) x0g)))) false) x0g))))
def x2y:List D->OD:=fnD 6 (x6x)
theorem x2i:FnScope ["ladder","ways","rules","start","goal","rule"] ["ladder","ways"] (x0c (top 14)):=fsq
abbrev x68:List Str:=["ladder","ways","rules","#3","#4","rule","start","goal"]
theorem x5b:(x68).Nodup:=by decide +kernel
theorem y2d(B:Bt mg)(c30:Cal P w K mg base 1 "joined_rules" 3 x10)(a:At K mg "ways_joined" (top 14) ["ladder","ways"]):Cal P w K mg base 2 "ways_joined" 2 (x2y):=
 Cal.mkQ (k:=1) a x2i fun f cdv A outer s H E hr=>
  x07 (x0n (i:=2) x2i.nd rfl (Or.inr rfl) z1c)
  (x07 (x1t QN rfl (x32 (x02 (qv 1))) (x9w (n:=3) rfl (x28 (x0j (i:=3) (show 0<=3 by decide) x2i.nd rfl (Or.inl rfl)) (x28 (x0j (i:=4) (show 0<=4 by decide) x2i.nd rfl (Or.inl rfl)) (x28 (x0j (i:=5) (show 0<=5 by decide) x2i.nd rfl (Or.inl rfl)) x6z))) z74) (x0d (y64 hr (qv 2) (x2w (x00 (x02 (qv 3)) (x00 (x02 (qv 4)) x03 x04) x04)) (x0a c30 hr (by decide) (x00 (x02 (qv 0)) (x00 (y60 hr (qv 2) (x2w (x00 (x02 (qv 3)) (x00 (x02 (qv 4)) x03 x04) x04)) (x02 (qv 5))) (x00 (x02 (qv 5)) x03 x04) x0l) x04)))))
  (x0d (x0q (x2e B.m_tuple QG (x00 (x3e (k:=2) (N':=x68) false rfl ⟨rfl,by decide +kernel,rfl,rfl,rfl⟩ (x32 (z33 rfl B.m_sorted (qv 2))) (fun _ _ _ _=>x9w (n:=2) rfl (x28 (x0j (i:=6) (show 6<=6 by decide) x5b rfl (Or.inl rfl) (Or.inr rfl)) (x28 (x0j (i:=7) (show 6<=7 by decide) x5b rfl (Or.inl rfl) (Or.inr rfl)) x6z)) y1w) (fun _ _ _ _=>x2a) (fun _ _ _ _=>x2w (x00 (x02 (qv 6)) (x00 (x02 (qv 7)) (x00 (z93 hr (qv 2) (x2w (x00 (x02 (qv 6)) (x00 (x02 (qv 7)) x03 x04) x04))) x03 x0w) x04) x04))) x03 x35)))))
abbrev x3h:x1g:=y3w 2 (x05 3) (eIx (x1z 0 (x8h 2 (x05 3) (x05 4))) (x05 4))
def x5k:x1g:=x16 (x25 2 j0m)
 (x16 (x7p (x5p (x05 1)) (y6b (x13 (x0k 3) (x13 (x0k 4) x5z))) (y3w 2 (x05 3) (eIx (x1z 0 (x8h 2 (x05 3) (x05 4))) (x05 4))))
 (x3t (x2g (x01 (x5v 2) x0g))))
def x26:List D->OD:=fnD 5 (x5k)
theorem x2m:FnScope ["ladder","begins","worths","place","worth"] ["ladder","begins"] (x0c (top 15)):=fsq
theorem x9p(B:Bt mg)(a:At K mg "begins_joined" (top 15) ["ladder","begins"]):Cal P w K mg base 1 "begins_joined" 2 (x26):=
 Cal.mkQ (k:=0) a x2m fun f cdv A outer s H E hr=>
  x07 (x0n (i:=2) x2m.nd rfl (Or.inl rfl) z1q)
  (x07 (x1t QN rfl (x32 (x02 (qv 1))) (x9w (n:=2) rfl (x28 (x0j (i:=3) (show 0<=3 by decide) x2m.nd rfl (Or.inl rfl)) (x28 (x0j (i:=4) (show 0<=4 by decide) x2m.nd rfl (Or.inl rfl)) x6z)) y1w) (x0d (y64 hr (qv 2) (x02 (qv 3)) (x53 (x0v (qv 0) (y60 hr (qv 2) (x02 (qv 3)) (x02 (qv 4)))) (x02 (qv 4))))))
  (x0d (x0q (x2e B.m_tuple QG (x00 (y32 rfl B.m_sorted (qv 2)) x03 x0l)))))
def x7g:x1g:=x3t (x54 (x01 (x1z 1 (eC (.int 0))) (x01 (x0p x2y 2 (x01 (x05 0) (x01 (x1z 1 (eC (.int 1))) x0g))) (x01 (x0p x26 2 (x01 (x05 0) (x01 (x1z 1 (eC (.int 2))) x0g))) x0g))))
def x2c:List D->OD:=fnD 2 (x7g)
theorem y0b:FnScope ["ladder","chart"] ["ladder","chart"] (x0c (top 13)):=fsq
theorem y1u(B:Bt mg)(c41:Cal P w K mg base 2 "ways_joined" 2 x2y)(c25:Cal P w K mg base 1 "begins_joined" 2 x26)(a:At K mg "joined_ways" (top 13) ["ladder","chart"]):Cal P w K mg base 3 "joined_ways" 2 (x2c):=
 Cal.mkQ (k:=2) a y0b fun f cdv A outer s H E hr=>
  x0d (x0q (x2w (x00 (x0v (qv 1) x09) (x00 (x0a c41 hr (by decide) (x00 (x02 (qv 0)) (x00 (x0v (qv 1) x09) x03 x0w) x04)) (x00 (x0a c25 hr (by decide) (x00 (x02 (qv 0)) (x00 (x0v (qv 1) x09) x03 x0w) x04)) x03 x0l) x0l) x0w)))
def y11:x1g:=x3t (z97 (z7v .int (x05 0)) (j2n (z7v .bool (x05 0))))
def x4i:List D->OD:=fnD 1 (y11)
theorem y52:FnScope ["thing"] ["thing"] (x0c (top 4)):=fsq
theorem y72(B:Bt mg)(a:At K mg "is_whole" (top 4) ["thing"]):Cal P w K mg base 1 "is_whole" 1 (x4i):=
 Cal.mkQ (k:=0) a y52 fun f cdv A outer s H E hr=>
  x0d (x0q (y9f (y6i .int B.m_isinstance B.m_int PyProof.Rows.boot_int (x02 (qv 0))) (y92 (z8n (y6i .bool B.m_isinstance B.m_bool PyProof.Rows.boot_bool (x02 (qv 0)))))))
def x64:x1g:=x3t (z97 (x0p x4i 1 (x01 (x05 0) x0g)) (eCh dLe dLt (eC (.int 0)) (x05 0) (x05 1)))
def x2j:List D->OD:=fnD 2 (x64)
theorem x98:FnScope ["thing","many"] ["thing","many"] (x0c (top 5)):=fsq
theorem y0c(B:Bt mg)(c29:Cal P w K mg base 1 "is_whole" 1 x4i)(a:At K mg "is_number_of" (top 5) ["thing","many"]):Cal P w K mg base 2 "is_number_of" 2 (x2j):=
 Cal.mkQ (k:=1) a x98 fun f cdv A outer s H E hr=>
  x0d (x0q (y9f (x0a c29 hr (by decide) (x00 (x02 (qv 0)) x03 x04)) (y92 (y57 x09 (x02 (qv 0)) (x02 (qv 1))))))
def x4l:x1g:=x16 (sIf (j00 (y4i (z18 (z7v .tuple (x05 0)))) (j00 (x4n (e2 dNe (x1k 0) (eC (.int 2)))) (y4i (z18 (z7v .str (x1z 0 (eC (.int 0)))))))) (x3t (eC (.bl false))) y0r)
 (x3t (x0p x2j 2 (x01 (x1z 0 (eC (.int 1))) (x01 (z5q (x05 1) (x1z 0 (eC (.int 0))) (eC (.int 0))) x0g))))
def x1m:List D->OD:=fnD 2 (x4l)
theorem x6v:FnScope ["thing","many_by_name"] ["thing","many_by_name"] (x0c (top 6)):=fsq
theorem x81(B:Bt mg)(c27:Cal P w K mg base 2 "is_number_of" 2 x2j)(a:At K mg "is_named_number" (top 6) ["thing","many_by_name"]):Cal P w K mg base 3 "is_named_number" 2 (x1m):=
 Cal.mkQ (k:=2) a x6v fun f cdv A outer s H E hr=>
  x07 (x3u (z9x (y8h (y4f (x9k (y6i .tuple B.m_isinstance B.m_tuple QG (x02 (qv 0))))) (y8h (y1b hr (x17 B.m_len (qv 0)) x09) (y95 (y4f (x9k (y6i .str B.m_isinstance B.m_str PyProof.Rows.boot_str (x0v (qv 0) x09)))))))) (x0d (x0q y9s)) x2n)
  (x0d (x0q (x0a c27 hr (by decide) (x00 (x0v (qv 0) x09) (x00 (z51 hr (x02 (qv 1)) (x0v (qv 0) x09) x09) x03 x0l) x0w))))
def y2y:x1g:=x3t (x0p x1m 2 (x01 (x05 1) (x01 (y7w "begin" "way" (x8e 0 2) (x8e 0 1)) x0g)))
def x3d:List D->OD:=fnD 2 (y2y)
theorem y6u:FnScope ["chart","thing"] ["chart","thing"] (x0c (top 20)):=fsq
theorem z0l(B:Bt mg)(c26:Cal P w K mg base 3 "is_named_number" 2 x1m)(a:At K mg "is_step" (top 20) ["chart","thing"]):Cal P w K mg base 4 "is_step" 2 (x3d):=
 Cal.mkQ (k:=3) a y6u fun f cdv A outer s H E hr=>
  x0d (x0q (x0a c26 hr (by decide) (x00 (x02 (qv 1)) (x00 (z5f (by decide) (y5i B.m_len (qv 0)) (y5i B.m_len (qv 0))) x03 z7l) x04)))
def x52:x1g:=sIf (y4i (z18 (eB z7w (x01 (x2r 1 (x5p (x05 1)) (x0k 2) x2d (x0p x3d 2 (x01 (x05 0) (x01 (x05 2) x0g))) false) x0g)))) y7q (y0r)
def x1x:List D->OD:=fnD 2 (x52)
theorem x7v:FnScope ["chart","steps"] ["chart","steps"] (x0c (top 21)):=fsq
abbrev x4h:List Str:=["chart","steps","step"]
theorem x6o:(x4h).Nodup:=by decide +kernel
theorem x8q(B:Bt mg)(c28:Cal P w K mg base 4 "is_step" 2 x3d)(a:At K mg "refuse_no_step" (top 21) ["chart","steps"]):Cal P w K mg base 5 "refuse_no_step" 2 (x1x):=
 Cal.mkQ (k:=4) a x7v fun f cdv A outer s H E hr=>
  x0d (x3u (y4f (x9k (z9q rfl B.m_all (x00 (x3e (k:=1) (N':=x4h) false rfl ⟨rfl,by decide +kernel,rfl,rfl,rfl⟩ (x32 (x02 (qv 1))) (fun _ _ _ _=>x0j (i:=2) (show 2<=2 by decide) x6o rfl (Or.inl rfl) (Or.inr rfl)) (fun _ _ _ _=>x2a) (fun _ _ _ _=>x0a c28 hr (by decide) (x00 (x02 (qv 0)) (x00 (x02 (qv 2)) x03 x04) x04))) x03 x35)))) (x0d z0c) x2n)
def x4k:x1g:=x16 (sIf (x4n (e2 dEq (x1z 2 (eC (.int 0))) (eC (.str "begin")))) (x3t (eIx (x1z 0 (eC (.int 2))) (x1z 2 (eC (.int 1))))) y0r)
 (x16 (x25 3 (eIx (x1z 0 (eC (.int 1))) (x1z 2 (eC (.int 1)))))
 (x3t (x54 (x01 (x1z 3 (eC (.int 1))) (x01 (eIx (x1z 3 (eC (.int 2))) (x1z 1 (x1z 3 (eC (.int 0))))) x0g)))))
def x1o:List D->OD:=fnD 4 (x4k)
theorem x41:FnScope ["chart","worths","step","way"] ["chart","worths","step"] (x0c (top 22)):=fsq
theorem x7u(B:Bt mg)(a:At K mg "place_and_worth" (top 22) ["chart","worths","step"]):Cal P w K mg base 1 "place_and_worth" 3 (x1o):=
 Cal.mkQ (k:=0) a x41 fun f cdv A outer s H E hr=>
  x07 (x3u (x8l hr (x0v (qv 2) x09) y80) (x0d (x0q (x53 (x0v (qv 0) x09) (x0v (qv 2) x09)))) x2n)
  (x07 (x0n (i:=3) x41.nd rfl (Or.inl rfl) (x53 (x0v (qv 0) x09) (x0v (qv 2) x09)))
  (x0d (x0q (x2w (x00 (x0v (qv 3) x09) (x00 (x53 (x0v (qv 3) x09) (x0v (qv 1) (x0v (qv 3) x09))) x03 x0w) x0w)))))
def x56:x1g:=x16 (x25 4 (x0p x1o 3 (x01 (x05 1) (x01 (x05 2) (x01 (x05 3) x0g)))))
 (x16 (x25 5 (x1z 4 (eC (.int 0))))
 (x16 (x25 6 (eIx (x1z 0 (x1z 2 (x05 5))) (x1z 4 (eC (.int 1)))))
 (x3t (z7x (z7x (eSl (x05 2) x7f (x6e (x05 5))) (x54 (x01 (x05 6) x0g))) (eSl (x05 2) (x6e (e2 x39 (x05 5) (eC (.int 1)))) x7f)))))
def x1a:List D->OD:=fnD 7 (x56)
theorem x2l:FnScope ["ladder","chart","worths","step","coming","place","joined"] ["ladder","chart","worths","step"] (x0c (top 23)):=fsq
theorem y08(B:Bt mg)(c37:Cal P w K mg base 1 "place_and_worth" 3 x1o)(a:At K mg "worths_behind" (top 23) ["ladder","chart","worths","step"]):Cal P w K mg base 2 "worths_behind" 4 (x1a):=
 Cal.mkQ (k:=1) a x2l fun f cdv A outer s H E hr=>
  x07 (x0n (i:=4) x2l.nd rfl (Or.inl rfl) (x0a c37 hr (by decide) (x00 (x02 (qv 1)) (x00 (x02 (qv 2)) (x00 (x02 (qv 3)) x03 x04) x04) x04)))
  (x07 (x0n (i:=5) x2l.nd rfl (Or.inl rfl) (x0v (qv 4) x09))
  (x07 (x0n (i:=6) x2l.nd rfl (Or.inl rfl) (x53 (x0v (qv 0) (x0v (qv 2) (x02 (qv 5)))) (x0v (qv 4) x09)))
  (x0d (x0q (y8t (y8t (z32 (x02 (qv 2)) x71 (x7c (x02 (qv 5)))) (x2w (x00 (x02 (qv 6)) x03 x04))) (z32 (x02 (qv 2)) (x7c (x19 (x02 (qv 5)) x09)) x71))))))
abbrev y29:x1g:=x16 (x25 5 (x05 3))
 (x7p (x5p (x05 2)) (x0k 6) (x16 (x25 7 (x0p x1a 4 (x01 (x05 0) (x01 (x05 1) (x01 (x05 3) (x01 (x05 6) x0g))))))
 (x16 (sIf (x4n (e2 dNe (x05 7) (x05 3))) (x3f (x8y 4 (x01 (x05 6) x0g))) y0r)
 (x25 3 (x05 7)))))
abbrev x90:x1g:=x16 (x25 7 (x0p x1a 4 (x01 (x05 0) (x01 (x05 1) (x01 (x05 3) (x01 (x05 6) x0g))))))
 (x16 (sIf (x4n (e2 dNe (x05 7) (x05 3))) (x3f (x8y 4 (x01 (x05 6) x0g))) y0r)
 (x25 3 (x05 7)))
def y8u:x1g:=x16 (x25 4 (x5w x0g))
 (x16 (x25 5 (eC .non))
 (x16 (y9p (x4n (e2 dNe (x05 3) (x05 5))) (x16 (x25 5 (x05 3))
 (x7p (x5p (x05 2)) (x0k 6) (x16 (x25 7 (x0p x1a 4 (x01 (x05 0) (x01 (x05 1) (x01 (x05 3) (x01 (x05 6) x0g))))))
 (x16 (sIf (x4n (e2 dNe (x05 7) (x05 3))) (x3f (x8y 4 (x01 (x05 6) x0g))) y0r)
 (x25 3 (x05 7)))))))
 (x3t (x54 (x01 (x05 3) (x01 (x05 4) x0g))))))
def x8a:List D->OD:=fnD 8 (y8u)
theorem x4z:FnScope ["ladder","chart","order","worths","raising","ahead","step","behind"] ["ladder","chart","order","worths"] (x0c (top 24)):=fsq
theorem z6y(B:Bt mg)(c42:Cal P w K mg base 2 "worths_behind" 4 x1a)(a:At K mg "risen" (top 24) ["ladder","chart","order","worths"]):Cal P w K mg base 3 "risen" 4 (x8a):=
 Cal.mkQ (k:=2) a x4z fun f cdv A outer s H E hr=>
  x07 (x0n (i:=4) x4z.nd rfl (Or.inl rfl) (x22 x03))
  (x07 (x0n (i:=5) x4z.nd rfl (Or.inl rfl) z99)
  (x07 (y9m QN (y1b hr (x02 (qv 3)) (x02 (qv 5))) (x07 (x0n (i:=5) x4z.nd rfl (Or.inl rfl) (x02 (qv 3)))
  (x0d (x1t QN rfl (x32 (x02 (qv 2))) (x0j (i:=6) (show 0<=6 by decide) x4z.nd rfl (Or.inl rfl)) (x07 (x0n (i:=7) x4z.nd rfl (Or.inl rfl) (x0a c42 hr (by decide) (x00 (x02 (qv 0)) (x00 (x02 (qv 1)) (x00 (x02 (qv 3)) (x00 (x02 (qv 6)) x03 x04) x04) x04) x04)))
  (x07 (x3u (y1b hr (x02 (qv 7)) (x02 (qv 3))) (x0d (x2f (x1y (qv 4) (x00 (x02 (qv 6)) x03 x04)))) x2n)
  (x0d (x0n (i:=3) x4z.nd rfl (Or.inl rfl) (x02 (qv 7))))))))))
  (x0d (x0q (x2w (x00 (x02 (qv 3)) (x00 (x02 (qv 4)) x03 x04) x04))))))
def x67:x1g:=x3t (z9g (x01 (x05 0) x0g))
def x2h:List D->OD:=fnD 1 (x67)
theorem x9r:FnScope ["many"] ["many"] (x0c (top 8)):=fsq
theorem y0f(B:Bt mg)(a:At K mg "row_of_least" (top 8) ["many"]):Cal P w K mg base 1 "row_of_least" 1 (x2h):=
 Cal.mkQ (k:=0) a x9r fun f cdv A outer s H E hr=>
  x0d (x0q (z7j rfl B.m_tuple QG B.m_range (x00 (x02 (qv 0)) x03 x04)))
def y14:x1g:=x3t (z15 (x05 0) (x01 (x0p x2h 1 (x01 (x1k 0) x0g)) x0g))
def x4c:List D->OD:=fnD 1 (y14)
theorem y4c:FnScope ["ladder"] ["ladder"] (x0c (top 9)):=fsq
theorem y7h(B:Bt mg)(c40:Cal P w K mg base 1 "row_of_least" 1 x2h)(a:At K mg "least_of" (top 9) ["ladder"]):Cal P w K mg base 2 "least_of" 1 (x4c):=
 Cal.mkQ (k:=1) a y4c fun f cdv A outer s H E hr=>
  x0d (x0q (z3y hr (x02 (qv 0)) (x00 (x0a c40 hr (by decide) (x00 (x17 B.m_len (qv 0)) x03 x0l)) x03 x0l)))
def y5c:x1g:=x3t (x2g (x01 (y6q (x5w (x01 (x0p x4c 1 (x01 (x05 0) x0g)) x0g)) (x1z 1 (eC (.int 0)))) x0g))
def x78:List D->OD:=fnD 2 (y5c)
theorem y8l:FnScope ["ladder","chart"] ["ladder","chart"] (x0c (top 17)):=fsq
theorem z1s(B:Bt mg)(c35:Cal P w K mg base 2 "least_of" 1 x4c)(a:At K mg "lowest" (top 17) ["ladder","chart"]):Cal P w K mg base 3 "lowest" 2 (x78):=
 Cal.mkQ (k:=2) a y8l fun f cdv A outer s H E hr=>
  x0d (x0q (x2e B.m_tuple QG (x00 (y81 (x22 (x00 (x0a c35 hr (by decide) (x00 (x02 (qv 0)) x03 x04)) x03 x0l)) (x0v (qv 1) x09)) x03 x0z)))
def y0s:x1g:=x16 (x3f (x0p x1x 2 (x01 (x05 1) (x01 (x05 2) x0g))))
 (x16 (x25 3 (x0p x8a 4 (x01 (x05 0) (x01 (x05 1) (x01 (x05 2) (x01 (x0p x78 2 (x01 (x05 0) (x01 (x05 1) x0g))) x0g))))))
 (x3t (x54 (x01 (x1z 3 (eC (.int 0))) (x01 (eB z4r (x01 (x1z 3 (eC (.int 1))) x0g)) x0g)))))
def x4m:List D->OD:=fnD 4 (y0s)
theorem x9j:FnScope ["ladder","chart","order","ended"] ["ladder","chart","order"] (x0c (top 25)):=fsq
theorem y71(B:Bt mg)(c38:Cal P w K mg base 5 "refuse_no_step" 2 x1x)(c39:Cal P w K mg base 3 "risen" 4 x8a)(c36:Cal P w K mg base 3 "lowest" 2 x78)(a:At K mg "least_by" (top 25) ["ladder","chart","order"]):Cal P w K mg base 6 "least_by" 3 (x4m):=
 Cal.mkQ (k:=5) a x9j fun f cdv A outer s H E hr=>
  x07 (x2f (x0a c38 hr (by decide) (x00 (x02 (qv 1)) (x00 (x02 (qv 2)) x03 x04) x04)))
  (x07 (x0n (i:=3) x9j.nd rfl (Or.inl rfl) (x0a c39 hr (by decide) (x00 (x02 (qv 0)) (x00 (x02 (qv 1)) (x00 (x02 (qv 2)) (x00 (x0a c36 hr (by decide) (x00 (x02 (qv 0)) (x00 (x02 (qv 1)) x03 x04) x04)) x03 x0l) x04) x04) x04)))
  (x0d (x0q (x2w (x00 (x0v (qv 3) x09) (x00 (y7v B.m_len (x00 (x0v (qv 3) x09) x03 x0w)) x03 x0l) x0w)))))
def y06:x1g:=x16 (x25 1 (x2r 1 (x14 (x01 (eB z4r (x01 (x1z 0 (eC (.int 2))) x0g)) x0g)) (x0k 2) x2d (x54 (x01 (eC (.str "begin")) (x01 (x05 2) x0g))) false))
 (x3t (z1z (x05 1) (x2r 1 (x14 (x01 (eB z4r (x01 (x1z 0 (eC (.int 1))) x0g)) x0g)) (x0k 2) x2d (x54 (x01 (eC (.str "way")) (x01 (x05 2) x0g))) false)))
def x3v:List D->OD:=fnD 2 (y06)
theorem x8n:FnScope ["chart","begins"] ["chart"] (x0c (top 19)):=fsq
abbrev x5j:List Str:=["chart","begins","number"]
theorem x6m:(x5j).Nodup:=by decide +kernel
theorem y4k(B:Bt mg)(a:At K mg "all_steps" (top 19) ["chart"]):Cal P w K mg base 1 "all_steps" 1 (x3v):=
 Cal.mkQ (k:=0) a x8n fun f cdv A outer s H E hr=>
  x07 (x73 (i:=1) (k:=1) (N':=x5j) false x8n.nd rfl (Or.inl rfl) rfl rfl ⟨rfl,by decide +kernel,rfl,rfl,rfl⟩ (x0u B.m_range (x00 (y7v B.m_len (x00 (x0v (qv 0) x09) x03 x0w)) x03 x0l)) (fun _ _ _ _=>x0j (i:=2) (show 2<=2 by decide) x6m rfl (Or.inl rfl) (Or.inr rfl)) (fun _ _ _ _=>x2a) (fun _ _ _ _=>x2w (x00 y80 (x00 (x02 (qv 2)) x03 x04) x08)))
  (x0d (x0q (z4x (x02 (qv 1)) (x3e (k:=1) (N':=x5j) false rfl ⟨rfl,by decide +kernel,rfl,rfl,rfl⟩ (x0u B.m_range (x00 (y7v B.m_len (x00 (x0v (qv 0) x09) x03 x0w)) x03 x0l)) (fun _ _ _ _=>x0j (i:=2) (show 2<=2 by decide) x6m rfl (Or.inl rfl) (Or.inr rfl)) (fun _ _ _ _=>x2a) (fun _ _ _ _=>x2w (x00 y80 (x00 (x02 (qv 2)) x03 x04) x08))))))
def z06:x1g:=x3t (eIx (x0p x4m 3 (x01 (x05 0) (x01 (x05 1) (x01 (x0p x3v 1 (x01 (x05 1) x0g)) x0g)))) (eC (.int 0)))
def x88:List D->OD:=fnD 2 (z06)
theorem z3k:FnScope ["ladder","chart"] ["ladder","chart"] (x0c (top 18)):=fsq
theorem z5s(B:Bt mg)(c34:Cal P w K mg base 6 "least_by" 3 x4m)(c24:Cal P w K mg base 1 "all_steps" 1 x3v)(a:At K mg "least" (top 18) ["ladder","chart"]):Cal P w K mg base 7 "least" 2 (x88):=
 Cal.mkQ (k:=6) a z3k fun f cdv A outer s H E hr=>
  x0d (x0q (x53 (x0a c34 hr (by decide) (x00 (x02 (qv 0)) (x00 (x02 (qv 1)) (x00 (x0a c24 hr (by decide) (x00 (x02 (qv 1)) x03 x04)) x03 x0l) x04) x04)) x09))
abbrev y5g:x1g:=x16 (x25 7 (x2r 1 (x5p (x1z 2 (eC (.int 1)))) (x0k 13) (x4n (e2 dEq (eSl (x05 13) x7f (x6e (eC (.int 2)))) (x05 6))) (x1z 13 (eC (.int 2))) false))
 (x16 (x25 8 (x1z 7 (eC (.int 0))))
 (x16 (x7p (x5p (z80 (x05 7) (x6e (eC (.int 1))) x7f)) (x0k 9) (x25 8 (x0p x10 3 (x01 (x05 1) (x01 (x05 8) (x01 (x05 9) x0g))))))
 (x3f (x8y 5 (x01 (z7x (x05 6) (x54 (x01 (x05 8) x0g))) x0g)))))
abbrev z4c:x1g:=x25 8 (x0p x10 3 (x01 (x05 1) (x01 (x05 8) (x01 (x05 9) x0g))))
abbrev y65:x1g:=x16 (x25 12 (x2r 2 (x5p (x1z 2 (eC (.int 2)))) (y6b (x13 (x0k 13) (x13 (x0k 14) x5z))) (x4n (e2 dEq (x05 13) (x05 11))) (x05 14) false))
 (sIf (x4n (e2 dNe (x05 12) (x5w x0g))) (x3f (x8y 10 (x01 (x54 (x01 (x05 11) (x01 (x0p x1i 2 (x01 (x05 1) (x01 (x05 12) x0g))) x0g))) x0g))) y0r)
def z8f:x1g:=x16 (x25 1 (x0p x2b 2 (x01 (x05 0) (x01 (eC (.int 0)) x0g))))
 (x16 (x25 2 (x0p x3c 4 (x01 (x05 0) (x01 (eC (.int 20)) (x01 (x05 1) (x01 (eC (.bl false)) x0g))))))
 (x16 (x25 3 (x0p x2c 2 (x01 (x05 1) (x01 (x05 2) x0g))))
 (x16 (x25 4 (x5h (x2r 1 (x5p (x1z 2 (eC (.int 1)))) (x0k 13) x2d (eSl (x05 13) x7f (x6e (eC (.int 2)))) false)))
 (x16 (x25 5 (x5w x0g))
 (x16 (x7p (x5p (x05 4)) (x0k 6) (x16 (x25 7 (x2r 1 (x5p (x1z 2 (eC (.int 1)))) (x0k 13) (x4n (e2 dEq (eSl (x05 13) x7f (x6e (eC (.int 2)))) (x05 6))) (x1z 13 (eC (.int 2))) false))
 (x16 (x25 8 (x1z 7 (eC (.int 0))))
 (x16 (x7p (x5p (z80 (x05 7) (x6e (eC (.int 1))) x7f)) (x0k 9) (x25 8 (x0p x10 3 (x01 (x05 1) (x01 (x05 8) (x01 (x05 9) x0g))))))
 (x3f (x8y 5 (x01 (z7x (x05 6) (x54 (x01 (x05 8) x0g))) x0g)))))))
 (x16 (x25 10 (x5w x0g))
 (x16 (x7p (x14 (x01 (x1z 2 (eC (.int 0))) x0g)) (x0k 11) (x16 (x25 12 (x2r 2 (x5p (x1z 2 (eC (.int 2)))) (y6b (x13 (x0k 13) (x13 (x0k 14) x5z))) (x4n (e2 dEq (x05 13) (x05 11))) (x05 14) false))
 (sIf (x4n (e2 dNe (x05 12) (x5w x0g))) (x3f (x8y 10 (x01 (x54 (x01 (x05 11) (x01 (x0p x1i 2 (x01 (x05 1) (x01 (x05 12) x0g))) x0g))) x0g))) y0r)))
 (x16 (sIf (x4n (e2 dNe (x05 3) (x54 (x01 (x1z 2 (eC (.int 0))) (x01 (x2g (x01 (x05 5) x0g)) (x01 (x2g (x01 (x05 10) x0g)) x0g)))))) (x3t (eC (.bl false))) y0r)
 (x3t (z97 (e2 dEq (x0p x88 2 (x01 (x05 1) (x01 (x05 3) x0g))) (x0p x88 2 (x01 (x05 1) (x01 (x05 2) x0g)))) (e2 dEq (x0p x2c 2 (x01 (x05 1) (x01 (x05 3) x0g))) (x05 3))))))))))))
def y7l:List D->OD:=fnD 13 (z8f)
theorem x40:FnScope ["_law_script","_law_ladder_here","_law_chart_here","_law_told","_law_pairs","_law_ways","_law_pair","_law_rules","_law_rule_here","_law_other","_law_begins","_law_place","_law_worths"] ["_law_script"] (x0c (top 41)):=fsq
abbrev z0r:List Str:=["_law_script","_law_ladder_here","_law_chart_here","_law_told","_law_pairs","_law_ways","_law_pair","_law_rules","_law_rule_here","_law_other","_law_begins","_law_place","_law_worths","_law_way"]
theorem y98:(z0r).Nodup:=by decide +kernel
abbrev z4p:List Str:=["_law_script","_law_ladder_here","_law_chart_here","_law_told","_law_pairs","_law_ways","_law_pair","_law_rules","_law_rule_here","_law_other","_law_begins","_law_place","_law_worths","_law_one","_law_worth"]
theorem y96:(z4p).Nodup:=by decide +kernel
theorem z6n(B:Bt mg)(c16:Cal P w K mg base 4 "_law_ladder" 2 x2b)(c13:Cal P w K mg base 5 "_law_chart" 4 x3c)(c31:Cal P w K mg base 3 "joined_ways" 2 x2c)(c30:Cal P w K mg base 1 "joined_rules" 3 x10)(c15:Cal P w K mg base 2 "_law_join" 2 x1i)(c32:Cal P w K mg base 7 "least" 2 x88){f:Addr}{fd:FuncData}(F:Fun K "law" "law" (top 41) f fd):FnOk P w K mg base CX0 8 f fd ["_law_script"] (spD K 1 y7l):=
 z66 (k:=7) F x40 fun f cdv A outer s H E hr=>
  x07 (x0n (i:=1) x40.nd rfl (Or.inl rfl) (x0a c16 hr (by decide) (x00 (x02 (qv 0)) (x00 x09 x03 x08) x04)))
  (x07 (x0n (i:=2) x40.nd rfl (Or.inl rfl) (x0a c13 hr (by decide) (x00 (x02 (qv 0)) (x00 x09 (x00 (x02 (qv 1)) (x00 y9s x03 x08) x04) x08) x04)))
  (x07 (x0n (i:=3) x40.nd rfl (Or.inl rfl) (x0a c31 hr (by decide) (x00 (x02 (qv 1)) (x00 (x02 (qv 2)) x03 x04) x04)))
  (x07 (x0n (i:=4) x40.nd rfl (Or.inl rfl) (y4x rfl hr B.m_sorted B.m_set (x3e (k:=1) (N':=z0r) false rfl ⟨rfl,by decide +kernel,rfl,rfl,rfl⟩ (x32 (x0v (qv 2) x09)) (fun _ _ _ _=>x0j (i:=13) (show 13<=13 by decide) y98 rfl (Or.inl rfl) (Or.inr rfl)) (fun _ _ _ _=>x2a) (fun _ _ _ _=>z32 (x02 (qv 13)) x71 (x7c x09)))))
  (x07 (x0n (i:=5) x40.nd rfl (Or.inl rfl) (x22 x03))
  (x07 (x1t QN rfl (x32 (x02 (qv 4))) (x0j (i:=6) (show 0<=6 by decide) x40.nd rfl (Or.inr rfl)) (x07 (x73 (i:=7) (k:=1) (N':=z0r) false x40.nd rfl (Or.inl rfl) rfl rfl ⟨rfl,by decide +kernel,rfl,rfl,rfl⟩ (x32 (x0v (qv 2) x09)) (fun _ _ _ _=>x0j (i:=13) (show 13<=13 by decide) y98 rfl (Or.inl rfl) (Or.inr rfl)) (fun _ _ _ _=>x94 (x8l hr (z32 (x02 (qv 13)) x71 (x7c x09)) (x02 (qv 6)))) (fun _ _ _ _=>x0v (qv 13) x09))
  (x07 (x0n (i:=8) x40.nd rfl (Or.inl rfl) (x0v (qv 7) x09))
  (x07 (x1t QN rfl (x32 (z9b (x02 (qv 7)) (x7c x09) x71)) (x0j (i:=9) (show 0<=9 by decide) x40.nd rfl (Or.inl rfl)) (x0d (x0n (i:=8) x40.nd rfl (Or.inl rfl) (x0a c30 hr (by decide) (x00 (x02 (qv 1)) (x00 (x02 (qv 8)) (x00 (x02 (qv 9)) x03 x04) x04) x04)))))
  (x0d (x2f (x1y (qv 5) (x00 (y8t (x02 (qv 6)) (x2w (x00 (x02 (qv 8)) x03 x04))) x03 x0z))))))))
  (x07 (x0n (i:=10) x40.nd rfl (Or.inl rfl) (x22 x03))
  (x07 (x1t QN rfl (x0u B.m_range (x00 (x0v (qv 2) x09) x03 x0w)) (x0j (i:=11) (show 0<=11 by decide) x40.nd rfl (Or.inr rfl)) (x07 (x73 (i:=12) (k:=2) (N':=z4p) false x40.nd rfl (Or.inl rfl) rfl rfl ⟨rfl,by decide +kernel,rfl,rfl,rfl⟩ (x32 (x0v (qv 2) x09)) (fun _ _ _ _=>x9w (n:=2) rfl (x28 (x0j (i:=13) (show 13<=13 by decide) y96 rfl (Or.inl rfl) (Or.inr rfl)) (x28 (x0j (i:=14) (show 13<=14 by decide) y96 rfl (Or.inl rfl) (Or.inr rfl)) x6z)) y1w) (fun _ _ _ _=>x94 (x8l hr (x02 (qv 13)) (x02 (qv 11)))) (fun _ _ _ _=>x02 (qv 14)))
  (x0d (x3u (y1b hr (x02 (qv 12)) (x22 x03)) (x0d (x2f (x1y (qv 10) (x00 (x2w (x00 (x02 (qv 11)) (x00 (x0a c15 hr (by decide) (x00 (x02 (qv 1)) (x00 (x02 (qv 12)) x03 x04) x04)) x03 x0l) x04)) x03 y2f)))) x2n))))
  (x07 (x3u (y1b hr (x02 (qv 3)) (x2w (x00 (x0v (qv 2) x09) (x00 (x2e B.m_tuple QG (x00 (x02 (qv 5)) x03 x04)) (x00 (x2e B.m_tuple QG (x00 (x02 (qv 10)) x03 x04)) x03 x0l) x0l) x0w))) (x0d (x0q y9s)) x2n)
  (x0d (x0q (y9f (z83 hr (x0a c32 hr (by decide) (x00 (x02 (qv 1)) (x00 (x02 (qv 3)) x03 x04) x04)) (x0a c32 hr (by decide) (x00 (x02 (qv 1)) (x00 (x02 (qv 2)) x03 x04) x04))) (y92 (z83 hr (x0a c31 hr (by decide) (x00 (x02 (qv 1)) (x00 (x02 (qv 3)) x03 x04) x04)) (x02 (qv 3)))))))))))))))
end
abbrev scr (ns:List Int):D:=.lst (ns.map D.int)
def z31 (ns:List Int)(k:Int):Int:=if k<ns.length then ns.getD k.toNat 0 else if ns=[]then 0 else ns.getD (k % ns.length).toNat 0*31+k
theorem z4m{ns:List Int}{k:Int}(h0:0<=k)(h:k<ns.length):L2.atI (ns.map D.int) k=some (.int (ns.getD k.toNat 0)):=by
 obtain⟨m,rfl⟩:∃ m:Nat,k=Int.ofNat m:=⟨k.toNat,by show k=(k.toNat:Int);omega⟩
 have hk:m<ns.length:=by have:(m:Int)<ns.length:=h;omega
 apply y16
 rw[Ql,Qa hk]
 simp[hk]
theorem z85(ns:List Int):Sh 1 (scr ns):=.lst fun d m=>by
 obtain⟨x,_,rfl⟩:=Qp.mp m
 exact .int _
theorem z4j(ns:List Int):dEq (scr ns) (.lst [])=some (.bl (decide (ns=[]))):=by
 unfold dEq
 rw[Qj ⟨(z85 ns).ok,(z9w []).ok⟩]
 cases ns<;>rfl
theorem z56(ns:List Int)(k:Int)(h0:0<=k):x3s [scr ns,.int k]=some (.int (z31 ns k),9):=by
 unfold x3s y01 z31
 by_cases h:k<ns.length
 ·simp[h,z4m h0 h,y02,atD]
 ·by_cases hn:ns=[]
  ·subst hn
   have h':¬ k<0:=by omega
   simp[h',y02,z4j]
  ·have hp:(0:Int)<ns.length:=by have:=Yy.mpr hn;omega
   have h1:=VD k (Int.ne_of_gt hp)
   have h2:=YS k hp
   have h3:=z4m h1 h2
   have hp':=Yy.mpr hn
   simp[h,y02,atD,z4j,hn,hp',h3]
def x8g (ns:List Int)(k:Int):Int:=(z31 ns k+6151*(k+1))*40692 % 2147483399
def x61 (ns:List Int)(k m:Int):Int:=(x8g ns k*x8g ns k+x8g ns k / 31) % 2147483629 % m
theorem x6j(ns:List Int)(k m:Int)(h0:0<=k)(hm:0<m):x0b [scr ns,.int k,.int m]=some (.int (x61 ns k m),9):=by
 have d0:0<=x8g ns k:=VD _ (by decide)
 have d1:x8g ns k<2147483399:=YS _ (by decide)
 have g1:-18446744073709551616<x8g ns k:=by omega
 have g2:x8g ns k<18446744073709551616:=by omega
 have hd:(z31 ns k+6151*(k+1))*40692 % 2147483399=x8g ns k:=rfl
 unfold x0b x9n x61
 simp[z56 ns k h0,hm,hd,g1,g2]
theorem x5c(ns:List Int)(k:Int)(hm:0<m):0<=x61 ns k m:=VD _ (Int.ne_of_gt hm)
theorem x6g(ns:List Int)(k:Int)(hm:0<m):x61 ns k m<m:=YS _ hm
def tf (rows:List (List Nat))(i j:Nat):Nat:=(rows.getD i []).getD j 0
def x2t (rows:List (List Nat)):D:=x34 rows.length (tf rows)
def ch (n:Nat):List (List Nat):=(List.range n).map fun i=>(List.range n).map fun j=>max i j
def cp (a b:List (List Nat)):List (List Nat):=(List.range (a.length*b.length)).map fun i=>(List.range (a.length*b.length)).map fun j=>tf a (i / b.length) (j / b.length)*b.length+tf b (i % b.length) (j % b.length)
def sb (n:Nat):List (List Nat):=(List.range (n+2)).map fun i=>(List.range (n+2)).map fun j=>if i=0\/j=0\/i=j then max i j else n+1
def n5:List (List Nat):=[[0,1,2,3,4],[1,1,2,4,4],[2,2,2,4,4],[3,4,4,3,4],[4,4,4,4,4]]
def y1x:List (List (List Nat)):=[ch 1,ch 2,ch 3,ch 4,ch 5,cp (ch 2) (ch 2),cp (ch 2) (ch 3),cp (ch 2) (ch 4),sb 0,sb 1,sb 2,sb 3,sb 4,cp (ch 2) (cp (ch 2) (ch 2)),n5]
theorem ch1:x0x [.int 1]=some (x2t (ch 1),1):=by rfl
theorem ch2:x0x [.int 2]=some (x2t (ch 2),1):=by rfl
theorem ch3:x0x [.int 3]=some (x2t (ch 3),1):=by rfl
theorem ch4:x0x [.int 4]=some (x2t (ch 4),1):=by rfl
theorem ch5:x0x [.int 5]=some (x2t (ch 5),1):=by rfl
theorem sb0:x0t [.int 0]=some (x2t (sb 0),0):=by rfl
theorem sb1:x0t [.int 1]=some (x2t (sb 1),0):=by rfl
theorem sb2:x0t [.int 2]=some (x2t (sb 2),0):=by rfl
theorem sb3:x0t [.int 3]=some (x2t (sb 3),0):=by rfl
theorem sb4:x0t [.int 4]=some (x2t (sb 4),0):=by rfl
theorem j3b:x11 [x2t (ch 2),x2t (ch 2)]=some (x2t (cp (ch 2) (ch 2)),0):=by rfl
theorem j3r:x11 [x2t (ch 2),x2t (ch 3)]=some (x2t (cp (ch 2) (ch 3)),0):=by rfl
theorem j3m:x11 [x2t (ch 2),x2t (ch 4)]=some (x2t (cp (ch 2) (ch 4)),0):=by rfl
theorem j2i:x11 [x2t (ch 2),x2t (cp (ch 2) (ch 2))]=some (x2t (cp (ch 2) (cp (ch 2) (ch 2))),0):=by rfl
theorem z7q(ns:List Int)(t:Int)(h0:0<=t):∃ rows∈y1x,∃ q,x3z [scr ns,.int t]=some (x2t rows,q):=by
 have k0:=x5c ns t (m:=9) (by decide)
 have k1:=x6g ns t (m:=9) (by decide)
 have p0:=x5c ns (t+1) (m:=5) (by decide)
 have p1:=x6g ns (t+1) (m:=5) (by decide)
 have r0:=x5c ns (t+1) (m:=3) (by decide)
 have r1:=x6g ns (t+1) (m:=3) (by decide)
 have e9:=x6j ns t 9 h0 (by decide)
 have e5:=x6j ns (t+1) 5 (by omega) (by decide)
 have e3:=x6j ns (t+1) 3 (by omega) (by decide)
 have mem:∀ i:Nat,i<15->y1x.getD i []∈y1x:=fun i hi=>by
  rw[Qh,Qa (show i<y1x.length from hi)]
  exact Zc _
 have hc:∀ p:Int,0<=p->p<5->∃ rows∈y1x,x0x [.int (1+p)]=some (x2t rows,1):=fun p a b=>by
  have:p=0\/p=1\/p=2\/p=3\/p=4:=by omega
  rcases this with rfl|rfl|rfl|rfl|rfl
  ·exact⟨_,mem 0 (by decide),ch1⟩
  ·exact⟨_,mem 1 (by decide),ch2⟩
  ·exact⟨_,mem 2 (by decide),ch3⟩
  ·exact⟨_,mem 3 (by decide),ch4⟩
  ·exact⟨_,mem 4 (by decide),ch5⟩
 have hs:∀ p:Int,0<=p->p<5->∃ rows∈y1x,x0t [.int p]=some (x2t rows,0):=fun p a b=>by
  have:p=0\/p=1\/p=2\/p=3\/p=4:=by omega
  rcases this with rfl|rfl|rfl|rfl|rfl
  ·exact⟨_,mem 8 (by decide),sb0⟩
  ·exact⟨_,mem 9 (by decide),sb1⟩
  ·exact⟨_,mem 10 (by decide),sb2⟩
  ·exact⟨_,mem 11 (by decide),sb3⟩
  ·exact⟨_,mem 12 (by decide),sb4⟩
 have hp:∀ r:Int,0<=r->r<3->∃ x rows1 rows,atD (.lst [.int 2,.int 3,.int 4]) r=some (.int x)/\x0x [.int x]=some (x2t rows1,1)/\rows∈y1x/\x11 [x2t (ch 2),x2t rows1]=some (x2t rows,0):=fun r a b=>by
  have:r=0\/r=1\/r=2:=by omega
  rcases this with rfl|rfl|rfl
  ·exact⟨2,_,_,rfl,ch2,mem 5 (by decide),j3b⟩
  ·exact⟨3,_,_,rfl,ch3,mem 6 (by decide),j3r⟩
  ·exact⟨4,_,_,rfl,ch4,mem 7 (by decide),j3m⟩
 unfold x3z x9y
 generalize x61 ns t 9=k at *
 generalize x61 ns (t+1) 5=p at *
 generalize x61 ns (t+1) 3=r at *
 by_cases h3:k<3
 ·obtain⟨rows,hm,e⟩:=hc p p0 p1
  exact⟨rows,hm,1,by simp[e9,e5,h3,e]⟩
 by_cases h5:k<5
 ·obtain⟨x,rows1,rows,ea,e1,hm,e2'⟩:=hp r r0 r1
  exact⟨rows,hm,0,by simp[e9,e3,h3,h5,ch2,ea,e1,e2']⟩
 by_cases h7:k<7
 ·obtain⟨rows,hm,e⟩:=hs p p0 p1
  exact⟨rows,hm,0,by simp[e9,e5,h3,h5,h7,e]⟩
 have:k=7\/k=8:=by omega
 rcases this with rfl|rfl
 ·exact⟨_,mem 13 (by decide),0,by simp[e9,y9r,ch2,j3b];exact j2i⟩
 ·refine⟨_,mem 14 (by decide),0,?_⟩
  simp[e9,y9r]
  rfl
theorem z2c:∀ rows∈y1x,j2f rows.length (tf rows)=true:=by decide +kernel
def pk (ns:List Int)(t:Int)(k m:Nat):Nat:=(x61 ns (t+2+Int.ofNat k) (Int.ofNat m)).toNat
theorem z6k(ns:List Int)(t:Int)(k m:Nat)(h:0<m):pk ns t k m<m:=by
 have h1:=x5c ns (t+2+Int.ofNat k) (m:=Int.ofNat m) (by show(0:Int)<m;omega)
 have h2:=x6g ns (t+2+Int.ofNat k) (m:=Int.ofNat m) (by show(0:Int)<m;omega)
 have h3:(Int.ofNat m)=(m:Int):=rfl
 unfold pk
 omega
theorem j22(ns:List Int)(t:Int)(k m:Nat)(h:0<m):x61 ns (t+2+Int.ofNat k) (Int.ofNat m)=Int.ofNat (pk ns t k m):=by
 have h1:=x5c ns (t+2+Int.ofNat k) (m:=Int.ofNat m) (by show(0:Int)<m;omega)
 unfold pk
 show _=((x61 ns (t+2+Int.ofNat k) (Int.ofNat m)).toNat:Int)
 omega
section
variable (ns:List Int)(t:Int)(n:Nat)(B:Nat->Nat->Nat)(q:Nat)
theorem z1o(h0:0<=t)(hn:n<=16):x5a 1 (x0k 8) x2d (j0o 3 (x01 (x0p x0b 3 (x01 (x05 0) (x01 (e2 x39 (e2 x39 (x05 1) (eC (.int 2))) (x05 8)) (x01 (x1k 3) x0g)))) x0g)) false (x12 n)
  [some (scr ns,0),some (.int t,9),some (x34 n B,q),some (.lst (x12 n),1),none,none,none,none] =
  some (x0h ((List.range n).map (drawn (pk ns t) n)),[some (scr ns,0),some (.int t,9),some (x34 n B,q),some (.lst [],1),none,none,none,none]):=by
 have hp:=z6k ns t
 have h:=x42 (k:=1) (pt:=x0k 8) (tt:=x2d) (te:=j0o 3 (x01 (x0p x0b 3 (x01 (x05 0) (x01 (e2 x39 (e2 x39 (x05 1) (eC (.int 2))) (x05 8)) (x01 (x1k 3) x0g)))) x0g)) (deep:=false) (x12 n)
  (fun k=>[some (scr ns,0),some (.int t,9),some (x34 n B,q),some (.lst (x0h (x31 (pk ns t) n k)),1),none,none,none,none]) (fun _=>true) (fun k=>.int (Int.ofNat (drawn (pk ns t) n k))) (fun k hk=>?_)
 ·rw[x0s]at h
  have hl:x31 (pk ns t) n n=[]:=ZC.mp (by rw[x7m hp n (Qi n)];omega)
  rw[hl]at h
  have e1:(List.range n).filter (fun _=>true)=List.range n:=by simp
  rw[e1]at h
  simp only[x0h,QV,Y3]
  exact h
 ·rw[x0s]at hk
  have hl:=x7m hp k (ZP hk)
  have hlp:0<(x31 (pk ns t) n k).length:=by rw[hl];omega
  have e:=j22 ns t k _ hlp
  have hj:=z6k ns t k _ hlp
  have hpk:=x6j ns (t+2+Int.ofNat k) (Int.ofNat (x31 (pk ns t) n k).length) (by show 0<=t+2+(k:Int);omega) (by show(0:Int)<((x31 (pk ns t) n k).length:Int);omega)
  have hs:seqIndex? (Int.ofNat (pk ns t k (x31 (pk ns t) n k).length)) (x0h (x31 (pk ns t) n k)).length=some (pk ns t k (x31 (pk ns t) n k).length):=(y51 (y1g (by rw[x1f];exact hj))).1
  have hg:(x0h (x31 (pk ns t) n k))[pk ns t k (x31 (pk ns t) n k).length]? = some (.int (Int.ofNat (drawn (pk ns t) n k))):=by
   rw[y69]
   unfold drawn
   rw[Qh,Qa hj]
   rfl
  have hb:pk ns t k (x31 (pk ns t) n k).length<=16:=by omega
  have he:(x0h (x31 (pk ns t) n k)).eraseIdx (pk ns t k (x31 (pk ns t) n k).length)=x0h (x31 (pk ns t) n (k+1)):=by rw[x31,y0z]
  refine⟨[some (scr ns,0),some (.int t,9),some (x34 n B,q),some (.lst (x0h (x31 (pk ns t) n k)),1),none,none,none,none,some (.int (Int.ofNat k),9)],_,by simp[x12],rfl,?_⟩
  rw[Qj rfl]
  refine⟨9,[some (scr ns,0),some (.int t,9),some (x34 n B,q),some (.lst (x0h (x31 (pk ns t) n (k+1))),1),none,none,none,none,some (.int (Int.ofNat k),9)],?_,by simp,by simp⟩
  have b1:(-1000:Int)<=Int.ofNat (pk ns t k (x31 (pk ns t) n k).length):=by show(-1000:Int)<=(pk ns t k (x31 (pk ns t) n k).length:Int);omega
  have b2:Int.ofNat (pk ns t k (x31 (pk ns t) n k).length)<=1000:=by show(pk ns t k (x31 (pk ns t) n k).length:Int)<=1000;omega
  have hl':y02 (.lst (x0h (x31 (pk ns t) n k)))=some (x31 (pk ns t) n k).length:=by simp[y02,x1f]
  rw[e]at hpk
  simp[-Int.ofNat_eq_natCast,hl',hpk,hs,hg,he,b1,b2]
theorem z6z(hn:n<=16)(x:OD):x5a 1 (x0k 8) x2d (y6q (x5w (x01 (eC (.int 0)) x0g)) (x1k 2)) true ((List.range n).map fun i=>x72 n B i)
  [some (scr ns,0),some (.int t,9),some (x34 n B,0),some (.lst [],1),x,none,none,none] =
  some ((List.range n).map fun i=>x72 n (fun _ _=>0) i,[some (scr ns,0),some (.int t,9),some (x34 n B,0),some (.lst [],1),x,none,none,none]):=by
 have h:=x42 (k:=1) (pt:=x0k 8) (tt:=x2d) (te:=y6q (x5w (x01 (eC (.int 0)) x0g)) (x1k 2)) (deep:=true) ((List.range n).map fun i=>x72 n B i)
  (fun _=>[some (scr ns,0),some (.int t,9),some (x34 n B,0),some (.lst [],1),x,none,none,none]) (fun _=>true) (fun i=>x72 n (fun _ _=>0) i) (fun k hk=>?_)
 ·rw[Qc,QJ,show(List.range n).filter (fun _=>true)=List.range n by simp]at h
  exact h
 ·refine⟨[some (scr ns,0),some (.int t,9),some (x34 n B,0),some (.lst [],1),x,none,none,none,some (x72 n B k,0)],_,by simp[x72],rfl,?_⟩
  rw[Qj rfl]
  refine⟨1,[some (scr ns,0),some (.int t,9),some (x34 n B,0),some (.lst [],1),x,none,none,none,some (x72 n B k,0)],?_,by simp,by simp⟩
  have z:x72 n (fun _ _=>0) k=D.lst (List.replicate n [D.int 0]).flatten:=(j28 n).symm
  have b1:(-1000:Int)<=n:=by omega
  have b2:(n:Int)<=1000:=by omega
  have b3:n<=1000:=by omega
  rw[z]
  simp[x70,b1,b2,b3]
def gst (π ι:Nat->Nat)(i j a b:Nat):Nat:=if ι a<i\/(ι a=i/\ι b<j)then π (B (ι a) (ι b))else 0
abbrev y4d:x1g:=y8k 5 (qIx 4 (z6b 6)) (qIx 4 (z6b 7)) (x1z 4 (eIx (x1z 2 (x05 6)) (x05 7)))
section
variable {n B}{π ι:Nat->Nat}(cl:∀ i j,i<n->j<n->B i j<n)(h1:∀ i,i<n->π i<n)(h2:∀ i,i<n->ι i<n)(h3:∀ i,i<n->ι (π i)=i)(h4:∀ i,i<n->π (ι i)=i)
include cl h1 h2 h3 h4
theorem y8b(hi:i<n)(hj:j<n){y:OD} :
  y4d [some (scr ns,0),some (.int t,9),some (x34 n B,0),some (.lst [],1),some (.lst (x0h ((List.range n).map π)),1),some (x34 n f,2),some (.int (Int.ofNat i),9),some (.int (Int.ofNat j),9)] =
  some (.nx [some (scr ns,0),some (.int t,9),some (x34 n B,0),some (.lst [],1),some (.lst (x0h ((List.range n).map π)),1),some (x34 n (fun a b=>if a=π i/\b=π j then π (B i j)else f a b),2),some (.int (Int.ofNat i),9),some (.int (Int.ofNat j),9)]):=by
 have a1:=z61 (f:=B) hi
 have a2:=z6v (f:=B) (i:=i) hj
 have a3:atD (.lst (x0h ((List.range n).map π))) (Int.ofNat (B i j))=some (.int (Int.ofNat (π (B i j)))):=x1r (cl i j hi hj)
 have a4:atD (.lst (x0h ((List.range n).map π))) (Int.ofNat i)=some (.int (Int.ofNat (π i))):=x1r hi
 have a5:atD (.lst (x0h ((List.range n).map π))) (Int.ofNat j)=some (.int (Int.ofNat (π j))):=x1r hj
 have a6:ixN ((List.range n).map fun a=>x72 n f a).length (Int.ofNat (π i))=some (π i):=y1g (by simpa using h1 i hi)
 have a7:((List.range n).map fun a=>x72 n f a)[π i]? = some (.lst (x0h ((List.range n).map fun b=>f (π i) b))):=by rw[Ql,Zk (h1 i hi)];rfl
 have a8:ixN (x0h ((List.range n).map fun b=>f (π i) b)).length (Int.ofNat (π j))=some (π j):=y1g (by simpa [x1f]using h1 j hj)
 have a9:=z2r (n:=n) (f:=f) (a:=π i) (b:=π j) (v:=π (B i j))
 rw[<- a9]
 show y4d [some (scr ns,0),some (.int t,9),some (x34 n B,0),some (.lst [],1),some (.lst (x0h ((List.range n).map π)),1),some (.lst ((List.range n).map fun a=>x72 n f a),2),some (.int (Int.ofNat i),9),some (.int (Int.ofNat j),9)]=_
 unfold y4d
 simp only[y8k,x1z,eIx,x05,qIx,z6b,Zs,List.getElem?_cons_zero,D.isL,ZD,a1,a2,a3,a4,a5,a6,a7,a8,ne_eq,not_true_eq_false,false_and,and_false,Zn,Qt,reduceCtorEq,Zf,QL,y0a,List.set_cons_succ,List.set_cons_zero]
abbrev y5j (f:Nat->Nat->Nat)(x y:OD):Rho:=[some (scr ns,0),some (.int t,9),some (x34 n B,0),some (.lst [],1),some (.lst (x0h ((List.range n).map π)),1),some (x34 n f,2),x,y]
omit cl h1 h2 h3 h4
theorem x4j(h:i<(x12 n).length):(x12 n)[i]=.int (Int.ofNat i):=by simp[x12]
include cl h1 h2 h3 h4
theorem z2b(hi:i<n)(hj:j<n):x34 n (fun a b=>if a=π i/\b=π j then π (B i j)else gst B π ι i j a b)=x34 n (gst B π ι i (j+1)):=by
 refine x5x fun a b ha hb=>?_
 unfold gst
 by_cases h:a=π i/\b=π j
 ·obtain⟨rfl,rfl⟩:=h
  rw[Qj ⟨rfl,rfl⟩,h3 i hi,h3 j hj,Qj (.inr ⟨rfl,Zv _⟩)]
 ·rw[Qk h]
  have:¬ (ι a=i/\ι b=j):=fun⟨e1,e2⟩=>h ⟨by rw[<- e1,h4 a ha],by rw[<- e2,h4 b hb]⟩
  by_cases c:ι a<i\/ι a=i/\ι b<j
  ·rw[Qj c,Qj (by omega)]
  ·rw[Qk c,Qk (by omega)]
theorem z5n:x34 n (gst B π ι i n)=x34 n (gst B π ι (i+1) 0):=by
 refine x5x fun a b ha hb=>?_
 have:=h2 b hb
 unfold gst
 by_cases c:ι a<i\/ι a=i/\ι b<n
 ·rw[Qj c,Qj (by omega)]
 ·rw[Qk c,Qk (by omega)]
theorem z1r(hn:n<=16)(hi:i<n)(y:OD):∃ y',y09 (x0k 7) y4d (x12 n) (y5j ns t (n:=n) (B:=B) (π:=π) (gst B π ι i 0) (some (.int (Int.ofNat i),9)) y) =
  some (.nx (y5j ns t (n:=n) (B:=B) (π:=π) (gst B π ι (i+1) 0) (some (.int (Int.ofNat i),9)) y')):=by
 obtain⟨ρ',e,y',rfl⟩:=x2k (pt:=x0k 7) (body:=y4d) (x12 n) (fun j ρ=>∃ y,ρ=y5j ns t (n:=n) (B:=B) (π:=π) (gst B π ι i j) (some (.int (Int.ofNat i),9)) y) (y5j ns t (n:=n) (B:=B) (π:=π) (gst B π ι i 0) (some (.int (Int.ofNat i),9)) y) (fun j hj ρ hh0=>by
  obtain⟨y,hy⟩:=hh0
  subst hy
  rw[x0s]at hj
  refine⟨y5j ns t (n:=n) (B:=B) (π:=π) (gst B π ι i j) (some (.int (Int.ofNat i),9)) (some (.int (Int.ofNat j),9)),_,by rw[x4j];simp,.inl (y8b ns t cl h1 h2 h3 h4 hi hj (y:=none)),?_⟩
  rw[z2b cl h1 h2 h3 h4 hi hj]
  exact⟨_,rfl⟩) ⟨y,rfl⟩
 refine⟨y',?_⟩
 rw[e,x0s]
 show some (Out.nx [_,_,_,_,_,some (x34 n (gst B π ι i n),2),_,_])=_
 rw[z5n cl h1 h2 h3 h4]
theorem z3x(hn:n<=16)(x y:OD):∃ x' y',y09 (x0k 6) (x7p (x14 (x01 (x1k 2) x0g)) (x0k 7) y4d) (x12 n) (y5j ns t (n:=n) (B:=B) (π:=π) (fun _ _=>0) x y) =
  some (.nx (y5j ns t (n:=n) (B:=B) (π:=π) (fun a b=>π (B (ι a) (ι b))) x' y')):=by
 have z:x34 n (fun _ _=>0)=x34 n (gst B π ι 0 0):=x5x fun a b _ _=>by unfold gst;rw[Qk (by omega)]
 have z':x34 n (gst B π ι n 0)=x34 n (fun a b=>π (B (ι a) (ι b))):=x5x fun a b ha _=>by unfold gst;rw[Qj (.inl (h2 a ha))]
 obtain⟨ρ',e,x',y',rfl⟩:=x2k (pt:=x0k 6) (body:=x7p (x14 (x01 (x1k 2) x0g)) (x0k 7) y4d) (x12 n) (fun i ρ=>∃ x y,ρ=y5j ns t (n:=n) (B:=B) (π:=π) (gst B π ι i 0) x y) (y5j ns t (n:=n) (B:=B) (π:=π) (gst B π ι 0 0) x y) (fun i hi ρ hh0=>by
  obtain⟨x,y,hy⟩:=hh0
  subst hy
  rw[x0s]at hi
  obtain⟨y',hy'⟩:=z1r ns t cl h1 h2 h3 h4 hn hi y
  refine⟨y5j ns t (n:=n) (B:=B) (π:=π) (gst B π ι i 0) (some (.int (Int.ofNat i),9)) y,_,by rw[x4j];simp,.inl (show _=some (Out.nx (y5j ns t (n:=n) (B:=B) (π:=π) (gst B π ι (i+1) 0) (some (.int (Int.ofNat i),9)) y'))from ?_),⟨_,_,rfl⟩⟩
  have b1:(-1000:Int)<=Int.ofNat n:=by show(-1000:Int)<=n;omega
  have b2:Int.ofNat n<=1000:=by show(n:Int)<=1000;omega
  have e:x14 (x01 (x1k 2) x0g) (y5j ns t (n:=n) (B:=B) (π:=π) (gst B π ι i 0) (some (.int (Int.ofNat i),9)) y)=some (x12 n,y5j ns t (n:=n) (B:=B) (π:=π) (gst B π ι i 0) (some (.int (Int.ofNat i),9)) y):=by
   simp[-Int.ofNat_eq_natCast,x70,b1,b2]
   rfl
  unfold x7p
  rw[e]
  exact hy') ⟨x,y,rfl⟩
 refine⟨x',y',?_⟩
 show y09 _ _ _ [_,_,_,_,_,some (x34 n (fun _ _=>0),2),_,_]=some (.nx [_,_,_,_,_,some (x34 n (fun a b=>π (B (ι a) (ι b))),2),_,_])
 rw[z,<- z']
 rw[x0s]at e
 exact e
end
end
theorem z1h{a b c d e:OD}{x y:OD}:x5a 1 (x0k 8) x2d (x2g (x01 (x05 8) x0g)) false ((List.range n).map fun i=>x72 n f i) [a,b,c,d,e,some (x34 n f,0),x,y] =
  some ((List.range n).map fun i=>y6t n f i,[a,b,c,d,e,some (x34 n f,0),x,y]):=by
 have h:=x42 (k:=1) (pt:=x0k 8) (tt:=x2d) (te:=x2g (x01 (x05 8) x0g)) (deep:=false) ((List.range n).map fun i=>x72 n f i)
  (fun _=>[a,b,c,d,e,some (x34 n f,0),x,y]) (fun _=>true) (fun i=>y6t n f i) (fun k hk=>?_)
 ·rw[Qc,QJ,show(List.range n).filter (fun _=>true)=List.range n by simp]at h
  exact h
 ·refine⟨[a,b,c,d,e,some (x34 n f,0),x,y,some (x72 n f k,0)],_,by simp[x72],rfl,?_⟩
  rw[Qj rfl]
  exact⟨9,[a,b,c,d,e,some (x34 n f,0),x,y,some (x72 n f k,0)],by simp[x72,y6t],by simp,by simp⟩
theorem x5g(hn:n<=1000)(h:ρ[i]? = some (some (d,q)))(hl:y02 d=some n):x14 (x01 (x1k i) x0g) ρ=some (x12 n,ρ):=by
 have b1:(-1000:Int)<=Int.ofNat n:=by show(-1000:Int)<=n;omega
 have b2:Int.ofNat n<=1000:=by show(n:Int)<=1000;omega
 simp only[x14,x01,x1k,x0g,h,hl]
 rw[Qj ⟨b1,b2⟩]
 rfl
theorem z6p:∀ rows∈y1x,rows.length<=8:=by decide +kernel
theorem z60(ns:List Int)(t:Int)(h0:0<=t):∃ n f,Lad n f/\n<=8/\x2b [scr ns,.int t]=some (x0o n f,9):=by
 obtain⟨rows,hm,q,hb⟩:=z7q ns t h0
 have L:=z6j (z2c rows hm)
 have h8:=z6p rows hm
 unfold x2t at hb
 revert hb L h8
 generalize rows.length=n
 generalize tf rows=B
 intro hb L h8
 have hp:=z6k ns t
 have hn:n<=1000:=QU L.hi (by decide)
 refine⟨n,fun a b=>drawn (pk ns t) n (B (x30 (pk ns t) n a) (x30 (pk ns t) n b)),L.ren (fun i hi=>y6l hp hi) (fun i hi=>y0y hp hi) (fun i hi=>x6y hp hi) (fun i hi=>x6w hp hi),h8,?_⟩
 unfold x2b x74
 refine x3o ?_
 have s0:x8i 8 [scr ns,.int t]=[some (scr ns,0),some (.int t,9),none,none,none,none,none,none]:=rfl
 rw[s0]
 refine(x0m (ρ1:=[some (scr ns,0),some (.int t,9),some (x34 n B,q),none,none,none,none,none]) ?_).trans ?_
 ·simp[hb]
 refine(x0m (ρ1:=[some (scr ns,0),some (.int t,9),some (x34 n B,q),some (.lst (x12 n),1),none,none,none,none]) ?_).trans ?_
 ·exact x38 (y3t (x5g hn rfl x70)) rfl
 refine(x0m (ρ1:=[some (scr ns,0),some (.int t,9),some (x34 n B,q),some (.lst [],1),some (.lst (x0h ((List.range n).map (drawn (pk ns t) n))),1),none,none,none]) ?_).trans ?_
 ·exact x38 (x23 (x5g hn rfl x70) (z1o ns t n B q h0 L.hi)) rfl
 refine(x0m (ρ1:=[some (scr ns,0),some (.int t,9),some (x34 n B,0),some (.lst [],1),some (.lst (x0h ((List.range n).map (drawn (pk ns t) n))),1),some (x34 n (fun _ _=>0),2),none,none]) ?_).trans ?_
 ·have e:x5p (x05 2) [some (scr ns,0),some (.int t,9),some (x34 n B,q),some (.lst [],1),some (.lst (x0h ((List.range n).map (drawn (pk ns t) n))),1),none,none,none]=some ((List.range n).map fun i=>x72 n B i,[some (scr ns,0),some (.int t,9),some (x34 n B,0),some (.lst [],1),some (.lst (x0h ((List.range n).map (drawn (pk ns t) n))),1),none,none,none]):=by
   by_cases hq:q=0
   ·subst hq;simp[x34,hn]
   ·simp[x34,hn,hq]
  exact x38 (x23 e (z6z ns t n B L.hi _)) rfl
 obtain⟨x',y',hf⟩:=z3x ns t (n:=n) (B:=B) (π:=drawn (pk ns t) n) (ι:=x30 (pk ns t) n) L.cl (fun i hi=>y6l hp hi) (fun i hi=>y0y hp hi) (fun i hi=>x6y hp hi) (fun i hi=>x6w hp hi) L.hi none none
 refine(x0m ((x3g (x5g hn rfl x70)).trans hf)).trans ?_
 refine x46 (ρ1:=[some (scr ns,0),some (.int t,9),some (x34 n B,0),some (.lst [],1),some (.lst (x0h ((List.range n).map (drawn (pk ns t) n))),1),some (x34 n (fun a b=>drawn (pk ns t) n (B (x30 (pk ns t) n a) (x30 (pk ns t) n b))),0),x',y']) ?_
 have e:x5p (x05 5) (y5j ns t (n:=n) (B:=B) (π:=drawn (pk ns t) n) (fun a b=>drawn (pk ns t) n (B (x30 (pk ns t) n a) (x30 (pk ns t) n b))) x' y')=some ((List.range n).map fun i=>x72 n (fun a b=>drawn (pk ns t) n (B (x30 (pk ns t) n a) (x30 (pk ns t) n b))) i,[some (scr ns,0),some (.int t,9),some (x34 n B,0),some (.lst [],1),some (.lst (x0h ((List.range n).map (drawn (pk ns t) n))),1),some (x34 n (fun a b=>drawn (pk ns t) n (B (x30 (pk ns t) n a) (x30 (pk ns t) n b))),0),x',y']):=by
  simp[x34,hn]
 have e2:=x23 (k:=1) (pt:=x0k 8) (tt:=x2d) (te:=x2g (x01 (x05 8) x0g)) (deep:=false) e z1h
 exact x37 (x20 e2)
theorem j03(ns:List Int)(t:Int)(h0:0<=t):∃ n f,Lad n f/\x2b [scr ns,.int t]=some (x0o n f,9):=by
 obtain⟨n,f,L,_,e⟩:=z60 ns t h0
 exact⟨n,f,L,e⟩
section
variable {n:Nat}{f:Nat->Nat->Nat}
theorem z1p(hn:n<=1000){w:Nat}(hw:w<n):x1p [x0o n f,.int (Int.ofNat w)]=some (.lst (x0h ((List.range n).filter fun x=>decide (f x w=w))),1):=by
 unfold x1p x8c
 refine x3o (x46 (x23 (deep:=false) (ρ2:=[some (x0o n f,9),some (.int (Int.ofNat w),9)]) (x5g hn rfl x3b) ?_))
 refine z3r (i:=2) (ρ:=[some (x0o n f,9),some (.int (Int.ofNat w),9)]) (deep:=false) rfl (fun x=>decide (f x w=w)) (fun x=>.int (Int.ofNat x)) (fun _=>9) (fun j hj=>?_) (fun j hj _=>?_)
 ·simp[-Int.ofNat_eq_natCast,x6c hj,x87 hw,z0y]
 ·simp[-Int.ofNat_eq_natCast]
variable (L:Lad n f){z:Nat}(hz:z<n)(bz:∀ j,j<n->f z j=j)
include L hz bz
theorem z9m{w:Nat}(hw:w<n):decide ((List.range n).map (fun j=>f w j)=List.range n)=decide (w=z):=by
 rw[JE,y3h]
 exact⟨fun h=>L.bot_uniq hz bz hw h,fun h=>by subst h;exact bz⟩
theorem z4a(hn:n<=1000):x36 [x0o n f]=some (.int (Int.ofNat z),9):=by
 unfold x36 y15
 refine x3o (x46 (ρ1:=[some (x0o n f,9)]) ?_)
 have hc:x2r 1 (x14 (x01 (x1k 0) x0g)) (x0k 1) (x4n (e2 dEq (y04 (x01 (x1z 0 (x05 1)) x0g)) (x8d (x01 (x1k 0) x0g)))) (x05 1) false (x8i 1 [x0o n f])=some (.lst (x0h [z]),1,[some (x0o n f,9)]):=by
  refine(x23 (deep:=false) (ρ2:=[some (x0o n f,9)]) (x5g hn rfl x3b) (z3r rfl (fun x=>decide (x=z)) (fun x=>.int (Int.ofNat x)) (fun _=>9) (fun j hj=>?_) (fun j hj _=>?_))).trans ?_
  ·have e1:y04 (x01 (x1z 0 (x05 1)) x0g) ([some (x0o n f,9)]++[some (.int (Int.ofNat j),9)])=some (.lst (x0h ((List.range n).map fun k=>f j k)),1,[some (x0o n f,9),some (.int (Int.ofNat j),9)]):=by
    simp[-Int.ofNat_eq_natCast,x6c hj,y6t]
   have e2':x8d (x01 (x1k 0) x0g) [some (x0o n f,9),some (.int (Int.ofNat j),9)]=some (.lst (x0h (List.range n)),1,[some (x0o n f,9),some (.int (Int.ofNat j),9)]):=y3t (x5g hn rfl x3b)
   unfold x4n e2
   rw[e1]
   simp only[e2',j2g,z9m L hz bz hj]
   rfl
  ·simp[-Int.ofNat_eq_natCast]
  ·rw[y0w,Qj hz]
   rfl
 unfold eIx
 rw[hc]
 simp[-Int.ofNat_eq_natCast,atD,x0h,L2.atI,ixN]
theorem y7x(hn:n<=1000){l:List Nat}(hl:l.length<=1000)(hm:∀ x∈l,x<n):x1i [x0o n f,.lst (x0h l)]=some (.int (Int.ofNat (l.foldl f z)),9):=by
 unfold x1i x99
 refine x3o ?_
 refine(x0m (ρ1:=[some (x0o n f,9),some (.lst (x0h l),0),some (.int (Int.ofNat z),9),none]) ?_).trans ?_
 ·simp[-Int.ofNat_eq_natCast,z4a L hz bz hn]
 obtain⟨ρ',e,y,rfl⟩:=x2k (pt:=x0k 3) (body:=x25 2 (eIx (x1z 0 (x05 2)) (x05 3))) (x0h l) (fun i ρ=>∃ y,ρ=[some (x0o n f,9),some (.lst (x0h l),0),some (.int (Int.ofNat ((l.take i).foldl f z)),9),y]) [some (x0o n f,9),some (.lst (x0h l),0),some (.int (Int.ofNat z),9),none] (fun i hi ρ hh0=>by
  obtain⟨y,hy⟩:=hh0
  subst hy
  have hi':i<l.length:=by rw[x1f]at hi;exact hi
  have hg:(x0h l)[i]=.int (Int.ofNat l[i]):=by simp[x0h]
  have hx:l[i]<n:=hm _ (Zc hi')
  have ha:(l.take i).foldl f z<n:=L.fold_lt hz fun x m=>hm x (Yo m)
  refine⟨[some (x0o n f,9),some (.lst (x0h l),0),some (.int (Int.ofNat ((l.take i).foldl f z)),9),some (.int (Int.ofNat l[i]),9)],[some (x0o n f,9),some (.lst (x0h l),0),some (.int (Int.ofNat ((l.take (i+1)).foldl f z)),9),some (.int (Int.ofNat l[i]),9)],?_,.inl ?_,⟨_,rfl⟩⟩
  ·rw[hg];simp
  ·rw[List.take_succ_eq_append_getElem hi',Yb]
   simp[-Int.ofNat_eq_natCast,x6c ha,x87 hx]) ⟨none,rfl⟩
 rw[x1f,JD]at e
 refine(x0m ((x3g (ds:=x0h l) (ρ1:=[some (x0o n f,9),some (.lst (x0h l),0),some (.int (Int.ofNat z),9),none]) ?_).trans e)).trans ?_
 ·simp[x1f,hl]
 ·simp[-Int.ofNat_eq_natCast]
end
section
variable {n:Nat}{f:Nat->Nat->Nat}
variable (L:Lad n f){z:Nat}(hz:z<n)(bz:∀ j,j<n->f z j=j)
include L hz bz
theorem z3s(hn:n<=1000):x4c [x0o n f]=some (.int (Int.ofNat z),9):=by
 have b1:(-1000:Int)<=Int.ofNat n:=by show(-1000:Int)<=n;omega
 have b2:Int.ofNat n<=1000:=by show(n:Int)<=1000;omega
 have hr:x2h [.int (Int.ofNat n)]=some (.tup (x0h (List.range n)),9):=by
  unfold x2h x67
  simp[-Int.ofNat_eq_natCast,b1,b2]
  rfl
 have hi:j18 (.tup (x0h (List.range n))) ((List.range n).map fun i=>y6t n f i)=some z:=by
  unfold j18
  rw[y5f,QV]
  have ev:∀ i,i<n->PyData.eqv (toP (y6t n f i)) (toP (.tup (x0h (List.range n))))=decide (i=z):=fun i hi=>(z5z _ _).trans (z9m L hz bz hi)
  refine x79 (x:=toP (y6t n f z)) ?_ ?_ ?_
  ·rw[Ql,Zk hz];rfl
  ·rw[ev z hz];simp
  ·intro i y hi hy
   have hi':i<n:=J0 hi hz
   rw[Ql,Zk hi']at hy
   cases hy
   refine(ev i hi').trans ?_
   simp;omega
 have h1:okD (.tup ((List.range n).map fun i=>y6t n f i))=true:=(z67 n f).ok
 have h2:okD (.tup (x0h (List.range n)))=true:=(z4e _).ok
 have hl:y02 (.tup ((List.range n).map fun i=>y6t n f i))=some n:=x3b (f:=f)
 unfold x4c y14 x0o
 simp[-Int.ofNat_eq_natCast,hr,hl,h1,h2,hi]
end
section
variable {n:Nat}{f:Nat->Nat->Nat}
theorem x3p(hn:n<=1000){r s:Nat->Nat}(hr:∀ i,i<n->r i<n)(hs:∀ i,i<n->s i<n):x10 [x0o n f,x0i n r,x0i n s]=some (x0i n (fun i=>f (r i) (s i)),9):=by
 unfold x10 x6a
 refine x3o (x46 (ρ1:=[some (x0o n f,9),some (x0i n r,9),some (x0i n s,9)]) ?_)
 have hz:z1v (x01 (x05 1) (x01 (x05 2) x0g)) [some (x0o n f,9),some (x0i n r,9),some (x0i n s,9)]=some ((List.range n).map fun j=>.tup [.int (Int.ofNat (r j)),.int (Int.ofNat (s j))],[some (x0o n f,9),some (x0i n r,9),some (x0i n s,9)]):=by
  have:=y8z n r s
  simp[-Int.ofNat_eq_natCast,x0i,x1f,hn,this]
 have hc:=x23 (k:=2) (tt:=x2d) (te:=eIx (x1z 0 (x05 3)) (x05 4)) (deep:=false) hz (j1z (i:=3) rfl r s (fun _=>true) (fun j=>.int (Int.ofNat (f (r j) (s j)))) (fun _=>9) (fun j hj=>rfl) (fun j hj _=>by
  simp[-Int.ofNat_eq_natCast,x6c (f:=f) (hr j hj),x87 (f:=f) (i:=r j) (hs j hj)]))
 rw[show(List.range n).filter (fun _=>true)=List.range n by simp]at hc
 refine(x37 (x20 hc)).trans ?_
 exact ZL (fun d=>some (d,9,_)) (z5m _)
end
section
variable {n:Nat}{f:Nat->Nat->Nat}
variable (L:Lad n f){z:Nat}(hz:z<n)(bz:∀ j,j<n->f z j=j)
include L hz bz
theorem y46(ns:List Int)(t:Int)(h0:0<=t):∃ d:Nat->Nat,(∀ i,i<n->d i<n)/\x29 [scr ns,.int t,x0o n f]=some (x0i n (Lad.lr n f z d),9):=by
 have hn:n<=1000:=QU L.hi (by decide)
 have hnp:(0:Int)<Int.ofNat n:=by show(0:Int)<(n:Int);omega
 -- what is drawn for a worth
 have dr:∀ i,∃ v,v<n/\(i<n->∀ ρ:Rho,ρ[0]? = some (some (scr ns,0))->ρ[1]? = some (some (.int t,9))->ρ[2]? = some (some (x0o n f,9))->ρ[3]? = some (some (.int (Int.ofNat z),9))->ρ[5]? = some (some (.int (Int.ofNat i),9))->
   eIx (x5w (x01 (x05 3) (x01 (x05 5) (x01 (x0p x0b 3 (x01 (x05 0) (x01 (e2 x39 (x05 1) (x05 5)) (x01 (x1k 2) x0g)))) x0g)))) (x0p x0b 3 (x01 (x05 0) (x01 (e2 x39 (e2 x39 (x05 1) (eC (.int 8))) (x05 5)) (x01 (eC (.int 3)) x0g)))) ρ=some (.int (Int.ofNat v),9,ρ)):=fun i=>by
  have e1:=x6j ns (t+Int.ofNat i) (Int.ofNat n) (by show 0<=t+(i:Int);omega) hnp
  have e2':=x6j ns (t+8+Int.ofNat i) 3 (by show 0<=t+8+(i:Int);omega) (by decide)
  have l1:=x5c ns (t+Int.ofNat i) hnp
  have l2:=x6g ns (t+Int.ofNat i) hnp
  have k1:=x5c ns (t+8+Int.ofNat i) (m:=3) (by decide)
  have k2:=x6g ns (t+8+Int.ofNat i) (m:=3) (by decide)
  generalize x61 ns (t+Int.ofNat i) (Int.ofNat n)=a at *
  generalize x61 ns (t+8+Int.ofNat i) 3=b at *
  obtain⟨a',rfl⟩:∃ a':Nat,a=Int.ofNat a':=⟨a.toNat,by show a=(a.toNat:Int);omega⟩
  have ha':a'<n:=by have:(a':Int)<(n:Int):=l2;omega
  by_cases hi:i<n
  ·have hb:b=0\/b=1\/b=2:=by omega
   rcases hb with rfl|rfl|rfl
   ·refine⟨z,hz,fun _ ρ h0 h1 h2 h3 h5=>?_⟩
    simp[-Int.ofNat_eq_natCast,h0,h1,h2,h3,h5,x3b,e1,e2',atD,L2.atI,ixN]
   ·refine⟨i,hi,fun _ ρ h0 h1 h2 h3 h5=>?_⟩
    simp[-Int.ofNat_eq_natCast,h0,h1,h2,h3,h5,x3b,e1,e2',atD,L2.atI,ixN]
   ·refine⟨a',ha',fun _ ρ h0 h1 h2 h3 h5=>?_⟩
    simp[-Int.ofNat_eq_natCast,h0,h1,h2,h3,h5,x3b,e1,e2',atD,L2.atI,ixN]
  ·exact⟨z,hz,fun h=>absurd h hi⟩
 obtain⟨d,hd⟩:∃ d:Nat->Nat,∀ i,d i<n/\(i<n->∀ ρ:Rho,ρ[0]? = some (some (scr ns,0))->ρ[1]? = some (some (.int t,9))->ρ[2]? = some (some (x0o n f,9))->ρ[3]? = some (some (.int (Int.ofNat z),9))->ρ[5]? = some (some (.int (Int.ofNat i),9))->
   eIx (x5w (x01 (x05 3) (x01 (x05 5) (x01 (x0p x0b 3 (x01 (x05 0) (x01 (e2 x39 (x05 1) (x05 5)) (x01 (x1k 2) x0g)))) x0g)))) (x0p x0b 3 (x01 (x05 0) (x01 (e2 x39 (e2 x39 (x05 1) (eC (.int 8))) (x05 5)) (x01 (eC (.int 3)) x0g)))) ρ=some (.int (Int.ofNat (d i)),9,ρ)):=
  ⟨fun i=>(dr i).choose,fun i=>(dr i).choose_spec⟩
 refine⟨d,fun i _=>(hd i).1,?_⟩
 unfold x29 x9b
 refine x3o ?_
 have hs:x8i 7 [scr ns,.int t,x0o n f]=[some (scr ns,0),some (.int t,9),some (x0o n f,9),none,none,none,none]:=rfl
 rw[hs]
 refine(x0m (ρ1:=[some (scr ns,0),some (.int t,9),some (x0o n f,9),some (.int (Int.ofNat z),9),none,none,none]) ?_).trans ?_
 ·simp[-Int.ofNat_eq_natCast,z4a L hz bz hn]
 refine(x0m (ρ1:=[some (scr ns,0),some (.int t,9),some (x0o n f,9),some (.int (Int.ofNat z),9),some (.lst [],1),none,none]) ?_).trans ?_
 ·simp
 obtain⟨ρ',e,y,rfl⟩:=x2k (pt:=x0k 5) (body:=x3f (x8y 4 (x01 (eIx (x5w (x01 (x05 3) (x01 (x05 5) (x01 (x0p x0b 3 (x01 (x05 0) (x01 (e2 x39 (x05 1) (x05 5)) (x01 (x1k 2) x0g)))) x0g)))) (x0p x0b 3 (x01 (x05 0) (x01 (e2 x39 (e2 x39 (x05 1) (eC (.int 8))) (x05 5)) (x01 (eC (.int 3)) x0g))))) x0g))) (x12 n)
  (fun i ρ=>∃ y,ρ=[some (scr ns,0),some (.int t,9),some (x0o n f,9),some (.int (Int.ofNat z),9),some (.lst (x0h ((List.range i).map d)),1),y,none])
  [some (scr ns,0),some (.int t,9),some (x0o n f,9),some (.int (Int.ofNat z),9),some (.lst [],1),none,none] (fun i hi ρ hh0=>by
   obtain⟨y,hy⟩:=hh0
   subst hy
   have hi':i<n:=by rw[x0s]at hi;exact hi
   have hdi:=(hd i).2 hi' [some (scr ns,0),some (.int t,9),some (x0o n f,9),some (.int (Int.ofNat z),9),some (.lst (x0h ((List.range i).map d)),1),some (.int (Int.ofNat i),9),none] rfl rfl rfl rfl rfl
   refine⟨[some (scr ns,0),some (.int t,9),some (x0o n f,9),some (.int (Int.ofNat z),9),some (.lst (x0h ((List.range i).map d)),1),some (.int (Int.ofNat i),9),none],[some (scr ns,0),some (.int t,9),some (x0o n f,9),some (.int (Int.ofNat z),9),some (.lst (x0h ((List.range (i+1)).map d)),1),some (.int (Int.ofNat i),9),none],?_,.inl ?_,⟨_,rfl⟩⟩
   ·rw[show(x12 n)[i]=.int (Int.ofNat i)by simp[x12]];simp
   ·have ex:x0h ((List.range (i+1)).map d)=x0h ((List.range i).map d)++[.int (Int.ofNat (d i))]:=by rw[JN];simp[x0h]
    have hl:(x0h ((List.range i).map d)).length<=1000:=by rw[x1f,Qc,QJ];omega
    exact y1o rfl (x20 hdi) rfl hl (by rw[ex];rfl)) ⟨none,rfl⟩
 rw[x0s]at e
 refine(x0m ((x3g (x5g hn rfl x3b)).trans e)).trans ?_
 refine(x0m (ρ1:=[some (scr ns,0),some (.int t,9),some (x0o n f,9),some (.int (Int.ofNat z),9),some (.lst (x0h ((List.range n).map d)),1),y,some (.lst [],1)]) ?_).trans ?_
 ·simp
 have hdn:∀ i,i<n->d i<n:=fun i _=>(hd i).1
 obtain⟨ρ',e,y',rfl⟩:=x2k (pt:=x0k 5) (body:=x3f (x8y 6 (x01 (x0p x1i 2 (x01 (x05 2) (x01 (x2r 1 (x5p (x0p x1p 2 (x01 (x05 2) (x01 (x05 5) x0g)))) (x0k 7) x2d (x1z 4 (x05 7)) false) x0g))) x0g))) (x12 n)
  (fun i ρ=>∃ y,ρ=[some (scr ns,0),some (.int t,9),some (x0o n f,9),some (.int (Int.ofNat z),9),some (.lst (x0h ((List.range n).map d)),1),y,some (.lst (x0h ((List.range i).map (Lad.lr n f z d))),1)])
  [some (scr ns,0),some (.int t,9),some (x0o n f,9),some (.int (Int.ofNat z),9),some (.lst (x0h ((List.range n).map d)),1),y,some (.lst [],1)] (fun i hi ρ hh0=>by
   obtain⟨y,hy⟩:=hh0
   subst hy
   have hi':i<n:=by rw[x0s]at hi;exact hi
   refine⟨[some (scr ns,0),some (.int t,9),some (x0o n f,9),some (.int (Int.ofNat z),9),some (.lst (x0h ((List.range n).map d)),1),some (.int (Int.ofNat i),9),some (.lst (x0h ((List.range i).map (Lad.lr n f z d))),1)],[some (scr ns,0),some (.int t,9),some (x0o n f,9),some (.int (Int.ofNat z),9),some (.lst (x0h ((List.range n).map d)),1),some (.int (Int.ofNat i),9),some (.lst (x0h ((List.range (i+1)).map (Lad.lr n f z d))),1)],?_,.inl ?_,⟨_,rfl⟩⟩
   ·rw[show(x12 n)[i]=.int (Int.ofNat i)by simp[x12]];simp
   ·have ex:x0h ((List.range (i+1)).map (Lad.lr n f z d))=x0h ((List.range i).map (Lad.lr n f z d))++[.int (Int.ofNat (Lad.lr n f z d i))]:=by rw[JN];simp[x0h]
    have hl:(x0h ((List.range i).map (Lad.lr n f z d))).length<=1000:=by rw[x1f,Qc,QJ];omega
    have hlow:(Lad.low n f i).length<=1000:=by
     have:=Zz (fun y=>decide (f y i=i)) (List.range n)
     rw[QJ]at this
     exact QU this hn
    have hit:x5p (x0p x1p 2 (x01 (x05 2) (x01 (x05 5) x0g))) [some (scr ns,0),some (.int t,9),some (x0o n f,9),some (.int (Int.ofNat z),9),some (.lst (x0h ((List.range n).map d)),1),some (.int (Int.ofNat i),9),some (.lst (x0h ((List.range i).map (Lad.lr n f z d))),1)]=some (x0h (Lad.low n f i),[some (scr ns,0),some (.int t,9),some (x0o n f,9),some (.int (Int.ofNat z),9),some (.lst (x0h ((List.range n).map d)),1),some (.int (Int.ofNat i),9),some (.lst (x0h ((List.range i).map (Lad.lr n f z d))),1)]):=by
     have hb:x1p [x0o n f,.int (Int.ofNat i)]=some (.lst (x0h (Lad.low n f i)),1):=z1p hn hi'
     simp[-Int.ofNat_eq_natCast,hb,x1f,hlow]
    have hc:=x23 (k:=1) (te:=x1z 4 (x05 7)) (deep:=false) hit (j2p (i:=7) (Lad.low n f i) rfl (fun y=>.int (Int.ofNat (d y))) (fun _=>9) (fun y hy=>by
     have hyn:=(Lad.mem_low.mp hy).1
     have hat:atD (.lst (x0h ((List.range n).map d))) (Int.ofNat y)=some (.int (Int.ofNat (d y))):=x1r hyn
     simp[-Int.ofNat_eq_natCast,hat]))
    have hm:∀ y∈(Lad.low n f i).map d,y<n:=Lad.lr_mem L hz bz hdn
    have e':((Lad.low n f i).map fun y=>D.int (Int.ofNat (d y)))=x0h ((Lad.low n f i).map d):=by simp[x0h]
    rw[e']at hc
    have hj:x1i [x0o n f,.lst (x0h ((Lad.low n f i).map d))]=some (.int (Int.ofNat (Lad.lr n f z d i)),9):=y7x L hz bz hn (by rw[Qc];exact hlow) hm
    have ha:=x20 (x3m (n:=2) (x1e (f:=x05 2) (q:=9) (d:=x0o n f) (ρ:=[some (scr ns,0),some (.int t,9),some (x0o n f,9),some (.int (Int.ofNat z),9),some (.lst (x0h ((List.range n).map d)),1),some (.int (Int.ofNat i),9),some (.lst (x0h ((List.range i).map (Lad.lr n f z d))),1)]) (ρ1:=[some (scr ns,0),some (.int t,9),some (x0o n f,9),some (.int (Int.ofNat z),9),some (.lst (x0h ((List.range n).map d)),1),some (.int (Int.ofNat i),9),some (.lst (x0h ((List.range i).map (Lad.lr n f z d))),1)]) rfl (x20 hc)) rfl hj)
    exact y1o rfl ha rfl hl (by rw[ex];rfl)) ⟨y,rfl⟩
 rw[x0s]at e
 refine(x0m ((x3g (x5g hn rfl x3b)).trans e)).trans ?_
 exact x46 (x37 (x20 (q:=0) (ρ1:=[some (scr ns,0),some (.int t,9),some (x0o n f,9),some (.int (Int.ofNat z),9),some (.lst (x0h ((List.range n).map d)),1),y',some (.lst (x0h ((List.range n).map (Lad.lr n f z d))),0)]) rfl))
end
def x6l (n:Nat):D->Bool
 | .int i=>decide (0<=i)&&decide (i<(n:Int))
 | _=>false
theorem x1h(d:D):x4i [d]=some (.bl (match d with|.int _=>true|_=>false),9):=by
 unfold x4i y11
 cases d<;>simp[isD]
theorem y3y(n:Nat)(d:D):x2j [d,.int (Int.ofNat n)]=some (.bl (x6l n d),9):=by
 unfold x2j x64
 cases d with
 | int i=>
  have h:=x1h (.int i)
  by_cases h0:0<=i
  ·by_cases h1:i<(n:Int)
   ·simp[h,x6l,h0,h1]
   ·simp[h,x6l,h0,h1]
  ·simp[h,x6l,h0]
 | non=>simp[x1h,x6l]
 | bl b=>simp[x1h,x6l]
 | str x=>simp[x1h,x6l]
 | tup ds=>simp[x1h,x6l]
 | lst ds=>simp[x1h,x6l]
 | dic ks ds=>simp[x1h,x6l]
 | exc nm=>simp[x1h,x6l]
 | ob f fo vs ds=>simp[x1h,x6l]
 | mp k ds=>simp[x1h,x6l]
theorem j26(ds:List D)(hi:ρ.length=i)(v:D->D)(q:D->Nat)
  (he:∀ d,d∈ds->te (ρ++[some (d,y0a d)])=some (v d,q d,ρ++[some (d,y0a d)])) :
  x5a 1 (x0k i) x2d te false ds ρ=some (ds.map v,ρ):=by
 have h:=x42 (k:=1) (pt:=x0k i) (tt:=x2d) (te:=te) (deep:=false) ds (fun _=>ρ) (fun _=>true) (fun j=>v (ds.getD j .non)) (fun j hj=>?_)
 ·rw[show(List.range ds.length).filter (fun _=>true)=List.range ds.length by simp]at h
  rw[h]
  have e:(List.range ds.length).map (fun j=>v (ds.getD j .non))=ds.map v:=by
   apply Zx
   intro k
   by_cases hk:k<ds.length
   ·simp[hk]
   ·rw[QF (by simp;omega),QF (by simp;omega)]
  rw[e]
 ·have hg:ds.getD j .non=ds[j]:=by simp[hj]
  refine⟨ρ++[some (ds[j],y0a ds[j])],_,?_,rfl,?_⟩
  ·unfold x0k
   rw[Qj (by simp[hi])]
   subst hi
   simp[-y0a,Yw]
  ·rw[Qj rfl,hg]
   exact⟨q _,_,he _ (Zc hj),by simp,by simp⟩
theorem z2i{it:y6n}(hi:ρ.length=i)(hit:it ρ=some (ds,ρ))(b:D->Bool)(q:D->Nat)
  (he:∀ d,d∈ds->te (ρ++[some (d,y0a d)])=some (.bl (b d),q d,ρ++[some (d,y0a d)])) :
  eB z7w (x01 (x2r 1 it (x0k i) x2d te false) x0g) ρ=some (.bl (ds.all b),9,ρ):=by
 refine j2j (x20 (x23 (deep:=false) hit (j26 ds hi (fun d=>.bl (b d)) q he))) ?_
 simp only[z7w,z2y,Z7]
 simp[List.all_map,Y3]
structure Cht where
 p:Nat
 W:List (Nat×Nat×(Nat->Nat))
 B:List (Nat×Nat)
def x21 (n:Nat)(w:Nat×Nat×(Nat->Nat)):D:=.tup [.int (Int.ofNat w.1),.int (Int.ofNat w.2.1),x0i n w.2.2]
def x3j (b:Nat×Nat):D:=.tup [.int (Int.ofNat b.1),.int (Int.ofNat b.2)]
def x06 (n:Nat)(C:Cht):D:=.tup [.int (Int.ofNat C.p),.tup (C.W.map (x21 n)),.tup (C.B.map x3j)]
def okW (n:Nat)(f:Nat->Nat->Nat)(p:Nat)(w:Nat×Nat×(Nat->Nat)):Prop:=w.1<p/\w.2.1<p/\(∀ i,i<n->w.2.2 i<n)/\∀ x y,x<n->y<n->f x y=y->f (w.2.2 x) (w.2.2 y)=w.2.2 y
def okB (n:Nat)(p:Nat)(b:Nat×Nat):Prop:=b.1<p/\b.2<n
structure Cht.Ok (n:Nat) (f:Nat->Nat->Nat) (C:Cht):Prop where
 p1:1<=C.p
 p8:C.p<=8
 w60:C.W.length<=60
 b60:C.B.length<=60
 ws:∀ w∈C.W,okW n f C.p w
 bs:∀ b∈C.B,okB n C.p b
@[simp] theorem z7z{C:Cht}:(x06 n C).isL=false:=rfl
@[simp] theorem j1j{w:Nat×Nat×(Nat->Nat)}:(x21 n w).isL=false:=rfl
@[simp] theorem j1d:(x3j b).isL=false:=rfl
theorem x4v(ns:List Int){k:Int}(hk:0<=k)(hm:0<m):∃ v:Nat,(v:Int)<m/\x0b [scr ns,.int k,.int m]=some (.int (Int.ofNat v),9):=by
 have h1:=x5c ns k hm
 have h2:=x6g ns k hm
 refine⟨(x61 ns k m).toNat,by omega,?_⟩
 rw[x6j ns k m hk hm]
 have:x61 ns k m=Int.ofNat (x61 ns k m).toNat:=by show _=(((x61 ns k m).toNat:Nat):Int);omega
 rw[<- this]
theorem x6n{m:Nat}(hm:m<=1000){fe:Den}{ρ':Rho}(h:fe ρ=some (.int (Int.ofNat m),q,ρ')):x14 (x01 fe x0g) ρ=some (x12 m,ρ'):=by
 have b1:(-1000:Int)<=Int.ofNat m:=by show(-1000:Int)<=m;omega
 have b2:Int.ofNat m<=1000:=by show(m:Int)<=1000;omega
 simp only[x14,x01,x0g,h]
 rw[Qj ⟨b1,b2⟩]
 rfl
section
variable {n:Nat}{f:Nat->Nat->Nat}(L:Lad n f){z:Nat}(hz:z<n)(bz:∀ j,j<n->f z j=j)
include L hz bz
theorem y7m(ns:List Int)(t:Int)(h0:0<=t)(hp:1<=p)(m:Nat)(hm:m<=7) :
  ∃ W:List (Nat×Nat×(Nat->Nat)),W.length=m/\(∀ w∈W,okW n f p w)/\∃ a b c,y09 (x0k 6) x4t (x12 m) [some (scr ns,0),some (.int t,9),some (x0o n f,9),some (.bl false,9),some (.int (Int.ofNat p),9),some (.lst [],1),none,none,none,none,none]=some (.nx [some (scr ns,0),some (.int t,9),some (x0o n f,9),some (.bl false,9),some (.int (Int.ofNat p),9),some (.lst (W.map (x21 n)),1),a,b,c,none,none]):=by
 have hpp:(0:Int)<Int.ofNat p:=by show(0:Int)<(p:Int);omega
 obtain⟨ρ',e,W,hl,hok,a,b,c,rfl⟩:=x2k (pt:=x0k 6) (body:=x4t) (x12 m) (fun i ρ=>∃ W:List (Nat×Nat×(Nat->Nat)),W.length=i/\(∀ w∈W,okW n f p w)/\∃ a b c,ρ=[some (scr ns,0),some (.int t,9),some (x0o n f,9),some (.bl false,9),some (.int (Int.ofNat p),9),some (.lst (W.map (x21 n)),1),a,b,c,none,none]) [some (scr ns,0),some (.int t,9),some (x0o n f,9),some (.bl false,9),some (.int (Int.ofNat p),9),some (.lst [],1),none,none,none,none,none] (fun i hi ρ hh0=>by
  obtain⟨W,hl,hok,a,b,c,hr⟩:=hh0
  subst hr
  have hi':i<m:=by rw[x0s]at hi;exact hi
  obtain⟨x,hx⟩:∃ x:Int,x=t+10+22*Int.ofNat i:=⟨_,rfl⟩
  have hx0:0<=x:=by have:Int.ofNat i=(i:Int):=rfl;omega
  obtain⟨d,hd,hR⟩:=y46 L hz bz ns (x+2) (by omega)
  obtain⟨s,hs,es⟩:=x4v ns hx0 hpp
  obtain⟨g,hg,eg⟩:=x4v ns (show 0<=x+1 by omega) hpp
  have hs':s<p:=by have:(s:Int)<(p:Int):=hs;omega
  have hg':g<p:=by have:(g:Int)<(p:Int):=hg;omega
  have hok':okW n f p (s,g,Lad.lr n f z d):=⟨hs',hg',fun i _=>L.lr_lt hz bz hd i,fun x y hx hy e=>L.lr_rises hz bz hd hx hy e⟩
  generalize Lad.lr n f z d=r at *
  have hW:W.length<=1000:=by omega
  refine⟨[some (scr ns,0),some (.int t,9),some (x0o n f,9),some (.bl false,9),some (.int (Int.ofNat p),9),some (.lst (W.map (x21 n)),1),some (.int (Int.ofNat i),9),b,c,none,none],[some (scr ns,0),some (.int t,9),some (x0o n f,9),some (.bl false,9),some (.int (Int.ofNat p),9),some (.lst ((W++[(s,g,r)]).map (x21 n)),1),some (.int (Int.ofNat i),9),some (.int x,9),some (x0i n r,9),none,none],by rw[x4j];simp,.inl ?_,W++[(s,g,r)],by simp[hl],fun w hw=>?_,_,_,_,rfl⟩
  ·unfold x4t
   refine(x0m (ρ1:=[some (scr ns,0),some (.int t,9),some (x0o n f,9),some (.bl false,9),some (.int (Int.ofNat p),9),some (.lst (W.map (x21 n)),1),some (.int (Int.ofNat i),9),some (.int x,9),c,none,none]) (by rw[hx];simp[-Int.ofNat_eq_natCast])).trans ?_
   refine(x0m (ρ1:=[some (scr ns,0),some (.int t,9),some (x0o n f,9),some (.bl false,9),some (.int (Int.ofNat p),9),some (.lst (W.map (x21 n)),1),some (.int (Int.ofNat i),9),some (.int x,9),some (x0i n r,9),none,none]) (by simp[-Int.ofNat_eq_natCast,hR])).trans ?_
   refine(x0m (ρ1:=[some (scr ns,0),some (.int t,9),some (x0o n f,9),some (.bl false,9),some (.int (Int.ofNat p),9),some (.lst (W.map (x21 n)),1),some (.int (Int.ofNat i),9),some (.int x,9),some (x0i n r,9),none,none]) (by simp[-Int.ofNat_eq_natCast])).trans ?_
   simp[-Int.ofNat_eq_natCast,es,eg,hW,x21]
  ·rcases Q2.mp hw with h|h
   ·exact hok w h
   ·rw[Q6.mp h];exact hok') ⟨[],rfl,(fun _ z=>nomatch z),none,none,none,rfl⟩
 rw[x0s]at hl
 exact⟨W,hl,hok,a,b,c,e⟩
theorem y7i(ns:List Int)(t:Int)(h0:0<=t)(hp:1<=p)(m:Nat)(hm:m<=3)(W:OD)(a b c:OD) :
  ∃ B:List (Nat×Nat),B.length=m/\(∀ w∈B,okB n p w)/\∃ a' h,y09 (x0k 6) x4y (x12 m) [some (scr ns,0),some (.int t,9),some (x0o n f,9),some (.bl false,9),some (.int (Int.ofNat p),9),W,a,b,c,some (.lst [],1),none]=some (.nx [some (scr ns,0),some (.int t,9),some (x0o n f,9),some (.bl false,9),some (.int (Int.ofNat p),9),W,a',b,c,some (.lst (B.map x3j),1),h]):=by
 have hpp:(0:Int)<Int.ofNat p:=by show(0:Int)<(p:Int);omega
 have hnp:(0:Int)<Int.ofNat n:=by have:=L.lo;show(0:Int)<(n:Int);omega
 obtain⟨ρ',e,B,hl,hok,a',h,rfl⟩:=x2k (pt:=x0k 6) (body:=x4y) (x12 m) (fun i ρ=>∃ B:List (Nat×Nat),B.length=i/\(∀ w∈B,okB n p w)/\∃ a h,ρ=[some (scr ns,0),some (.int t,9),some (x0o n f,9),some (.bl false,9),some (.int (Int.ofNat p),9),W,a,b,c,some (.lst (B.map x3j),1),h]) [some (scr ns,0),some (.int t,9),some (x0o n f,9),some (.bl false,9),some (.int (Int.ofNat p),9),W,a,b,c,some (.lst [],1),none] (fun i hi ρ hh0=>by
  obtain⟨B,hl,hok,a,h,hr⟩:=hh0
  subst hr
  have hi':i<m:=by rw[x0s]at hi;exact hi
  have hii:Int.ofNat i=(i:Int):=rfl
  obtain⟨v,hv,ev⟩:=x4v ns (show 0<=t+3+2*Int.ofNat i by omega) hnp
  obtain⟨g,hg,eg⟩:=x4v ns (show 0<=t+4+2*Int.ofNat i by omega) hpp
  have hv':v<n:=by have:(v:Int)<(n:Int):=hv;omega
  have hg':g<p:=by have:(g:Int)<(p:Int):=hg;omega
  have hB:B.length<=1000:=by omega
  refine⟨[some (scr ns,0),some (.int t,9),some (x0o n f,9),some (.bl false,9),some (.int (Int.ofNat p),9),W,some (.int (Int.ofNat i),9),b,c,some (.lst (B.map x3j),1),h],[some (scr ns,0),some (.int t,9),some (x0o n f,9),some (.bl false,9),some (.int (Int.ofNat p),9),W,some (.int (Int.ofNat i),9),b,c,some (.lst ((B++[(g,v)]).map x3j),1),some (.int (Int.ofNat v),9)],by rw[x4j];simp,.inl ?_,B++[(g,v)],by simp[hl],fun w hw=>?_,_,_,rfl⟩
  ·unfold x4y
   refine(x0m (ρ1:=[some (scr ns,0),some (.int t,9),some (x0o n f,9),some (.bl false,9),some (.int (Int.ofNat p),9),W,some (.int (Int.ofNat i),9),b,c,some (.lst (B.map x3j),1),some (.int (Int.ofNat v),9)]) (by simp[-Int.ofNat_eq_natCast,x3b,ev])).trans ?_
   simp[-Int.ofNat_eq_natCast,eg,hB,x3j]
  ·rcases Q2.mp hw with h|h
   ·exact hok w h
   ·rw[Q6.mp h];exact⟨hg',hv'⟩) ⟨[],rfl,(fun _ z=>nomatch z),a,none,rfl⟩
 rw[x0s]at hl
 exact⟨B,hl,hok,a',h,e⟩
theorem y2s(ns:List Int)(t:Int)(h0:0<=t):∃ C:Cht,C.Ok n f/\C.p<=5/\C.W.length<=7/\C.B.length<=3/\x3c [scr ns,.int t,x0o n f,.bl false]=some (x06 n C,9):=by
 obtain⟨p0,hp0,ep⟩:=x4v ns h0 (m:=5) (by decide)
 obtain⟨mw,hmw,ew⟩:=x4v ns (show 0<=t+1 by omega) (m:=8) (by decide)
 obtain⟨mb,hmb,eb⟩:=x4v ns (show 0<=t+2 by omega) (m:=4) (by decide)
 obtain⟨p,hp⟩:∃ p:Nat,p=p0+1:=⟨_,rfl⟩
 have hp':(1:Int)+Int.ofNat p0=Int.ofNat p:=by show(1:Int)+(p0:Int)=(p:Int);omega
 obtain⟨W,hWl,hWok,a,b,c,eW⟩:=y7m L hz bz ns t h0 (p:=p) (by omega) mw (by omega)
 obtain⟨B,hBl,hBok,a',h,eB⟩:=y7i L hz bz ns t h0 (p:=p) (by omega) mb (by omega) (some (.lst (W.map (x21 n)),1)) a b c
 refine⟨⟨p,W,B⟩,⟨by show 1<=p;omega,by show p<=8;omega,by show W.length<=60;omega,by show B.length<=60;omega,hWok,hBok⟩,by show p<=5;omega,by show W.length<=7;omega,by show B.length<=3;omega,?_⟩
 unfold x3c x8j
 refine x3o ?_
 show x16 _ _ [some (scr ns,0),some (.int t,9),some (x0o n f,9),some (.bl false,9),none,none,none,none,none,none,none]=_
 refine(x0m (ρ1:=[some (scr ns,0),some (.int t,9),some (x0o n f,9),some (.bl false,9),some (.int (Int.ofNat p),9),none,none,none,none,none,none]) (by simp[-Int.ofNat_eq_natCast,ep,hp'])).trans ?_
 refine(x0m (ρ1:=[some (scr ns,0),some (.int t,9),some (x0o n f,9),some (.bl false,9),some (.int (Int.ofNat p),9),some (.lst [],1),none,none,none,none,none]) (by simp)).trans ?_
 refine(x0m ((x3g (ρ1:=[some (scr ns,0),some (.int t,9),some (x0o n f,9),some (.bl false,9),some (.int (Int.ofNat p),9),some (.lst [],1),none,none,none,none,none]) (x6n (m:=mw) (by omega) (q:=9) (by simp[-Int.ofNat_eq_natCast,ew]))).trans eW)).trans ?_
 refine(x0m (ρ1:=[some (scr ns,0),some (.int t,9),some (x0o n f,9),some (.bl false,9),some (.int (Int.ofNat p),9),some (.lst (W.map (x21 n)),1),a,b,c,some (.lst [],1),none]) (by simp)).trans ?_
 refine(x0m ((x3g (ρ1:=[some (scr ns,0),some (.int t,9),some (x0o n f,9),some (.bl false,9),some (.int (Int.ofNat p),9),some (.lst (W.map (x21 n)),1),a,b,c,some (.lst [],1),none]) (x6n (m:=mb) (by omega) (q:=9) (by simp[-Int.ofNat_eq_natCast,eb]))).trans eB)).trans ?_
 simp[-Int.ofNat_eq_natCast,x06]
end
def y45 (b:Nat×Nat):ChS:=(b.1,fun _=>b.2)
def y8o (w:Nat×Nat×(Nat->Nat)):ChS:=(w.2.1,fun v=>w.2.2 (gv v w.1))
def x51 (C:Cht):List ChS:=C.B.map y45++C.W.map y8o
section
variable {n:Nat}{f:Nat->Nat->Nat}(L:Lad n f){C:Cht}(hC:C.Ok n f)
include L hC
theorem y2m:∀ s∈x51 C,OkS n C.p f s:=fun s hs=>by
 unfold x51 at hs
 rcases Q2.mp hs with h|h
 ·obtain⟨b,hb,rfl⟩:=Qp.mp h
  have k:=hC.bs b hb
  exact⟨k.1,fun _ _=>k.2,fun _ _ _ _ _=>L.idem _ k.2⟩
 ·obtain⟨w,hw,rfl⟩:=Qp.mp h
  have k:=hC.ws w hw
  exact⟨k.2.1,fun v hv=>k.2.2.1 _ (hv.gv k.1),fun u v hu hv e=>k.2.2.2 _ _ (hu.gv k.1) (hv.gv k.1) (e _ k.1)⟩
end
abbrev Sn:=Bool×Nat
def x0f (s:Sn):D:=.tup [.str (if s.1 then "begin" else "way"),.int (Int.ofNat s.2)]
@[simp] theorem z9r{s:Sn}:(x0f s).isL=false:=rfl
def okN (C:Cht)(s:Sn):Prop:=s.2<(if s.1 then C.B.length else C.W.length)
def x2s (C:Cht)(s:Sn):ChS:=if s.1 then y45 (C.B.getD s.2 (0,0))else y8o (C.W.getD s.2 (0,0,id))
def z3u (C:Cht):List Sn:=(List.range C.B.length).map (fun k=>(true,k))++(List.range C.W.length).map (fun k=>(false,k))
theorem z72(C:Cht):∀ s∈z3u C,okN C s:=fun s hs=>by
 unfold z3u at hs
 rcases Q2.mp hs with h|h
 ·obtain⟨k,hk,rfl⟩:=Qp.mp h
  exact QA.mp hk
 ·obtain⟨k,hk,rfl⟩:=Qp.mp h
  exact QA.mp hk
theorem y5u{α β:Type}(l:List α)(d:α)(g:α->β):(List.range l.length).map (fun k=>g (l.getD k d))=l.map g:=by
 apply Zx
 intro k
 by_cases hk:k<l.length
 ·simp[hk]
 ·rw[QF (by simp;omega),QF (by simp;omega)]
theorem z2o(C:Cht):(z3u C).map (x2s C)=x51 C:=by
 unfold z3u x51
 rw[QZ,QV,QV,<- y5u C.B (0,0) y45,<- y5u C.W (0,0,id) y8o]
 rfl
theorem y1n{C:Cht}{s:Sn}(h:okN C s):x2s C s∈x51 C:=by
 unfold okN at h
 unfold x2s x51
 cases hb:s.1 with
 | true=>
  rw[hb]at h
  have h':s.2<C.B.length:=h
  refine Q9 _ (Qp.mpr ⟨C.B.getD s.2 (0,0),?_,rfl⟩)
  rw[Qh,Qa h']
  exact Zc h'
 | false=>
  rw[hb]at h
  have h':s.2<C.W.length:=h
  refine Qr _ (Qp.mpr ⟨C.W.getD s.2 (0,0,id),?_,rfl⟩)
  rw[Qh,Qa h']
  exact Zc h'
theorem z1a:dEq (.str "begin") (.str "begin")=some (.bl true):=by
 have h:okD (.str "begin")=true:=by decide +kernel
 unfold dEq
 rw[Qj ⟨h,h⟩]
 rfl
theorem z84:dEq (.str "way") (.str "begin")=some (.bl false):=by
 have h:okD (.str "begin")=true:=by decide +kernel
 have h':okD (.str "way")=true:=by decide +kernel
 have e:eqD (.str "way") (.str "begin")=false:=by decide +kernel
 unfold dEq
 rw[Qj ⟨h',h⟩,e]
theorem z8r(hp:p<v.length):L3.z46 (x0h v) none (some (Int.ofNat p))=x0h (v.take p):=by
 unfold L3.z46
 have e1:HT.sIx (x0h v).length 0 none=0:=rfl
 have e2:HT.sIx (x0h v).length (x0h v).length (some (Int.ofNat p))=p:=by
  rw[x1f]
  have:¬ ((p:Int)<0):=by omega
  simp[HT.sIx,this]
  omega
 rw[e1,e2,List.drop_zero,Nat.sub_zero]
 simp only[x0h,List.map_take]
theorem z26(hp:p<v.length):L3.z46 (x0h v) (some (Int.ofNat p+1)) none=x0h (v.drop (p+1)):=by
 unfold L3.z46
 have e1:HT.sIx (x0h v).length 0 (some (Int.ofNat p+1))=p+1:=by
  rw[x1f]
  have:¬ ((p:Int)+1<0):=by omega
  simp[HT.sIx,this]
  omega
 have e2:HT.sIx (x0h v).length (x0h v).length none=(x0h v).length:=rfl
 rw[e1,e2,Jt (by rw[ZN];exact Qi _)]
 simp only[x0h,List.map_drop]
theorem z4z{x:Nat}(hp:p<v.length):x0h (v.take p)++[.int (Int.ofNat x)]++x0h (v.drop (p+1))=x0h (v.set p x):=by
 rw[List.set_eq_take_append_cons_drop,Qj hp]
 simp[x0h]
def Rz (f:Nat->Nat->Nat)(C:Cht):List Nat->List Sn->Prop
 | _,[]=>True
 | v,s::R=>doS f v (x2s C s)≠v/\Rz f C (doS f v (x2s C s)) R
theorem Rz.snoc{C:Cht}{s:Sn}:∀ {R:List Sn} {v:List Nat},Rz f C v R->doS f ((R.map (x2s C)).foldl (doS f) v) (x2s C s)≠(R.map (x2s C)).foldl (doS f) v->Rz f C v (R++[s])
 | [],_,_,h=>⟨h,trivial⟩
 | _::_,_,r,h=>⟨r.1,Rz.snoc r.2 h⟩
section
variable {n:Nat}{f:Nat->Nat->Nat}(L:Lad n f){C:Cht}(hC:C.Ok n f)
include L hC
theorem x7l(hv:Vn n C.p v){s:Sn}(hs:okN C s):x1o [x06 n C,.tup (x0h v),x0f s]=some (.tup [.int (Int.ofNat (x2s C s).1),.int (Int.ofNat ((x2s C s).2 v))],9):=by
 obtain⟨b,k⟩:=s
 unfold okN at hs
 unfold x1o x4k
 have c1:atD (x06 n C) 1=some (.tup (C.W.map (x21 n))):=rfl
 have c2:atD (x06 n C) 2=some (.tup (C.B.map x3j)):=rfl
 cases b with
 | true=>
  have hk:k<C.B.length:=hs
  have s0:atD (x0f (true,k)) 0=some (.str "begin"):=rfl
  have s1:atD (x0f (true,k)) 1=some (.int (Int.ofNat k)):=rfl
  have e:atD (.tup (C.B.map x3j)) (Int.ofNat k)=some (x3j (C.B.getD k (0,0))):=y16 (by rw[Ql,Qa hk];simp[hk])
  have hst:x2s C (true,k)=y45 (C.B.getD k (0,0)):=rfl
  rw[hst]
  generalize C.B.getD k (0,0)=b at *
  generalize x0f (true,k)=sd at *
  have hb:x3j b=.tup [.int (Int.ofNat (y45 b).1),.int (Int.ofNat ((y45 b).2 v))]:=rfl
  rw[<- hb]
  simp[-Int.ofNat_eq_natCast,s0,s1,c2,e,z1a]
 | false=>
  have hk:k<C.W.length:=hs
  have s0:atD (x0f (false,k)) 0=some (.str "way"):=rfl
  have s1:atD (x0f (false,k)) 1=some (.int (Int.ofNat k)):=rfl
  have e:atD (.tup (C.W.map (x21 n))) (Int.ofNat k)=some (x21 n (C.W.getD k (0,0,id))):=y16 (by rw[Ql,Qa hk];simp[hk])
  have hst:x2s C (false,k)=y8o (C.W.getD k (0,0,id)):=rfl
  have hw:C.W.getD k (0,0,id)∈C.W:=by
   rw[Qh,Qa hk]
   exact Zc hk
  have ok:=hC.ws _ hw
  rw[hst]
  generalize C.W.getD k (0,0,id)=w at *
  have w0:atD (x21 n w) 0=some (.int (Int.ofNat w.1)):=rfl
  have w1:atD (x21 n w) 1=some (.int (Int.ofNat w.2.1)):=rfl
  have w2:atD (x21 n w) 2=some (x0i n w.2.2):=rfl
  have a0:=j3a (v:=v) (i:=w.1) (by rw[hv.len];exact ok.1)
  have a1:=z3t (r:=w.2.2) (hv.gv ok.1)
  have hst':x0f (false,k)=x0f (false,k):=rfl
  generalize hsd:x0f (false,k)=sd at *
  have hL:sd.isL=false:=by rw[<- hsd];rfl
  show _=some (D.tup [.int (Int.ofNat w.2.1),.int (Int.ofNat (w.2.2 (gv v w.1)))],9)
  generalize hwt:x21 n w=wt at *
  have hL2:wt.isL=false:=by rw[<- hwt];rfl
  simp[-Int.ofNat_eq_natCast,s0,s1,c1,e,z84,w0,w1,w2,a0,a1,hL,hL2]
theorem z0p(hv:Vn n C.p v){s:Sn}(hs:okN C s):x1a [x0o n f,x06 n C,.tup (x0h v),x0f s]=some (.tup (x0h (doS f v (x2s C s))),9):=by
 have ok:=y2m L hC _ (y1n hs)
 have hp:=x7l L hC hv hs
 have hx:=ok.lt v hv
 have hg:=hv.gv ok.pl
 have hpl:(x2s C s).1<v.length:=by rw[hv.len];exact ok.pl
 have hp8:=hC.p8
 have hl:=hv.len
 unfold doS
 generalize (x2s C s).1=g at *
 generalize (x2s C s).2 v=x at *
 have a0:=j3a hpl
 have a1:=x6c (f:=f) hg
 have a2:=x87 (f:=f) (i:=gv v g) hx
 have s1:=z8r hpl
 have s2:=z26 hpl
 have s3:=z4z (x:=f (gv v g) x) hpl
 have l1:(x0h (v.take g)).length=g:=by rw[x1f,Q3];omega
 have l2:(x0h (v.drop (g+1))).length=v.length-(g+1):=by rw[x1f,ZN]
 unfold x1a x56
 refine x3o ?_
 show x16 _ _ [some (x0o n f,9),some (x06 n C,9),some (.tup (x0h v),9),some (x0f s,9),none,none,none]=_
 refine(x0m (ρ1:=[some (x0o n f,9),some (x06 n C,9),some (.tup (x0h v),9),some (x0f s,9),some (.tup [.int (Int.ofNat g),.int (Int.ofNat x)],9),none,none]) (by simp[-Int.ofNat_eq_natCast,hp])).trans ?_
 have t0:atD (.tup [.int (Int.ofNat g),.int (Int.ofNat x)]) 0=some (.int (Int.ofNat g)):=rfl
 have t1:atD (.tup [.int (Int.ofNat g),.int (Int.ofNat x)]) 1=some (.int (Int.ofNat x)):=rfl
 refine(x0m (ρ1:=[some (x0o n f,9),some (x06 n C,9),some (.tup (x0h v),9),some (x0f s,9),some (.tup [.int (Int.ofNat g),.int (Int.ofNat x)],9),some (.int (Int.ofNat g),9),none]) (by simp[-Int.ofNat_eq_natCast,t0])).trans ?_
 refine(x0m (ρ1:=[some (x0o n f,9),some (x06 n C,9),some (.tup (x0h v),9),some (x0f s,9),some (.tup [.int (Int.ofNat g),.int (Int.ofNat x)],9),some (.int (Int.ofNat g),9),some (.int (Int.ofNat (f (gv v g) x)),9)]) (by simp[-Int.ofNat_eq_natCast,a0,a1,a2,t1])).trans ?_
 rw[<- s3]
 have m1:(x0h (v.take g)).length+1<=1000:=by omega
 have m2:(x0h (v.take g)).length+1+(x0h (v.drop (g+1))).length<=1000:=by omega
 generalize x0h (v.take g)=u1 at *
 generalize x0h (v.drop (g+1))=u2 at *
 have m1':u1.length<=999:=by omega
 simp[-Int.ofNat_eq_natCast,s1,s2,m1,m1',m2]
structure LowS (n:Nat) (f:Nat->Nat->Nat) (p:Nat) (l:List ChS) (v u:List Nat):Prop where
 V:Vn n p u
 cl:ClS f l u
 up:leV f p v u
 le:∀ a,Vn n p a->ClS f l a->leV f p v a->leV f p u a
theorem z1e(hv:Vn n C.p v){l:List Sn}(hl:∀ s∈l,okN C s)(hlen:l.length<=1000) :
  ∃ (u:List Nat) (R:List Sn),LowS n f C.p (l.map (x2s C)) v u/\(∀ s∈R,s∈l)/\(R.map (x2s C)).foldl (doS f) v=u/\(Lad.mu n f u+R.length<=Lad.mu n f v/\Rz f C v R)/\x8a [x0o n f,x06 n C,.lst (l.map x0f),.tup (x0h v)]=some (.tup [.tup (x0h u),.lst (R.map x0f)],9):=by
 have hp8:=hC.p8
 have hn8:=L.hi
 have hmu:=Lad.mu_le (f:=f) hv
 have hmu':C.p*n<=8*16:=Nat.mul_le_mul hp8 hn8
 have hS:∀ t∈l.map (x2s C),OkS n C.p f t:=fun t ht=>by
  obtain⟨s,hs,rfl⟩:=Qp.mp ht
  exact y2m L hC _ (y1n (hl s hs))
 -- one round
 have round:∀ (w:List Nat) (R:List Sn) (a:OD) (j:(OD×OD)),Vn n C.p w->(∀ s∈R,s∈l)->(R.map (x2s C)).foldl (doS f) v=w->(Lad.mu n f w+R.length<=Lad.mu n f v/\Rz f C v R)->
   ∃ (R':List Sn) (j':(OD×OD)),(∀ s∈R',s∈l)/\(R'.map (x2s C)).foldl (doS f) v=(l.map (x2s C)).foldl (doS f) w/\(Lad.mu n f ((l.map (x2s C)).foldl (doS f) w)+R'.length<=Lad.mu n f v/\Rz f C v R') /\
    y09 (x0k 6) x90 (l.map x0f) [some (x0o n f,9),some (x06 n C,9),some (.lst (l.map x0f),0),some (.tup (x0h w),9),some (.lst ((R).map x0f),1),a,(j).1,(j).2]=some (.nx [some (x0o n f,9),some (x06 n C,9),some (.lst (l.map x0f),0),some (.tup (x0h ((l.map (x2s C)).foldl (doS f) w)),9),some (.lst ((R').map x0f),1),a,(j').1,(j').2]):=fun w R a j hw h1 h2 h3=>by
  obtain⟨j',e,i1,i2,i3,i4⟩:=x9v (J:=(OD×OD)) (pt:=x0k 6) (body:=x90) x0f (fun(σ:List Nat×List Sn) j=>[some (x0o n f,9),some (x06 n C,9),some (.lst (l.map x0f),0),some (.tup (x0h σ.1),9),some (.lst ((σ.2).map x0f),1),a,(j).1,(j).2]) (fun σ s=>(doS f σ.1 (x2s C s),if doS f σ.1 (x2s C s)=σ.1 then σ.2 else σ.2++[s]))
   (fun σ=>Vn n C.p σ.1/\(∀ s∈σ.2,s∈l)/\(σ.2.map (x2s C)).foldl (doS f) v=σ.1/\(Lad.mu n f σ.1+σ.2.length<=Lad.mu n f v/\Rz f C v σ.2)) l (w,R) j ⟨hw,h1,h2,h3⟩ (fun s hs σ j hh0=>by
    obtain⟨k1,k2,k3,k4⟩:=hh0
    obtain⟨x,Q⟩:=σ
    dsimp only at k1 k2 k3 k4 ⊢
    have ok:=y2m L hC _ (y1n (hl s hs))
    have hb:=z0p L hC k1 (hl s hs)
    have hx':=L.doS_V ok k1
    by_cases he:doS f x (x2s C s)=x
    ·rw[Qj he]
     refine⟨⟨hx',k2,by rw[he];exact k3,by rw[he];exact k4⟩,[some (x0o n f,9),some (x06 n C,9),some (.lst (l.map x0f),0),some (.tup (x0h x),9),some (.lst ((Q).map x0f),1),a,(((some (x0f s,9),j.2):(OD×OD))).1,(((some (x0f s,9),j.2):(OD×OD))).2],(some (x0f s,9),some (.tup (x0h (doS f x (x2s C s))),9)),by simp,?_⟩
     unfold x90
     refine(x0m (ρ1:=[some (x0o n f,9),some (x06 n C,9),some (.lst (l.map x0f),0),some (.tup (x0h x),9),some (.lst ((Q).map x0f),1),a,(((some (x0f s,9),some (.tup (x0h (doS f x (x2s C s))),9)):(OD×OD))).1,(((some (x0f s,9),some (.tup (x0h (doS f x (x2s C s))),9)):(OD×OD))).2]) (by simp[hb])).trans ?_
     refine(x0m (ρ1:=[some (x0o n f,9),some (x06 n C,9),some (.lst (l.map x0f),0),some (.tup (x0h x),9),some (.lst ((Q).map x0f),1),a,(((some (x0f s,9),some (.tup (x0h (doS f x (x2s C s))),9)):(OD×OD))).1,(((some (x0f s,9),some (.tup (x0h (doS f x (x2s C s))),9)):(OD×OD))).2]) (by rw[he];simp[z2a])).trans ?_
     simp
    ·rw[Qk he]
     have hlt:=L.mu_lt k1 hx' (L.doS_up ok k1) (fun z=>he z.symm)
     refine⟨⟨hx',fun t ht=>?_,?_,⟨by rw[Qw];show _+(Q.length+1)<=_;have:=k4.1;omega,k4.2.snoc (by rw[k3];exact he)⟩⟩,[some (x0o n f,9),some (x06 n C,9),some (.lst (l.map x0f),0),some (.tup (x0h x),9),some (.lst ((Q).map x0f),1),a,(((some (x0f s,9),j.2):(OD×OD))).1,(((some (x0f s,9),j.2):(OD×OD))).2],(some (x0f s,9),some (.tup (x0h (doS f x (x2s C s))),9)),by simp,?_⟩
     ·rcases Q2.mp ht with h|h
      ·exact k2 t h
      ·rw[Q6.mp h];exact hs
     ·rw[QZ,Yb,k3];rfl
     ·unfold x90
      have hQ:Q.length<=1000:=by have:=k4.1;omega
      refine(x0m (ρ1:=[some (x0o n f,9),some (x06 n C,9),some (.lst (l.map x0f),0),some (.tup (x0h x),9),some (.lst ((Q).map x0f),1),a,(((some (x0f s,9),some (.tup (x0h (doS f x (x2s C s))),9)):(OD×OD))).1,(((some (x0f s,9),some (.tup (x0h (doS f x (x2s C s))),9)):(OD×OD))).2]) (by simp[hb])).trans ?_
      refine(x0m (ρ1:=[some (x0o n f,9),some (x06 n C,9),some (.lst (l.map x0f),0),some (.tup (x0h x),9),some (.lst (((Q++[s])).map x0f),1),a,(((some (x0f s,9),some (.tup (x0h (doS f x (x2s C s))),9)):(OD×OD))).1,(((some (x0f s,9),some (.tup (x0h (doS f x (x2s C s))),9)):(OD×OD))).2]) (by
       generalize doS f x (x2s C s)=y at *
       simp[z2a,he,hQ])).trans ?_
      simp)
  have ef:∀ (l:List Sn) (σ:List Nat×List Sn),(l.foldl (fun(σ:List Nat×List Sn) s=>(doS f σ.1 (x2s C s),if doS f σ.1 (x2s C s)=σ.1 then σ.2 else σ.2++[s])) σ).1=(l.map (x2s C)).foldl (doS f) σ.1:=by
   intro l
   induction l with
   | nil=>intro σ;rfl
   | cons s l ih=>intro σ;exact ih _
  have ef':=ef l (w,R)
  generalize l.foldl (fun(σ:List Nat×List Sn) s=>(doS f σ.1 (x2s C s),if doS f σ.1 (x2s C s)=σ.1 then σ.2 else σ.2++[s])) (w,R)=σ at *
  obtain⟨x,Q⟩:=σ
  dsimp only at ef' i1 i2 i3 i4 e
  have ef2:x=(l.map (x2s C)).foldl (doS f) w:=ef'
  subst ef2
  exact⟨Q,j',i2,i3,i4,e⟩
 -- all rounds
 obtain⟨ρ',e,u,R,j,hu,hR1,hR2,hR3,rfl⟩:=y7c (c:=x4n (e2 dNe (x05 3) (x05 5))) (b:=y29)
  (Q:=fun ρ=>∃ (u:List Nat) (R:List Sn),∃ j:(OD×OD),LowS n f C.p (l.map (x2s C)) v u/\(∀ s∈R,s∈l)/\(R.map (x2s C)).foldl (doS f) v=u/\(Lad.mu n f u+R.length<=Lad.mu n f v/\Rz f C v R)/\ρ=[some (x0o n f,9),some (x06 n C,9),some (.lst (l.map x0f),0),some (.tup (x0h u),9),some (.lst ((R).map x0f),1),some (.tup (x0h u),9),(j).1,(j).2])
  (fun k ρ=>∃ (w:List Nat) (R:List Sn),∃ j:(OD×OD),∃ a:D,Vn n C.p w/\leV f C.p v w/\(∀ x,Vn n C.p x->ClS f (l.map (x2s C)) x->leV f C.p v x->leV f C.p w x)/\(∀ s∈R,s∈l)/\(R.map (x2s C)).foldl (doS f) v=w/\(Lad.mu n f w+R.length<=Lad.mu n f v/\Rz f C v R) /\
    ((a=.non/\k=Lad.mu n f w+1)\/∃ y,a=.tup (x0h y)/\Vn n C.p y/\w=(l.map (x2s C)).foldl (doS f) y/\k=Lad.mu n f w+(if y=w then 0 else 1))/\ρ=[some (x0o n f,9),some (x06 n C,9),some (.lst (l.map x0f),0),some (.tup (x0h w),9),some (.lst ((R).map x0f),1),some (a,9),(j).1,(j).2])
  (k:=Lad.mu n f v+1) (ρ:=[some (x0o n f,9),some (x06 n C,9),some (.lst (l.map x0f),0),some (.tup (x0h v),9),some (.lst ((([]:List Sn)).map x0f),1),some (.non,9),(((none,none):(OD×OD))).1,(((none,none):(OD×OD))).2]) (by omega) ⟨v,[],(none,none),.non,hv,L.leV_refl hv,fun x _ _ h=>h,(fun _ z=>nomatch z),rfl,⟨Qi _,trivial⟩,.inl ⟨rfl,rfl⟩,rfl⟩ (fun k ρ hh0=>by
   obtain⟨w,R,j,a,hw,h1,h2,h3,h4,h5,h6,hr⟩:=hh0
   subst hr
   have next:(x4n (e2 dNe (x05 3) (x05 5)) [some (x0o n f,9),some (x06 n C,9),some (.lst (l.map x0f),0),some (.tup (x0h w),9),some (.lst ((R).map x0f),1),some (a,9),(j).1,(j).2]=some (true,[some (x0o n f,9),some (x06 n C,9),some (.lst (l.map x0f),0),some (.tup (x0h w),9),some (.lst ((R).map x0f),1),some (a,9),(j).1,(j).2]))->Lad.mu n f w+1<=k->∃ ρ1 ρ2 k',x4n (e2 dNe (x05 3) (x05 5)) [some (x0o n f,9),some (x06 n C,9),some (.lst (l.map x0f),0),some (.tup (x0h w),9),some (.lst ((R).map x0f),1),some (a,9),(j).1,(j).2]=some (true,ρ1)/\y29 ρ1=some (.nx ρ2)/\k'<k/\∃ (w:List Nat) (R:List Sn),∃ j:(OD×OD),∃ a:D,Vn n C.p w/\leV f C.p v w/\(∀ x,Vn n C.p x->ClS f (l.map (x2s C)) x->leV f C.p v x->leV f C.p w x)/\(∀ s∈R,s∈l)/\(R.map (x2s C)).foldl (doS f) v=w/\(Lad.mu n f w+R.length<=Lad.mu n f v/\Rz f C v R) /\
   ((a=.non/\k'=Lad.mu n f w+1)\/∃ y,a=.tup (x0h y)/\Vn n C.p y/\w=(l.map (x2s C)).foldl (doS f) y/\k'=Lad.mu n f w+(if y=w then 0 else 1))/\ρ2=[some (x0o n f,9),some (x06 n C,9),some (.lst (l.map x0f),0),some (.tup (x0h w),9),some (.lst ((R).map x0f),1),some (a,9),(j).1,(j).2]:=fun ht hk=>by
    obtain⟨R',j',r1,r2,r3,r4⟩:=round w R (some (.tup (x0h w),9)) j hw h3 h4 h5
    have hw':=L.foldS_V hS hw
    have up:=L.foldS_up hS hw
    refine⟨_,[some (x0o n f,9),some (x06 n C,9),some (.lst (l.map x0f),0),some (.tup (x0h ((l.map (x2s C)).foldl (doS f) w)),9),some (.lst ((R').map x0f),1),some (.tup (x0h w),9),(j').1,(j').2],Lad.mu n f ((l.map (x2s C)).foldl (doS f) w)+(if w=(l.map (x2s C)).foldl (doS f) w then 0 else 1),ht,?_,?_,_,R',j',.tup (x0h w),hw',L.leV_trans hv hw hw' h1 up,fun x hx cx hvx=>L.foldS_below hx hS hw cx (h2 x hx cx hvx),r1,r2,r3,.inr ⟨w,rfl,hw,rfl,rfl⟩,rfl⟩
    ·unfold y29
     refine(x0m (ρ1:=[some (x0o n f,9),some (x06 n C,9),some (.lst (l.map x0f),0),some (.tup (x0h w),9),some (.lst ((R).map x0f),1),some (.tup (x0h w),9),(j).1,(j).2]) (by simp)).trans ?_
     exact(x3g (ds:=l.map x0f) (ρ1:=[some (x0o n f,9),some (x06 n C,9),some (.lst (l.map x0f),0),some (.tup (x0h w),9),some (.lst ((R).map x0f),1),some (.tup (x0h w),9),(j).1,(j).2]) (by simp[hlen])).trans r4
    ·by_cases he:w=(l.map (x2s C)).foldl (doS f) w
     ·rw[Qj he,<- he];omega
     ·rw[Qk he]
      have:=L.mu_lt hw hw' up he
      omega
   rcases h6 with⟨rfl,hk⟩|⟨y,rfl,hy,hwy,hk⟩
   ·refine .inr (next ?_ (by omega))
    have hne:dNe (.tup (x0h w)) .non=some (.bl true):=by
     unfold dNe
     rw[Qj ⟨(z4e w).ok,(Sh.non (k:=0)).ok⟩]
     rfl
    simp[hne]
   ·by_cases hyw:y=w
    ·subst hyw
     refine .inl ⟨[some (x0o n f,9),some (x06 n C,9),some (.lst (l.map x0f),0),some (.tup (x0h y),9),some (.lst ((R).map x0f),1),some (.tup (x0h y),9),(j).1,(j).2],by simp[z2a],y,R,j,⟨hw,(L.foldS_fix hS hw).mp hwy.symm,h1,h2⟩,h3,h4,h5,rfl⟩
    ·rw[Qk hyw]at hk
     refine .inr (next ?_ (by omega))
     have:¬ (w=y):=fun z=>hyw z.symm
     simp[z2a,this])
 refine⟨u,R,hu,hR1,hR2,hR3,?_⟩
 unfold x8a y8u
 refine x3o ?_
 show x16 _ _ [some (x0o n f,9),some (x06 n C,9),some (.lst (l.map x0f),0),some (.tup (x0h v),9),none,none,none,none]=_
 refine(x0m (ρ1:=[some (x0o n f,9),some (x06 n C,9),some (.lst (l.map x0f),0),some (.tup (x0h v),9),some (.lst [],1),none,none,none]) (by simp)).trans ?_
 refine(x0m (ρ1:=[some (x0o n f,9),some (x06 n C,9),some (.lst (l.map x0f),0),some (.tup (x0h v),9),some (.lst ((([]:List Sn)).map x0f),1),some (.non,9),(((none,none):(OD×OD))).1,(((none,none):(OD×OD))).2]) (by simp)).trans ?_
 refine(x0m e).trans ?_
 simp
theorem z2g(hv:Vn n C.p v){l:List Sn}(hl:∀ s∈l,okN C s)(hlen:l.length<=1000) :
  ∃ (u:List Nat) (R:List Sn),LowS n f C.p (l.map (x2s C)) v u/\(∀ s∈R,s∈l)/\(R.map (x2s C)).foldl (doS f) v=u/\Lad.mu n f u+R.length<=Lad.mu n f v/\x8a [x0o n f,x06 n C,.lst (l.map x0f),.tup (x0h v)]=some (.tup [.tup (x0h u),.lst (R.map x0f)],9):=by
 obtain⟨u,R,h1,h2,h3,h4,e⟩:=z1e L hC hv hl hlen
 exact⟨u,R,h1,h2,h3,h4.1,e⟩
end
theorem dg1(a b:D):y44 ["begin","way"] [a,b] "begin" = some a:=by unfold y44;rw[Qj rfl]
theorem dg2(a b:D):y44 ["begin","way"] [a,b] "way" = some b:=by
 unfold y44
 rw[Qk (by decide)]
 unfold y44
 rw[Qj rfl]
section
variable {n:Nat}{f:Nat->Nat->Nat}{C:Cht}
def j2l (C:Cht)(s:Sn):Bool:=decide (s.2<(if s.1 then C.B.length else C.W.length))
theorem z24{s:Sn}:j2l C s=true ↔ okN C s:=decide_eq_true_iff
theorem y2p(m k:Nat):x6l m (.int (Int.ofNat k))=decide (k<m):=by
 show(decide ((0:Int)<=(k:Int))&&decide ((k:Int)<(m:Int)))=_
 simp
theorem y8p(s:Sn):x1m [x0f s,.dic ["begin","way"] [.int (Int.ofNat C.B.length),.int (Int.ofNat C.W.length)]]=some (.bl (j2l C s),9):=by
 obtain⟨b,k⟩:=s
 have l2:dNe (.int 2) (.int 2)=some (.bl false):=(z73 _ _).trans (by simp)
 have n1:=fun m=>y3y m (.int (Int.ofNat k))
 have g1:=dg1 (.int (Int.ofNat C.B.length)) (.int (Int.ofNat C.W.length))
 have g2:=dg2 (.int (Int.ofNat C.B.length)) (.int (Int.ofNat C.W.length))
 have s0:∀ x:Str,atD (.tup [.str x,.int (Int.ofNat k)]) 0=some (.str x):=fun _=>rfl
 have s1:∀ x:Str,atD (.tup [.str x,.int (Int.ofNat k)]) 1=some (.int (Int.ofNat k)):=fun _=>rfl
 have ll:∀ x:Str,y02 (.tup [.str x,.int (Int.ofNat k)])=some 2:=fun _=>rfl
 unfold x1m x4l
 cases b with
 | true=>
  show fnD _ _ [.tup [.str "begin",.int (Int.ofNat k)],_]=some (.bl (decide (k<C.B.length)),9)
  simp[-Int.ofNat_eq_natCast,isD,ll,l2,s0,s1,g1,n1,y2p]
 | false=>
  show fnD _ _ [.tup [.str "way",.int (Int.ofNat k)],_]=some (.bl (decide (k<C.W.length)),9)
  simp[-Int.ofNat_eq_natCast,isD,ll,l2,s0,s1,g2,n1,y2p]
theorem y4g(s:Sn):x3d [x06 n C,x0f s]=some (.bl (j2l C s),9):=by
 have h:=y8p (C:=C) s
 unfold x3d y2y
 have e1:x8e 0 2 [some (x06 n C,9),some (x0f s,9)]=some (Int.ofNat C.B.length):=by
  show some (Int.ofNat (C.B.map x3j).length)=_
  rw[Qc]
 have e2':x8e 0 1 [some (x06 n C,9),some (x0f s,9)]=some (Int.ofNat C.W.length):=by
  show some (Int.ofNat (C.W.map (x21 n)).length)=_
  rw[Qc]
 have ed:y7w "begin" "way" (x8e 0 2) (x8e 0 1) [some (x06 n C,9),some (x0f s,9)]=some (.dic ["begin","way"] [.int (Int.ofNat C.B.length),.int (Int.ofNat C.W.length)],9,[some (x06 n C,9),some (x0f s,9)]):=by
  unfold y7w
  rw[e1,e2']
 exact x3o (x46 (x3m (x1e (f:=x05 1) (d:=x0f s) (q:=9) (ρ:=[some (x06 n C,9),some (x0f s,9)]) (ρ1:=[some (x06 n C,9),some (x0f s,9)]) rfl (x20 ed)) rfl h))
theorem y78{s:Sn}(hs:okN C s):x3d [x06 n C,x0f s]=some (.bl true,9):=by rw[y4g,z24.mpr hs]
theorem x83{l:List Sn}(hl:∀ s∈l,okN C s)(hlen:l.length<=1000):x1x [x06 n C,.lst (l.map x0f)]=some (.non,9):=by
 have hit:x5p (x05 1) [some (x06 n C,9),some (.lst (l.map x0f),0)]=some (l.map x0f,[some (x06 n C,9),some (.lst (l.map x0f),0)]):=by simp[hlen]
 have e:=z2i (i:=2) (te:=x0p x3d 2 (x01 (x05 0) (x01 (x05 2) x0g))) (ρ:=[some (x06 n C,9),some (.lst (l.map x0f),0)]) rfl hit (fun _=>true) (fun _=>9) (fun d hd=>by
  obtain⟨s,hs,rfl⟩:=Qp.mp hd
  simp[y78 (n:=n) (hl s hs)])
 have ea:(l.map x0f).all (fun _=>true)=true:=by simp
 rw[ea]at e
 unfold x1x x52
 show(match sIf _ _ _ [some (x06 n C,9),some (.lst (l.map x0f),0)]with|some (.rt d q)=>some (d,q)|some (.nx _)=>some (D.non,9)|_=>none)=_
 have ei:sIf (y4i (z18 (eB z7w (x01 (x2r 1 (x5p (x05 1)) (x0k 2) x2d (x0p x3d 2 (x01 (x05 0) (x01 (x05 2) x0g))) false) x0g)))) y7q y0r [some (x06 n C,9),some (.lst (l.map x0f),0)]=some (.nx [some (x06 n C,9),some (.lst (l.map x0f),0)]):=by
  refine(z63 ?_).trans rfl
  unfold y4i z18
  rw[e]
  rfl
 rw[ei]
theorem z1i:(z3u C).length=C.B.length+C.W.length:=by simp[z3u]
theorem y34(hB:C.B.length<=60)(hW:C.W.length<=60):x3v [x06 n C]=some (.lst ((z3u C).map x0f),1):=by
 unfold x3v y06
 refine x3o ?_
 show x16 _ _ [some (x06 n C,9),none]=_
 have c1:atD (x06 n C) 1=some (.tup (C.W.map (x21 n))):=rfl
 have c2:atD (x06 n C) 2=some (.tup (C.B.map x3j)):=rfl
 have lB:y02 (.tup (C.B.map x3j))=some C.B.length:=by simp[y02]
 have lW:y02 (.tup (C.W.map (x21 n)))=some C.W.length:=by simp[y02]
 have h1:=x23 (k:=1) (tt:=x2d) (te:=x54 (x01 (eC (.str "begin")) (x01 (x05 2) x0g))) (deep:=false) (x6n (m:=C.B.length) (by omega) (fe:=eB z4r (x01 (x1z 0 (eC (.int 2))) x0g)) (ρ:=[some (x06 n C,9),none]) (ρ':=[some (x06 n C,9),none]) (q:=9) (by simp[-Int.ofNat_eq_natCast,c2,lB])) (z3r (i:=2) rfl (fun _=>true) (fun k=>x0f (true,k)) (fun _=>9) (fun k hk=>rfl) (fun k hk _=>by simp[-Int.ofNat_eq_natCast,x0f]))
 rw[show(List.range C.B.length).filter (fun _=>true)=List.range C.B.length by simp]at h1
 refine(x0m (ρ1:=[some (x06 n C,9),some (.lst ((List.range C.B.length).map fun k=>x0f (true,k)),1)]) (x38 h1 rfl)).trans ?_
 have h2:=x23 (k:=1) (tt:=x2d) (te:=x54 (x01 (eC (.str "way")) (x01 (x05 2) x0g))) (deep:=false) (x6n (m:=C.W.length) (by omega) (fe:=eB z4r (x01 (x1z 0 (eC (.int 1))) x0g)) (ρ:=[some (x06 n C,9),some (.lst ((List.range C.B.length).map fun k=>x0f (true,k)),0)]) (ρ':=[some (x06 n C,9),some (.lst ((List.range C.B.length).map fun k=>x0f (true,k)),0)]) (q:=9) (by simp[-Int.ofNat_eq_natCast,c1,lW])) (z3r (i:=2) rfl (fun _=>true) (fun k=>x0f (false,k)) (fun _=>9) (fun k hk=>rfl) (fun k hk _=>by simp[-Int.ofNat_eq_natCast,x0f]))
 rw[show(List.range C.W.length).filter (fun _=>true)=List.range C.W.length by simp]at h2
 have ea:(z3u C).map x0f=((List.range C.B.length).map fun k=>x0f (true,k))++((List.range C.W.length).map fun k=>x0f (false,k)):=by
  unfold z3u
  rw[QZ,QV,QV]
  rfl
 rw[ea]
 refine x46 (ρ1:=[some (x06 n C,9),some (.lst ((List.range C.B.length).map fun k=>x0f (true,k)),0)]) ?_
 have v1:x05 1 [some (x06 n C,9),some (.lst ((List.range C.B.length).map fun k=>x0f (true,k)),1)]=some (.lst ((List.range C.B.length).map fun k=>x0f (true,k)),0,[some (x06 n C,9),some (.lst ((List.range C.B.length).map fun k=>x0f (true,k)),0)]):=rfl
 unfold z1z
 rw[v1]
 have hl:((List.range C.B.length).map fun k=>x0f (true,k)).length+((List.range C.W.length).map fun k=>x0f (false,k)).length<=1000:=by
  rw[Qc,Qc,QJ,QJ];omega
 generalize ((List.range C.B.length).map fun k=>x0f (true,k))=x at *
 generalize ((List.range C.W.length).map fun k=>x0f (false,k))=y at *
 rw[Qk (by decide)]at h2
 simp only[h2,Qj hl]
end
section
variable {n:Nat}{f:Nat->Nat->Nat}(L:Lad n f){z:Nat}(hz:z<n)(bz:∀ j,j<n->f z j=j){C:Cht}(hC:C.Ok n f)
def z00 (p z:Nat):List Nat:=List.replicate p z
theorem j0v(hz:z<n):Vn n p (z00 p z):=⟨by simp[z00],fun x hx=>by rw[(List.mem_replicate.mp hx).2];exact hz⟩
include L hz bz hC
theorem y7y:x78 [x0o n f,x06 n C]=some (.tup (x0h (z00 C.p z)),9):=by
 have hn:n<=1000:=QU L.hi (by decide)
 have hp8:=hC.p8
 have c0:atD (x06 n C) 0=some (.int (Int.ofNat C.p)):=rfl
 have hl:=z3s L hz bz hn
 unfold x78 y5c
 have e:(List.replicate C.p [D.int (Int.ofNat z)]).flatten=x0h (z00 C.p z):=by
  simp[x0h,z00,Ya]
 have b1:(-1000:Int)<=Int.ofNat C.p:=by show(-1000:Int)<=(C.p:Int);omega
 have b2:Int.ofNat C.p<=1000:=by show(C.p:Int)<=1000;omega
 have b3:(Int.ofNat C.p).toNat=C.p:=rfl
 have b4:C.p<=1000:=by omega
 simp[-Int.ofNat_eq_natCast,-List.flatten_replicate_singleton,hl,c0,b1,b2,b3,b4,e]
theorem y4h{l:List Sn}(hl:∀ s∈l,okN C s)(hlen:l.length<=1000) :
  ∃ (u:List Nat) (R:List Sn),LowS n f C.p (l.map (x2s C)) (z00 C.p z) u/\(∀ s∈R,s∈l)/\(R.map (x2s C)).foldl (doS f) (z00 C.p z)=u/\Lad.mu n f u+R.length<=Lad.mu n f (z00 C.p z)/\x4m [x0o n f,x06 n C,.lst (l.map x0f)]=some (.tup [.tup (x0h u),.int (Int.ofNat R.length)],9):=by
 obtain⟨u,R,h1,h2,h3,h4,e⟩:=z2g L hC (j0v (p:=C.p) hz) hl hlen
 refine⟨u,R,h1,h2,h3,h4,?_⟩
 have r0:=x83 (n:=n) hl hlen
 have r1:=y7y L hz bz hC
 have a0:atD (.tup [.tup (x0h u),.lst (R.map x0f)]) 0=some (.tup (x0h u)):=rfl
 have a1:atD (.tup [.tup (x0h u),.lst (R.map x0f)]) 1=some (.lst (R.map x0f)):=rfl
 have a2:y02 (.lst (R.map x0f))=some R.length:=by simp[y02]
 unfold x4m y0s
 simp[-Int.ofNat_eq_natCast,r0,r1,e,a0,a1,a2]
theorem x9z:∃ u,LowS n f C.p (x51 C) (z00 C.p z) u/\x88 [x0o n f,x06 n C]=some (.tup (x0h u),9):=by
 have hB:=hC.b60
 have hW:=hC.w60
 obtain⟨u,R,h1,h2,h3,h4,e⟩:=y4h L hz bz hC (z72 C) (by rw[z1i];omega)
 rw[z2o]at h1
 refine⟨u,h1,?_⟩
 have r0:=y34 (n:=n) hB hW
 have a0:atD (.tup [.tup (x0h u),.int (Int.ofNat R.length)]) 0=some (.tup (x0h u)):=rfl
 unfold x88 z06
 simp[-Int.ofNat_eq_natCast,r0,e,a0]
end
theorem x4f{α:Type}{k:Nat}{pt:x8u}{tt:x4x}(enc:α->D)(ext:α->Rho)(b:α->Bool)(v:α->D)(q:α->Nat):∀ l:List α,
  (∀ x∈l,pt (enc x) (ρ++List.replicate k none)=some (ρ++ext x)/\tt (ρ++ext x)=some (b x,ρ++ext x)/\(b x=true->te (ρ++ext x)=some (v x,q x,ρ++ext x)))->x5a k pt tt te false (l.map enc) ρ=some ((l.filter b).map v,ρ)
 | [],_=>rfl
 | x::l,h=>by
  obtain⟨h1,h2,h3⟩:=h x Qf
  have ih:=x4f enc ext b v q l (fun y m=>h y (Qe _ m))
  have ht:(ρ++ext x).take ρ.length=ρ:=by simp
  rw[Qx]
  unfold x5a
  rw[h1]
  simp only[h2]
  cases hb:b x with
  | true=>
   simp only[ZD,h3 hb,ht,ih]
   rw[QT hb]
   simp
  | false=>
   simp only[ht,ih]
   rw[Q5 (by rw[hb];simp)]
   simp
theorem y4n{b:Den}{k:Int}(hb:b ρ=some (.int k,q',ρ))(h:ρ[i]? = some (some (x,q)))(ha:atD x k=some d)(hd:d.isL=false):x1z i b ρ=some (d,9,ρ):=by
 unfold x1z
 rw[h]
 simp only[hb,h,ha,hd,y0a]
 simp
theorem z44{a b:Den}{k:Int}(h:a ρ=some (x,q,ρ1))(hb:b ρ1=some (.int k,q',ρ2))(ha:atD x k=some d)(hx:x.isL=false)(hd:d.isL=false):eIx a b ρ=some (d,9,ρ2):=by
 unfold eIx
 rw[h]
 simp only[hb,ha,hd,hx,y0a]
 simp
theorem x7s(i:Int):PyData.eqv (toP (.int i)) (toP (.int i))=true:=by show(i==i)=true;simp
theorem x7w(h:∀ d∈ds,PyData.eqv (toP d) (toP d)=true):PyData.eqv (toP (.tup ds)) (toP (.tup ds))=true:=by
 have go:∀ ds:List D,(∀ d∈ds,PyData.eqv (toP d) (toP d)=true)->PyData.eqvAll (x7q ds) (x7q ds)=true:=by
  intro ds
  induction ds with
  | nil=>intro _;rfl
  | cons d ds ih=>
   intro h
   show(PyData.eqv (toP d) (toP d)&&PyData.eqvAll (x7q ds) (x7q ds))=true
   rw[h d Qf,ih fun x m=>h x (Qe _ m)]
   rfl
 exact go ds h
theorem z1w(n:Nat)(r:Nat->Nat):PyData.eqv (toP (x0i n r)) (toP (x0i n r))=true:=x7w fun d hd=>by
 obtain⟨x,_,rfl⟩:=Qp.mp hd
 exact x7s _
theorem j17{P:D->Prop}{b c:D}(h1:P a)(h2:P b)(h3:P c):∀ d ∈ [a,b,c],P d:=fun d hd=>by
 rcases Qq.mp hd with rfl|hd
 ·exact h1
 ·rcases Qq.mp hd with rfl|hd
  ·exact h2
  ·rcases Qq.mp hd with rfl|hd
   ·exact h3
   ·cases hd
theorem j3d{P:D->Prop}{b:D}(h1:P a)(h2:P b):∀ d ∈ [a,b],P d:=fun d hd=>by
 rcases Qq.mp hd with rfl|hd
 ·exact h1
 ·rcases Qq.mp hd with rfl|hd
  ·exact h2
  ·cases hd
theorem y3m(n:Nat)(C:Cht):PyData.eqv (toP (x06 n C)) (toP (x06 n C))=true:=x7w (j17 (x7s _)
 (x7w fun d hd=>by obtain⟨w,_,rfl⟩:=Qp.mp hd;exact x7w (j17 (x7s _) (x7s _) (z1w _ _)))
 (x7w fun d hd=>by obtain⟨b,_,rfl⟩:=Qp.mp hd;exact x7w (j3d (x7s _) (x7s _))))
theorem x91(n:Nat)(C:Cht):Sh 4 (x06 n C):=.tup (j17 (.int _)
 (.tup fun d hd=>by obtain⟨w,_,rfl⟩:=Qp.mp hd;exact .tup (j17 (.int _) (.int _) ⟨(y8e _ _).1,(y8e _ _).2⟩))
 (.tup fun d hd=>by obtain⟨b,_,rfl⟩:=Qp.mp hd;exact .tup (j3d (.int _) (.int _))))
theorem y91(n:Nat)(C:Cht):dEq (x06 n C) (x06 n C)=some (.bl true):=by
 unfold dEq
 rw[Qj ⟨(x91 n C).ok,(x91 n C).ok⟩]
 show some (D.bl (PyData.eqv (toP (x06 n C)) (toP (x06 n C))))=_
 rw[y3m]
theorem y9x(n:Nat)(C:Cht):dNe (x06 n C) (x06 n C)=some (.bl false):=by
 unfold dNe
 rw[Qj ⟨(x91 n C).ok,(x91 n C).ok⟩]
 show some (D.bl (!PyData.eqv (toP (x06 n C)) (toP (x06 n C))))=_
 rw[y3m]
 rfl
theorem y5t{α:Type}[DecidableEq α]:∀ {l m:List α},l.Nodup->(∀ x∈l,x∈m)->l.length<=m.length
 | [],m,_,_=>Zb _
 | a::l,m,nd,h=>by
  have ha:=h a Qf
  obtain⟨n1,n2⟩:=QW.mp nd
  have ih:=y5t (l:=l) (m:=m.erase a) n2 fun x hx=>(Yn (fun z=>n1 (by rw[<- z];exact hx))).mpr (h x (Qe _ hx))
  have:=JJ ha
  have:=J6 ha
  rw[QH]
  omega
section
variable {α β γ:Type}[DecidableEq α][DecidableEq γ](enc:γ->α)(inj:∀ a b,enc a=enc b->a=b)
include inj
theorem z27(v:γ->β){k:γ}:∀ {ks:List γ},k∈ks->vL (ks.map enc) (ks.map v) (enc k)=some (v k)
 | [],h=>(Qg h).elim
 | x::ks,h=>by
  simp only[Qx,vL]
  by_cases hx:x=k
  ·subst hx;simp
  ·rw[Qk fun z=>hx (inj _ _ z)]
   exact z27 v ((Qq.mp h).resolve_left fun z=>hx z.symm)
theorem y90(v:γ->β){k:γ}:∀ {ks:List γ},k ∉ ks->vL (ks.map enc) (ks.map v) (enc k)=none
 | [],h=>by simp[vL]
 | x::ks,h=>by
  simp only[Qx,vL]
  rw[Qk fun z=>h (by rw[inj _ _ z];exact Qf)]
  exact y90 v fun z=>h (Qe _ z)
theorem x92{k:γ}{ks:List γ}:y9z (ks.map enc) (enc k)=true ↔ k∈ks:=by
 unfold y9z
 rw[Yk]
 exact⟨fun⟨x,hx,e⟩=>by
  obtain⟨y,hy,rfl⟩:=Qp.mp hx
  rw[<- inj _ _ (QR e)]
  exact hy,fun h=>⟨enc k,Jo h,Qs rfl⟩⟩
theorem y26(v:γ->β)(k:γ)(e:β):∀ ks:List γ,y43 (ks.map enc) (ks.map v) (enc k) e=ks.map fun a=>if a=k then e else v a
 | []=>by simp[y43]
 | x::ks=>by
  simp only[Qx,y43]
  rw[y26 v k e ks]
  by_cases h:x=k
  ·subst h;simp
  ·have h':¬ enc x=enc k:=fun z=>h (inj _ _ z)
   rw[Qk h',Qk h]
end
theorem x7x(a b:Nat×Nat)(h:prK a=prK b):a=b:=by
 have h1:Int.ofNat a.1=Int.ofNat b.1:=by injection h with e1 e2;injection e1
 have h2:Int.ofNat a.2=Int.ofNat b.2:=by injection h with e1 e2;injection e2 with e3 e4;injection e3
 exact VT (Vd h1) (Vd h2)
abbrev kN (a:Nat):Key:=.inl (Int.ofNat a)
theorem y38(a b:Nat)(h:kN a=kN b):a=b:=by
 have h1:Int.ofNat a=Int.ofNat b:=by injection h
 exact Vd h1
theorem x95{fv:Den}{k k':MK}{ds':List D}(hv:fv ρ=some (d,q,ρ1))(h1:isDc ρ1[i]? = true)(hk:fk ρ1=some (x,q',ρ2))(h2:ρ2[i]? = some (some (.mp k ds,1)))(few:ds.length<1000)(hp:z94 k ds x d=some (k',ds')) :
  y3w i fk fv ρ=some (.nx (ρ2.set i (some (.mp k' ds',1)))):=by
 unfold y3w
 rw[hv]
 simp only[h1,ZD,hk,h2,few,hp]
theorem x6r{fz:Den}{z:D}{k:MK}{r:Option D}(h1:isDc ρ[i]? = true)(hk:fk ρ=some (x,q,ρ1))(hz:fz ρ1=some (z,q',ρ2))(h2:ρ2[i]? = some (some (.mp k ds,q2)))(hg:z3z k ds x=some r) :
  x8h i fk fz ρ=some (r.getD z,y0a (r.getD z),ρ2):=by
 unfold x8h
 rw[Qj h1,hk]
 simp only[hz,h2,hg]
theorem z6a{k:MK}(h1:isDc ρ[i]? = true)(hk:fk ρ=some (x,q,ρ1))(h2:ρ1[i]? = some (some (.mp k ds,q2)))(hg:z3z k ds x=some (some d)) :
  z7y i fk ρ=some (d,y0a d,ρ1):=by
 unfold z7y
 rw[Qj h1,hk]
 simp only[h2,hg]
theorem y4m{g:x47}(h:g ρ=some (ds,ρ1))(hl:ds.length<=1000):x54 g ρ=some (.tup ds,9,ρ1):=by
 unfold x54
 rw[h]
 exact Qj hl
theorem z69(kp:List (Nat×Nat)):∀ i j,i<=j->j<(y6c kp).length->rk ((y6c kp).getD i (0,0))<=rk ((y6c kp).getD j (0,0)):=fun i j hij hj=>by
 have up:=JV (le:=fun a b:Nat×Nat=>decide (rk a<=rk b)) (fun a b c h1 h2=>Qs (Vv (QR h1) (QR h2))) (fun a b=>by
  rcases V0 (rk a) (rk b)with h|h
  ·rw[Qs h];rfl
  ·rw[Qs h,V1]) kp
 rcases Nat.lt_or_eq_of_le hij with h|h
 ·have:=ZK.mp up i j (ZO hij hj) hj h
  rw[Qh,Qh,Qa (ZO hij hj),Qa hj]
  exact QR this
 ·rw[h];exact JU _
theorem j0c(h:l.Pairwise fun a b=>rk a<=rk b):∀ i j,i<=j->j<l.length->rk (l.getD i (0,0))<=rk (l.getD j (0,0)):=fun i j hij hj=>by
 rcases Nat.lt_or_eq_of_le hij with h' | h'
 ·have:=ZK.mp h i j (ZO hij hj) hj h'
  rw[Qh,Qh,Qa (ZO hij hj),Qa hj]
  exact this
 ·rw[h'];exact JU _
theorem z0a{ks:List (Nat×Nat)}(hb:∀ x∈l,x.2<1000)(nd:ks.Nodup)(mem:∀ x,x∈ks ↔ x∈l):y6c ks=x43 l:=x9g hb nd mem (Jn _ _) (z69 ks)
def pW (W:List (Nat×Nat×(Nat->Nat))):List (Nat×Nat):=W.map fun w=>(w.1,w.2.1)
def gR (W:List (Nat×Nat×(Nat->Nat)))(k:Nat×Nat)(i:Nat):List Nat:=(W.filter fun w=>decide ((w.1,w.2.1)=k)).map fun w=>w.2.2 i
def jr (f:Nat->Nat->Nat)(z:Nat)(W:List (Nat×Nat×(Nat->Nat)))(k:Nat×Nat)(i:Nat):Nat:=(gR W k i).foldl f z
def gB (B:List (Nat×Nat))(p:Nat):List Nat:=(B.filter fun b=>decide (b.1=p)).map (·.2)
def jb (f:Nat->Nat->Nat)(z:Nat)(B:List (Nat×Nat))(p:Nat):Nat:=(gB B p).foldl f z
def jW (f:Nat->Nat->Nat)(z:Nat)(W:List (Nat×Nat×(Nat->Nat))):List (Nat×Nat×(Nat->Nat)):=(x43 (pW W)).map fun k=>(k.1,k.2,jr f z W k)
def jB (f:Nat->Nat->Nat)(z p:Nat)(B:List (Nat×Nat)):List (Nat×Nat):=((List.range p).filter fun a=>!decide (gB B a=[])).map fun a=>(a,jb f z B a)
def jC (f:Nat->Nat->Nat)(z:Nat)(C:Cht):Cht:=⟨C.p,jW f z C.W,jB f z C.p C.B⟩
theorem y1k{w:Nat×Nat×(Nat->Nat)}{k:Nat×Nat}:jr f z (W++[w]) k i=if(w.1,w.2.1)=k then f (jr f z W k i) (w.2.2 i)else jr f z W k i:=by
 unfold jr gR
 rw[JR,QZ,Yb]
 by_cases h:(w.1,w.2.1)=k
 ·rw[Qj h,QT (p:=fun w:Nat×Nat×(Nat->Nat)=>decide ((w.1,w.2.1)=k)) (Qs h)]
  rfl
 ·rw[Qk h,Q5 (p:=fun w:Nat×Nat×(Nat->Nat)=>decide ((w.1,w.2.1)=k)) (by rw[QK h];decide)]
  rfl
theorem z7s{k:Nat×Nat}(h:k ∉ pW W):jr f z W k i=z:=by
 have:(W.filter fun w=>decide ((w.1,w.2.1)=k))=[]:=Yc.mpr fun w hw e=>h (Qp.mpr ⟨w,hw,QR e⟩)
 unfold jr gR
 rw[this]
 rfl
theorem y23:jb f z (B++[b]) p=if b.1=p then f (jb f z B p) b.2 else jb f z B p:=by
 unfold jb gB
 rw[JR,QZ,Yb]
 by_cases h:b.1=p
 ·rw[Qj h,QT (p:=fun b:Nat×Nat=>decide (b.1=p)) (Qs h)]
  rfl
 ·rw[Qk h,Q5 (p:=fun b:Nat×Nat=>decide (b.1=p)) (by rw[QK h];decide)]
  rfl
theorem x9x:gB B p=[] ↔ p ∉ B.map (·.1):=by
 unfold gB
 rw[Yz,Yc]
 exact⟨fun h m=>by
  obtain⟨b,hb,e⟩:=Qp.mp m
  exact h b hb (Qs e),fun h b hb e=>h (Qp.mpr ⟨b,hb,QR e⟩)⟩
theorem z53(h:p ∉ B.map (·.1)):jb f z B p=z:=by
 unfold jb
 rw[x9x.mpr h]
 rfl
section
variable {n:Nat}{f:Nat->Nat->Nat}(L:Lad n f){z:Nat}(hz:z<n)(bz:∀ j,j<n->f z j=j)
include L hz bz
theorem y6z(hW:∀ w∈W,∀ i,i<n->w.2.2 i<n)(k:Nat×Nat)(hi:i<n):jr f z W k i<n:=L.fold_lt hz fun x hx=>by
 obtain⟨w,hw,rfl⟩:=Qp.mp hx
 exact hW w (Zd.mp hw).1 i hi
theorem y9c(hB:∀ b∈B,b.2<n)(p:Nat):jb f z B p<n:=L.fold_lt hz fun x hx=>by
 obtain⟨b,hb,rfl⟩:=Qp.mp hx
 exact hB b (Zd.mp hb).1
theorem y0l(hl:W.length<=60)(hW:∀ w∈W,∀ i,i<n->w.2.2 i<n)(hp:∀ w∈W,w.2.1<1000):x2y [x0o n f,.tup (W.map (x21 n))]=some (.tup ((jW f z W).map (x21 n)),9):=by
 have hn:n<=1000:=QU L.hi (by decide)
 obtain⟨ρ',e,ks,nd,lk,mem,a,b,c,rfl⟩:=x2k (pt:=y6b (x13 (x0k 3) (x13 (x0k 4) (x13 (x0k 5) x5z)))) (body:=x4a) (W.map (x21 n))
  (fun i ρ=>∃ ks:List (Nat×Nat),ks.Nodup/\ks.length<=i/\(∀ k,k∈ks ↔ k∈pW (W.take i))/\∃ a b c,ρ=[some (x0o n f,9),some (.tup (W.map (x21 n)),9),some (.mp (.t (ks.map prK)) (ks.map fun k=>x0i n (jr f z (W.take i) k)),1),a,b,c])
  [some (x0o n f,9),some (.tup (W.map (x21 n)),9),some (.mp (.t []) [],1),none,none,none] (fun i hi ρ hh0=>by
  obtain⟨ks,nd,lk,mem,a,b,c,hr⟩:=hh0
  subst hr
  have hi':i<W.length:=by rw[Qc]at hi;exact hi
  have hw:=Zc hi'
  have ed:(W.map (x21 n))[i]=x21 n W[i]:=by simp
  have et:W.take (i+1)=W.take i++[W[i]]:=by rw[Y4];simp[hi']
  rw[ed,et]
  have hW1:∀ w∈W.take i,∀ i,i<n->w.2.2 i<n:=fun w m=>hW w (Yo m)
  generalize W.take i=W1 at *
  generalize W[i]=w at *
  obtain⟨s,g,r⟩:=w
  have hr:∀ i,i<n->r i<n:=hW _ hw
  have hks:ks.length<1000:=by omega
  have hjr:∀ i,i<n->jr f z W1 (s,g) i<n:=fun i hi=>y6z L hz bz hW1 (s,g) hi
  refine⟨[some (x0o n f,9),some (.tup (W.map (x21 n)),9),some (.mp (.t (ks.map prK)) (ks.map fun k=>x0i n (jr f z W1 k)),1),some (.int (Int.ofNat s),9),some (.int (Int.ofNat g),9),some (x0i n r,9)],?_⟩
  have hd:isDc ([some (x0o n f,9),some (.tup (W.map (x21 n)),9),some (.mp (.t (ks.map prK)) (ks.map fun k=>x0i n (jr f z W1 k)),1),some (.int (Int.ofNat s),9),some (.int (Int.ofNat g),9),some (x0i n r,9)]:Rho)[2]? = true:=rfl
  have hkey:x54 (x01 (x05 3) (x01 (x05 4) x0g)) [some (x0o n f,9),some (.tup (W.map (x21 n)),9),some (.mp (.t (ks.map prK)) (ks.map fun k=>x0i n (jr f z W1 k)),1),some (.int (Int.ofNat s),9),some (.int (Int.ofNat g),9),some (x0i n r,9)]=some (.tup [.int (Int.ofNat s),.int (Int.ofNat g)],9,[some (x0o n f,9),some (.tup (W.map (x21 n)),9),some (.mp (.t (ks.map prK)) (ks.map fun k=>x0i n (jr f z W1 k)),1),some (.int (Int.ofNat s),9),some (.int (Int.ofNat g),9),some (x0i n r,9)]):=rfl
  have hget:z3z (.t (ks.map prK)) (ks.map fun k=>x0i n (jr f z W1 k)) (.tup [.int (Int.ofNat s),.int (Int.ofNat g)])=some (vL (ks.map prK) (ks.map fun k=>x0i n (jr f z W1 k)) (prK (s,g))):=rfl
  have hput:∀ d,z94 (.t (ks.map prK)) (ks.map fun k=>x0i n (jr f z W1 k)) (.tup [.int (Int.ofNat s),.int (Int.ofNat g)]) d=some (if y9z (ks.map prK) (prK (s,g))=true then(MK.t (ks.map prK),y43 (ks.map prK) (ks.map fun k=>x0i n (jr f z W1 k)) (prK (s,g)) d)else(.t (ks.map prK++[prK (s,g)]),(ks.map fun k=>x0i n (jr f z W1 k))++[d])):=fun d=>rfl
  by_cases hm:(s,g)∈ks
  ·refine⟨[some (x0o n f,9),some (.tup (W.map (x21 n)),9),some (.mp (.t (ks.map prK)) (ks.map fun k=>x0i n (jr f z (W1++[(s,g,r)]) k)),1),some (.int (Int.ofNat s),9),some (.int (Int.ofNat g),9),some (x0i n r,9)],by rfl,.inl ?_,ks,nd,by omega,fun k=>?_,_,_,_,rfl⟩
   ·unfold x4a
    have hj:=x3p (f:=f) hn hjr hr
    rw[z27 prK x7x _ hm]at hget
    refine(x95 (x3m (x1e rfl (x1e (x6r hd hkey rfl rfl hget) (x1e rfl rfl))) rfl hj) hd hkey rfl (by simp;exact hks) ((hput _).trans (by rw[Qj ((x92 prK x7x).mpr hm),y26 prK x7x]))).trans ?_
    have e2:(ks.map fun a=>if a=(s,g)then x0i n (fun i=>f (jr f z W1 (s,g) i) (r i))else x0i n (jr f z W1 a))=ks.map fun k=>x0i n (jr f z (W1++[(s,g,r)]) k):=QP fun a _=>by
     by_cases ha:a=(s,g)
     ·subst ha
      rw[Qj rfl]
      exact x85 fun i _=>by rw[y1k,Qj rfl]
     ·rw[Qk ha]
      exact x85 fun i _=>by rw[y1k,Qk (fun q=>ha q.symm)]
    rw[e2]
    rfl
   ·rw[mem]
    show _ ↔ k∈(W1++[(s,g,r)]).map _
    rw[QZ,Q2]
    refine⟨.inl,fun h=>h.elim id fun h=>?_⟩
    have:k=(s,g):=Q6.mp h
    rw[this]
    exact(mem _).mp hm
  ·refine⟨[some (x0o n f,9),some (.tup (W.map (x21 n)),9),some (.mp (.t ((ks++[(s,g)]).map prK)) ((ks++[(s,g)]).map fun k=>x0i n (jr f z (W1++[(s,g,r)]) k)),1),some (.int (Int.ofNat s),9),some (.int (Int.ofNat g),9),some (x0i n r,9)],by rfl,.inl ?_,ks++[(s,g)],?_,by simp;omega,fun k=>?_,_,_,_,rfl⟩
   ·unfold x4a
    have hj:=x3p (f:=f) hn hr hr
    rw[y90 prK x7x _ hm]at hget
    refine(x95 (x3m (x1e rfl (x1e (x6r hd hkey rfl rfl hget) (x1e rfl rfl))) rfl hj) hd hkey rfl (by simp;exact hks) ((hput _).trans (by rw[Qk fun q=>hm ((x92 prK x7x).mp q)]))).trans ?_
    have e2:(ks.map fun k=>x0i n (jr f z W1 k))++[x0i n (fun i=>f (r i) (r i))]=(ks++[(s,g)]).map fun k=>x0i n (jr f z (W1++[(s,g,r)]) k):=by
     rw[QZ]
     congr 1
     ·exact QP fun a ha=>x85 fun i _=>by rw[y1k,Qk (fun q=>hm (by rw[show(s,g)=a from q];exact ha))]
     ·show [_]=[_]
      congr 1
      exact x85 fun i hi=>by
       rw[y1k,Qj rfl,z7s (fun q=>hm ((mem _).mpr q)),bz _ (hr i hi),L.idem _ (hr i hi)]
    rw[e2,QZ (f:=prK)]
    rfl
   ·exact List.nodup_append.mpr ⟨nd,by simp,fun a ha b hb=>by
     rw[Q6.mp hb]
     exact fun q=>hm (by rw[<- q];exact ha)⟩
   ·show _ ↔ k∈(W1++[(s,g,r)]).map _
    rw[QZ,Q2,Q2,mem]
    exact Iff.rfl)
  ⟨[],Jp,Qi _,fun k=>by simp[pW],none,none,none,rfl⟩
 rw[Qc]at lk
 rw[Qc,JD]at mem e
 have hb:∀ x∈pW W,x.2<1000:=fun x hx=>by
  obtain⟨w,hw,rfl⟩:=Qp.mp hx
  exact hp w hw
 have hs:=z0a hb nd mem
 have hbk:∀ x∈ks,x.2<1000:=fun x hx=>hb x ((mem x).mp hx)
 unfold x2y x6x
 refine x3o ?_
 show x16 _ _ [some (x0o n f,9),some (.tup (W.map (x21 n)),9),none,none,none,none]=_
 refine(x0m (ρ1:=[some (x0o n f,9),some (.tup (W.map (x21 n)),9),some (.mp (.t []) [],1),none,none,none]) rfl).trans ?_
 refine(x0m ((x3g (ρ1:=[some (x0o n f,9),some (.tup (W.map (x21 n)),9),some (.mp (.t []) [],1),none,none,none]) (by simp;omega)).trans e)).trans ?_
 refine x46 (ρ1:=[some (x0o n f,9),some (.tup (W.map (x21 n)),9),some (.mp (.t (ks.map prK)) (ks.map fun k=>x0i n (jr f z W k)),1),a,b,c]) ?_
 have hso:y3x 2 [some (x0o n f,9),some (.tup (W.map (x21 n)),9),some (.mp (.t (ks.map prK)) (ks.map fun k=>x0i n (jr f z W k)),1),a,b,c]=some (.lst ((x43 (pW W)).map prD),1,[some (x0o n f,9),some (.tup (W.map (x21 n)),9),some (.mp (.t (ks.map prK)) (ks.map fun k=>x0i n (jr f z W k)),1),a,b,c]):=by
  show(match z54 (ks.map prK)with|some kp=>if kp.length<64 then some (D.lst ((y6c kp).map prD),1,_)else none|none=>none)=_
  rw[y8i ks hbk]
  show(if ks.length<64 then some (D.lst ((y6c ks).map prD),1,_)else none)=_
  rw[Qj (by omega),hs]
 have hsl:((x43 (pW W)).map prD).length<=1000:=by
  rw[Qc,<- hs]
  have:=(Jn ks fun a b=>decide (rk a<=rk b)).length_eq
  show(ks.mergeSort _).length<=1000
  omega
 have hit:x5p (y3x 2) [some (x0o n f,9),some (.tup (W.map (x21 n)),9),some (.mp (.t (ks.map prK)) (ks.map fun k=>x0i n (jr f z W k)),1),a,b,c]=some ((x43 (pW W)).map prD,[some (x0o n f,9),some (.tup (W.map (x21 n)),9),some (.mp (.t (ks.map prK)) (ks.map fun k=>x0i n (jr f z W k)),1),a,b,c]):=by
  unfold x5p
  rw[hso]
  exact Qj hsl
 have hc:=x23 (k:=2) (pt:=y6b (x13 (x0k 6) (x13 (x0k 7) x5z))) (tt:=x2d) (te:=x54 (x01 (x05 6) (x01 (x05 7) (x01 (z7y 2 (x54 (x01 (x05 6) (x01 (x05 7) x0g)))) x0g)))) (deep:=false) hit (x4f (k:=2) prD (fun k=>[some (.int (Int.ofNat k.1),9),some (.int (Int.ofNat k.2),9)]) (fun _=>true) (fun k=>x21 n (k.1,k.2,jr f z W k)) (fun _=>9) (x43 (pW W)) (fun k hk=>by
  refine⟨rfl,rfl,fun _=>?_⟩
  have hkk:k∈ks:=(mem k).mpr (x3a.mp hk)
  have hg:z3z (.t (ks.map prK)) (ks.map fun k=>x0i n (jr f z W k)) (.tup [.int (Int.ofNat k.1),.int (Int.ofNat k.2)])=some (some (x0i n (jr f z W k))):=by
   show some (vL (ks.map prK) (ks.map fun k=>x0i n (jr f z W k)) (prK k))=_
   rw[z27 prK x7x _ hkk]
  have hix:=z6a (i:=2) (fk:=x54 (x01 (x05 6) (x01 (x05 7) x0g))) (ρ:=[some (x0o n f,9),some (.tup (W.map (x21 n)),9),some (.mp (.t (ks.map prK)) (ks.map fun k=>x0i n (jr f z W k)),1),a,b,c]++[some (.int (Int.ofNat k.1),9),some (.int (Int.ofNat k.2),9)]) rfl rfl rfl hg
  have hh:=x1e (f:=x05 6) (ρ:=[some (x0o n f,9),some (.tup (W.map (x21 n)),9),some (.mp (.t (ks.map prK)) (ks.map fun k=>x0i n (jr f z W k)),1),a,b,c]++[some (.int (Int.ofNat k.1),9),some (.int (Int.ofNat k.2),9)]) rfl (x1e (f:=x05 7) rfl (x20 hix))
  exact y4m hh (by show 3<=1000;decide)))
 rw[VR.mpr (fun _ _=>rfl)]at hc
 refine(x37 (x20 hc)).trans ?_
 unfold jW
 rw[QV]
 rfl
theorem x8s(hl:B.length<=60)(hB:∀ b∈B,b.2<n)(hp:∀ b∈B,b.1<p):x26 [x0o n f,.tup (B.map x3j)]=some (.tup ((jB f z p B).map x3j),9):=by
 have hn:n<=16:=L.hi
 obtain⟨ρ',e,ks,nd,lk,mem,a,b,rfl⟩:=x2k (pt:=y6b (x13 (x0k 3) (x13 (x0k 4) x5z))) (body:=x3h) (B.map x3j)
  (fun i ρ=>∃ ks:List Nat,ks.Nodup/\ks.length<=i/\(∀ k,k∈ks ↔ k∈(B.take i).map (·.1))/\∃ a b,ρ=[some (x0o n f,9),some (.tup (B.map x3j),9),some (.mp (.k (ks.map kN)) (ks.map fun k=>.int (Int.ofNat (jb f z (B.take i) k))),1),a,b])
  [some (x0o n f,9),some (.tup (B.map x3j),9),some (.mp (.k []) [],1),none,none] (fun i hi ρ hh0=>by
  obtain⟨ks,nd,lk,mem,a,b,hr⟩:=hh0
  subst hr
  have hi':i<B.length:=by rw[Qc]at hi;exact hi
  have hw:=Zc hi'
  have ed:(B.map x3j)[i]=x3j B[i]:=by simp
  have et:B.take (i+1)=B.take i++[B[i]]:=by rw[Y4];simp[hi']
  rw[ed,et]
  have hW1:∀ w∈B.take i,w.2<n:=fun w m=>hB w (Yo m)
  generalize B.take i=W1 at *
  generalize B[i]=w at *
  obtain⟨s,r⟩:=w
  have hr:r<n:=hB _ hw
  have hks:ks.length<1000:=by omega
  have hjr:jb f z W1 s<n:=y9c L hz bz hW1 s
  refine⟨[some (x0o n f,9),some (.tup (B.map x3j),9),some (.mp (.k (ks.map kN)) (ks.map fun k=>.int (Int.ofNat (jb f z W1 k))),1),some (.int (Int.ofNat s),9),some (.int (Int.ofNat r),9)],?_⟩
  have hd:isDc ([some (x0o n f,9),some (.tup (B.map x3j),9),some (.mp (.k (ks.map kN)) (ks.map fun k=>.int (Int.ofNat (jb f z W1 k))),1),some (.int (Int.ofNat s),9),some (.int (Int.ofNat r),9)]:Rho)[2]? = true:=rfl
  have hget:z3z (.k (ks.map kN)) (ks.map fun k=>.int (Int.ofNat (jb f z W1 k))) (.int (Int.ofNat s))=some (vL (ks.map kN) (ks.map fun k=>.int (Int.ofNat (jb f z W1 k))) (kN s)):=rfl
  have hput:∀ d,z94 (.k (ks.map kN)) (ks.map fun k=>.int (Int.ofNat (jb f z W1 k))) (.int (Int.ofNat s)) d=some (if y9z (ks.map kN) (kN s)=true then(MK.k (ks.map kN),y43 (ks.map kN) (ks.map fun k=>.int (Int.ofNat (jb f z W1 k))) (kN s) d)else(.k (ks.map kN++[kN s]),(ks.map fun k=>.int (Int.ofNat (jb f z W1 k)))++[d])):=fun d=>rfl
  by_cases hm:s∈ks
  ·refine⟨[some (x0o n f,9),some (.tup (B.map x3j),9),some (.mp (.k (ks.map kN)) (ks.map fun k=>.int (Int.ofNat (jb f z (W1++[(s,r)]) k))),1),some (.int (Int.ofNat s),9),some (.int (Int.ofNat r),9)],by rfl,.inl ?_,ks,nd,by omega,fun k=>?_,_,_,rfl⟩
   ·unfold x3h
    rw[z27 kN y38 _ hm]at hget
    have h1:=x6r (i:=2) (fk:=x05 3) (fz:=x05 4) hd rfl rfl rfl hget
    have h2:=y4n (i:=0) (q:=9) h1 rfl (x6c (f:=f) hjr) rfl
    have h3:=z44 (b:=x05 4) h2 rfl (x87 (f:=f) (i:=jb f z W1 s) hr) rfl rfl
    refine(x95 h3 hd rfl rfl (by simp;exact hks) ((hput _).trans (by rw[Qj ((x92 kN y38).mpr hm),y26 kN y38]))).trans ?_
    have e2:(ks.map fun a=>if a=s then D.int (Int.ofNat (f (jb f z W1 s) r))else .int (Int.ofNat (jb f z W1 a)))=ks.map fun k=>.int (Int.ofNat (jb f z (W1++[(s,r)]) k)):=QP fun a _=>by
     by_cases ha:a=s
     ·subst ha
      rw[Qj rfl,y23,Qj rfl]
     ·rw[Qk ha,y23,Qk (fun q=>ha q.symm)]
    rw[e2]
    rfl
   ·rw[mem]
    rw[QZ,Q2]
    refine⟨.inl,fun h=>h.elim id fun h=>?_⟩
    have:k=s:=Q6.mp h
    rw[this]
    exact(mem _).mp hm
  ·refine⟨[some (x0o n f,9),some (.tup (B.map x3j),9),some (.mp (.k ((ks++[s]).map kN)) ((ks++[s]).map fun k=>.int (Int.ofNat (jb f z (W1++[(s,r)]) k))),1),some (.int (Int.ofNat s),9),some (.int (Int.ofNat r),9)],by rfl,.inl ?_,ks++[s],?_,by simp;omega,fun k=>?_,_,_,rfl⟩
   ·unfold x3h
    rw[y90 kN y38 _ hm]at hget
    have h1:=x6r (i:=2) (fk:=x05 3) (fz:=x05 4) hd rfl rfl rfl hget
    have h2:=y4n (i:=0) (q:=9) h1 rfl (x6c (f:=f) hr) rfl
    have h3:=z44 (b:=x05 4) h2 rfl (x87 (f:=f) (i:=r) hr) rfl rfl
    refine(x95 h3 hd rfl rfl (by simp;exact hks) ((hput _).trans (by rw[Qk fun q=>hm ((x92 kN y38).mp q)]))).trans ?_
    have e2:(ks.map fun k=>D.int (Int.ofNat (jb f z W1 k)))++[D.int (Int.ofNat (f r r))]=(ks++[s]).map fun k=>.int (Int.ofNat (jb f z (W1++[(s,r)]) k)):=by
     rw[QZ]
     congr 1
     ·exact QP fun a ha=>by rw[y23,Qk (fun q=>hm (by rw[show s=a from q];exact ha))]
     ·show [D.int (Int.ofNat (f r r))]=[D.int (Int.ofNat (jb f z (W1++[(s,r)]) s))]
      rw[y23,Qj rfl,z53 (fun q=>hm ((mem _).mpr q)),bz _ hr,L.idem _ hr]
    rw[e2,QZ (f:=kN)]
    rfl
   ·exact List.nodup_append.mpr ⟨nd,by simp,fun a ha b hb=>by
     rw[Q6.mp hb]
     exact fun q=>hm (by rw[<- q];exact ha)⟩
   ·rw[QZ,Q2,Q2,mem]
    exact Iff.rfl)
  ⟨[],Jp,Qi _,fun k=>by simp,none,none,rfl⟩
 rw[Qc]at lk
 rw[Qc,JD]at mem e
 have hv:∀ a,jb f z B a<1000:=fun a=>by have:=y9c L hz bz hB a;omega
 have hkp:∀ x∈ks.map (fun a=>(a,jb f z B a)),x.2<1000:=fun x hx=>by
  obtain⟨a,_,rfl⟩:=Qp.mp hx
  exact hv a
 have hs:jB f z p B=y6c (ks.map fun a=>(a,jb f z B a)):=by
  refine x9t hkp (List.Perm.map _ (y55 (Jq.filter _) nd fun a=>?_)) (j0c ?_)
  ·rw[Zd,mem,QA]
   refine⟨fun h=>?_,fun h=>⟨?_,?_⟩⟩
   ·have h2:¬ gB B a=[]:=fun q=>by have:=h.2;rw[Qs q]at this;cases this
    exact YX fun q=>h2 (x9x.mpr q)
   ·obtain⟨b,hb,rfl⟩:=Qp.mp h
    exact hp b hb
   ·rw[QK fun q=>x9x.mp q h]
    rfl
  ·refine Jf.mpr ((Vu.filter _).imp fun {a b} h=>?_)
   have h1:=hv a
   show Int.ofNat (a*1000+jb f z B a)<=Int.ofNat (b*1000+jb f z B b)
   exact Int.ofNat_le.mpr (by omega)
 unfold x26 x5k
 refine x3o ?_
 show x16 _ _ [some (x0o n f,9),some (.tup (B.map x3j),9),none,none,none]=_
 refine(x0m (ρ1:=[some (x0o n f,9),some (.tup (B.map x3j),9),some (.mp (.k []) [],1),none,none]) rfl).trans ?_
 refine(x0m ((x3g (ρ1:=[some (x0o n f,9),some (.tup (B.map x3j),9),some (.mp (.k []) [],1),none,none]) (by simp;omega)).trans e)).trans ?_
 refine x46 (ρ1:=[some (x0o n f,9),some (.tup (B.map x3j),9),some (.mp (.k (ks.map kN)) (ks.map fun k=>.int (Int.ofNat (jb f z B k))),1),a,b]) ?_
 have hso:x5v 2 [some (x0o n f,9),some (.tup (B.map x3j),9),some (.mp (.k (ks.map kN)) (ks.map fun k=>.int (Int.ofNat (jb f z B k))),1),a,b]=some (.lst ((jB f z p B).map prD),1,[some (x0o n f,9),some (.tup (B.map x3j),9),some (.mp (.k (ks.map kN)) (ks.map fun k=>.int (Int.ofNat (jb f z B k))),1),a,b]):=by
  show(match z47 (ks.map kN) (ks.map fun k=>.int (Int.ofNat (jb f z B k)))with|some kp=>if kp.length<64 then some (D.lst ((y6c kp).map prD),1,_)else none|none=>none)=_
  have:=y93 (ks.map fun a=>(a,jb f z B a)) hkp
  rw[QV,QV]at this
  rw[show z47 (ks.map kN) (ks.map fun k=>.int (Int.ofNat (jb f z B k)))=some (ks.map fun a=>(a,jb f z B a))from this]
  show(if(ks.map fun a=>(a,jb f z B a)).length<64 then some (D.lst ((y6c (ks.map fun a=>(a,jb f z B a))).map prD),1,_)else none)=_
  rw[Qj (by rw[Qc];omega),<- hs]
 exact x37 (x20 hso)
theorem x66{C:Cht}(hC:C.Ok n f):x2c [x0o n f,x06 n C]=some (x06 n (jC f z C),9):=by
 have h1:=y0l L hz bz hC.w60 (fun w hw=>(hC.ws w hw).2.2.1) (fun w hw=>by have:=(hC.ws w hw).2.1;have:=hC.p8;omega)
 have h2:=x8s L hz bz hC.b60 (fun b hb=>(hC.bs b hb).2) (fun b hb=>(hC.bs b hb).1)
 unfold x2c x7g
 have a0:atD (x06 n C) 0=some (.int (Int.ofNat C.p)):=rfl
 have a1:atD (x06 n C) 1=some (.tup (C.W.map (x21 n))):=rfl
 have a2:atD (x06 n C) 2=some (.tup (C.B.map x3j)):=rfl
 refine x3o (x46 (ρ1:=[some (x0o n f,9),some (x06 n C,9)]) ?_)
 simp[-Int.ofNat_eq_natCast,a0,a1,a2,h1,h2]
 rfl
end
theorem y07{α:Type}[DecidableEq α]{k:α}:∀ {l:List α},l.Nodup->k∈l->(l.filter fun x=>decide (x=k))=[k]
 | [],_,h=>(Qg h).elim
 | a::l,nd,h=>by
  obtain⟨n1,n2⟩:=QW.mp nd
  by_cases ha:a=k
  ·subst ha
   rw[QT (p:=fun x=>decide (x=a)) (Qs rfl)]
   congr 1
   exact Yc.mpr fun x hx e=>n1 (by rw[<- QR e];exact hx)
  ·rw[Q5 (p:=fun x=>decide (x=k)) (by rw[QK ha];decide)]
   exact y07 n2 ((Qq.mp h).resolve_left fun z=>ha z.symm)
theorem z0d{C:Cht}:ClS f (x51 C) v ↔ (∀ b∈C.B,f b.2 (gv v b.1)=gv v b.1)/\∀ w∈C.W,f (w.2.2 (gv v w.1)) (gv v w.2.1)=gv v w.2.1:=by
 constructor
 ·intro h
  exact⟨fun b hb=>h (y45 b) (Q9 _ (Jo hb)),fun w hw=>h (y8o w) (Qr _ (Jo hw))⟩
 ·rintro ⟨h1,h2⟩ s hs
  rcases Q2.mp hs with h|h
  ·obtain⟨b,hb,rfl⟩:=Qp.mp h
   exact h1 b hb
  ·obtain⟨w,hw,rfl⟩:=Qp.mp h
   exact h2 w hw
theorem x8m{k:Nat×Nat}{x:Nat}:x∈gR W k i ↔ ∃ w∈W,(w.1,w.2.1)=k/\w.2.2 i=x:=by
 unfold gR
 rw[Qp]
 exact⟨fun⟨w,hw,e⟩=>⟨w,(Zd.mp hw).1,QR (Zd.mp hw).2,e⟩,fun⟨w,hw,e1,e2⟩=>⟨w,Zd.mpr ⟨hw,Qs e1⟩,e2⟩⟩
theorem y2r{x:Nat}:x∈gB B p ↔ (p,x)∈B:=by
 unfold gB
 rw[Qp]
 exact⟨fun⟨w,hw,e⟩=>by
  obtain⟨h1,h2⟩:=Zd.mp hw
  have:w=(p,x):=VT (QR h2) e
  rw[<- this];exact h1,fun h=>⟨(p,x),Zd.mpr ⟨h,Qs rfl⟩,rfl⟩⟩
theorem y8q{w:Nat×Nat×(Nat->Nat)}:w∈jW f z W ↔ ∃ k∈pW W,w=(k.1,k.2,jr f z W k):=by
 unfold jW
 rw[Qp]
 exact⟨fun⟨k,hk,e⟩=>⟨k,x3a.mp hk,e.symm⟩,fun⟨k,hk,e⟩=>⟨k,x3a.mpr hk,e.symm⟩⟩
theorem y3p:b∈jB f z p B ↔ ∃ a,a<p/\a∈B.map (·.1)/\b=(a,jb f z B a):=by
 unfold jB
 rw[Qp]
 constructor
 ·rintro ⟨a,ha,e⟩
  obtain⟨h1,h2⟩:=Zd.mp ha
  refine⟨a,QA.mp h1,YX fun q=>?_,e.symm⟩
  rw[Qs (x9x.mpr q)]at h2
  cases h2
 ·rintro ⟨a,h1,h2,e⟩
  exact⟨a,Zd.mpr ⟨QA.mpr h1,by rw[QK fun q=>x9x.mp q h2];rfl⟩,e.symm⟩
section
variable {n:Nat}{f:Nat->Nat->Nat}(L:Lad n f){z:Nat}(hz:z<n)(bz:∀ j,j<n->f z j=j){C:Cht}(hC:C.Ok n f)
include L hz bz hC
theorem j2r:(jC f z C).Ok n f:=by
 have hl:∀ w∈C.W,∀ i,i<n->w.2.2 i<n:=fun w hw=>(hC.ws w hw).2.2.1
 refine⟨hC.p1,hC.p8,?_,?_,fun w hw=>?_,fun b hb=>?_⟩
 ·show(jW f z C.W).length<=60
  unfold jW
  rw[Qc]
  have h1:=y5t (x80 (pW C.W)) (fun x hx=>x3a.mp hx)
  have h2:(pW C.W).length=C.W.length:=Qc _
  have:=hC.w60
  omega
 ·show(jB f z C.p C.B).length<=60
  unfold jB
  rw[Qc]
  have:=Zz (fun a=>!decide (gB C.B a=[])) (List.range C.p)
  rw[QJ]at this
  have:=hC.p8
  omega
 ·obtain⟨k,hk,rfl⟩:=y8q.mp hw
  obtain⟨w0,hw0,rfl⟩:=Qp.mp hk
  obtain⟨a1,a2,a3,a4⟩:=hC.ws w0 hw0
  refine⟨a1,a2,fun i hi=>y6z L hz bz hl _ hi,fun x y hx hy e=>?_⟩
  refine L.sup_least hz bz (y6z L hz bz hl _ hy) (fun u hu=>?_) fun u hu=>?_
  ·obtain⟨w1,hw1,_,rfl⟩:=x8m.mp hu
   exact hl w1 hw1 x hx
  ·obtain⟨w1,hw1,e1,rfl⟩:=x8m.mp hu
   obtain⟨_,_,b3,b4⟩:=hC.ws w1 hw1
   refine L.le_trans (b3 x hx) (b3 y hy) (y6z L hz bz hl _ hy) (b4 x y hx hy e) (L.fold_mem hz (fun u hu=>?_) (x8m.mpr ⟨w1,hw1,e1,rfl⟩))
   obtain⟨w2,hw2,_,rfl⟩:=x8m.mp hu
   exact hl w2 hw2 y hy
 ·obtain⟨a,h1,h2,rfl⟩:=y3p.mp hb
  exact⟨h1,y9c L hz bz (fun b hb=>(hC.bs b hb).2) a⟩
theorem z9k(hv:Vn n C.p v):ClS f (x51 (jC f z C)) v ↔ ClS f (x51 C) v:=by
 have hl:∀ w∈C.W,∀ i,i<n->w.2.2 i<n:=fun w hw=>(hC.ws w hw).2.2.1
 have hb2:∀ b∈C.B,b.2<n:=fun b hb=>(hC.bs b hb).2
 rw[z0d,z0d]
 constructor
 ·rintro ⟨h1,h2⟩
  refine⟨fun b hb=>?_,fun w hw=>?_⟩
  ·have hb':b.1<C.p:=(hC.bs b hb).1
   have:=h1 (b.1,jb f z C.B b.1) (y3p.mpr ⟨b.1,hb',Jo hb,rfl⟩)
   refine L.le_trans (hb2 b hb) (y9c L hz bz hb2 b.1) (hv.gv hb') (L.fold_mem hz (fun u hu=>hb2 _ (y2r.mp hu)) (y2r.mpr hb)) this
  ·obtain⟨a1,a2,a3,a4⟩:=hC.ws w hw
   have:=h2 (w.1,w.2.1,jr f z C.W (w.1,w.2.1)) (y8q.mpr ⟨(w.1,w.2.1),Jo hw,rfl⟩)
   have hx:=hv.gv a1
   refine L.le_trans (a3 _ hx) (y6z L hz bz hl _ hx) (hv.gv a2) (L.fold_mem hz (fun u hu=>?_) (x8m.mpr ⟨w,hw,rfl,rfl⟩)) this
   obtain⟨w2,hw2,_,rfl⟩:=x8m.mp hu
   exact hl w2 hw2 _ hx
 ·rintro ⟨h1,h2⟩
  refine⟨fun b hb=>?_,fun w hw=>?_⟩
  ·obtain⟨a,ha,_,rfl⟩:=y3p.mp hb
   refine L.sup_least hz bz (hv.gv ha) (fun u hu=>hb2 _ (y2r.mp hu)) fun u hu=>h1 (a,u) (y2r.mp hu)
  ·obtain⟨k,hk,rfl⟩:=y8q.mp hw
   obtain⟨w0,hw0,rfl⟩:=Qp.mp hk
   obtain⟨a1,a2,a3,a4⟩:=hC.ws w0 hw0
   have hx:=hv.gv a1
   refine L.sup_least hz bz (hv.gv a2) (fun u hu=>?_) fun u hu=>?_
   ·obtain⟨w2,hw2,_,rfl⟩:=x8m.mp hu
    exact hl w2 hw2 _ hx
   ·obtain⟨w2,hw2,e,rfl⟩:=x8m.mp hu
    have:=h2 w2 hw2
    have e1:w2.1=w0.1:=(Prod.mk.inj e).1
    have e2:w2.2.1=w0.2.1:=(Prod.mk.inj e).2
    rw[e1,e2]at this
    exact this
theorem z8m{u u':List Nat}(h:LowS n f C.p (x51 C) (z00 C.p z) u)(h':LowS n f C.p (x51 (jC f z C)) (z00 C.p z) u'):u'=u:=
 L.leV_anti h'.V h.V (h'.le u h.V ((z9k L hz bz hC h.V).mpr h.cl) h.up) (h.le u' h'.V ((z9k L hz bz hC h'.V).mp h'.cl) h'.up)
theorem j2d:x06 n (jC f z (jC f z C))=x06 n (jC f z C):=by
 have hl:∀ w∈C.W,∀ i,i<n->w.2.2 i<n:=fun w hw=>(hC.ws w hw).2.2.1
 have hb2:∀ b∈C.B,b.2<n:=fun b hb=>(hC.bs b hb).2
 have hpW:pW (jW f z C.W)=x43 (pW C.W):=by
  unfold pW jW
  rw[QV]
  exact(QP fun k _=>rfl).trans (V3 _)
 have hb:∀ x∈x43 (pW C.W),x.2<1000:=fun x hx=>by
  obtain⟨w,hw,rfl⟩:=Qp.mp (x3a.mp hx)
  have:=(hC.ws w hw).2.1
  have:=hC.p8
  show w.2.1<1000
  omega
 have hss:x43 (pW (jW f z C.W))=x43 (pW C.W):=by
  rw[hpW]
  exact(x9g hb (x80 _) (fun _=>Iff.rfl) (YR _) (j0c (z0i _))).symm
 have e1:(jW f z (jW f z C.W)).map (x21 n)=(jW f z C.W).map (x21 n):=by
  show((x43 (pW (jW f z C.W))).map fun k=>(k.1,k.2,jr f z (jW f z C.W) k)).map (x21 n)=((x43 (pW C.W)).map fun k=>(k.1,k.2,jr f z C.W k)).map (x21 n)
  rw[hss,QV,QV]
  refine QP fun k hk=>?_
  have:x0i n (jr f z (jW f z C.W) k)=x0i n (jr f z C.W k):=x85 fun i hi=>by
   have eg:gR (jW f z C.W) k i=[jr f z C.W k i]:=by
    unfold gR jW
    rw[VC,QV]
    have:(x43 (pW C.W)).filter ((fun w:Nat×Nat×(Nat->Nat)=>decide ((w.1,w.2.1)=k)) ∘ fun k=>(k.1,k.2,jr f z C.W k))=[k]:=(Y5 fun a _=>rfl).trans (y07 (x80 _) hk)
    rw[this]
    rfl
   show(gR (jW f z C.W) k i).foldl f z=_
   rw[eg]
   exact bz _ (y6z L hz bz hl k hi)
  show D.tup [_,_,x0i n (jr f z (jW f z C.W) k)]=D.tup [_,_,x0i n (jr f z C.W k)]
  rw[this]
 have e2:jB f z C.p (jB f z C.p C.B)=jB f z C.p C.B:=by
  have hm:∀ a,a<C.p->(gB (jB f z C.p C.B) a=[] ↔ gB C.B a=[]):=fun a ha=>by
   rw[x9x,x9x]
   refine not_congr ⟨fun h=>?_,fun h=>?_⟩
   ·obtain⟨b,hb,e⟩:=Qp.mp h
    obtain⟨a',_,h3,rfl⟩:=y3p.mp hb
    rw[<- e]
    exact h3
   ·exact Qp.mpr ⟨_,y3p.mpr ⟨a,ha,h,rfl⟩,rfl⟩
  show((List.range C.p).filter fun a=>!decide (gB (jB f z C.p C.B) a=[])).map (fun a=>(a,jb f z (jB f z C.p C.B) a))=((List.range C.p).filter fun a=>!decide (gB C.B a=[])).map fun a=>(a,jb f z C.B a)
  rw[Y5 (q:=fun a=>!decide (gB C.B a=[])) fun a ha=>by
   have:=hm a (QA.mp ha)
   by_cases h:gB C.B a=[]
   ·rw[Qs h,Qs (this.mpr h)]
   ·rw[QK h,QK fun q=>h (this.mp q)]]
  refine QP fun a ha=>?_
  have eg:gB (jB f z C.p C.B) a=[jb f z C.B a]:=by
   unfold gB jB
   rw[VC,QV]
   have:((List.range C.p).filter fun a=>!decide (gB C.B a=[])).filter ((fun b:Nat×Nat=>decide (b.1=a)) ∘ fun a=>(a,jb f z C.B a))=[a]:=(Y5 fun a _=>rfl).trans (y07 (Jq.filter _) ha)
   rw[this]
   rfl
  show(a,(gB (jB f z C.p C.B) a).foldl f z)=_
  rw[eg]
  show(a,f z (jb f z C.B a))=_
  rw[bz _ (y9c L hz bz hb2 a)]
 show D.tup [_,.tup ((jW f z (jW f z C.W)).map (x21 n)),.tup ((jB f z C.p (jB f z C.p C.B)).map x3j)]=D.tup [_,.tup ((jW f z C.W).map (x21 n)),.tup ((jB f z C.p C.B).map x3j)]
 rw[e1,e2]
 rfl
end
theorem y9v(d:D)(ds:List D):L3.z46 (d::ds) (some 1) none=ds:=by
 unfold L3.z46
 have e2:HT.sIx (d::ds).length (d::ds).length none=(d::ds).length:=rfl
 have e1:HT.sIx (d::ds).length 0 (some 1)=1:=by
  simp[HT.sIx]
 rw[e1,e2]
 show ds.take _=ds
 exact Jt (by show ds.length<=ds.length+1-1;omega)
section
variable {n:Nat}{f:Nat->Nat->Nat}(L:Lad n f){z:Nat}(hz:z<n)(bz:∀ j,j<n->f z j=j){C:Cht}(hC:C.Ok n f)
include L hz bz hC
theorem z3j(ns:List Int)(t:D):x5h (x2r 1 (x5p (x1z 2 (eC (.int 1)))) (x0k 13) x2d (eSl (x05 13) x7f (x6e (eC (.int 2)))) false) [some (scr ns,0),some (x0o n f,9),some (x06 n C,9),some (t,9),(none:OD),(none:OD),(none:OD),(none:OD),(none:OD),(none:OD),(none:OD),(none:OD),(none:OD)]=some (.lst ((x43 (pW C.W)).map prD),1,[some (scr ns,0),some (x0o n f,9),some (x06 n C,9),some (t,9),(none:OD),(none:OD),(none:OD),(none:OD),(none:OD),(none:OD),(none:OD),(none:OD),(none:OD)]):=by
 have hw:=hC.w60
 have hit:x5p (x1z 2 (eC (.int 1))) [some (scr ns,0),some (x0o n f,9),some (x06 n C,9),some (t,9),(none:OD),(none:OD),(none:OD),(none:OD),(none:OD),(none:OD),(none:OD),(none:OD),(none:OD)]=some (C.W.map (x21 n),[some (scr ns,0),some (x0o n f,9),some (x06 n C,9),some (t,9),(none:OD),(none:OD),(none:OD),(none:OD),(none:OD),(none:OD),(none:OD),(none:OD),(none:OD)]):=by
  have a1:atD (x06 n C) 1=some (.tup (C.W.map (x21 n))):=rfl
  simp[a1]
  omega
 have hc:=x23 (k:=1) (pt:=x0k 13) (tt:=x2d) (te:=eSl (x05 13) x7f (x6e (eC (.int 2)))) (deep:=false) hit (x4f (k:=1) (x21 n) (fun w=>[some (x21 n w,9)]) (fun _=>true) (fun w=>prD (w.1,w.2.1)) (fun _=>9) C.W (fun w hw=>⟨rfl,rfl,fun _=>rfl⟩))
 rw[VR.mpr (fun _ _=>rfl)]at hc
 have e:(C.W.map fun w=>prD (w.1,w.2.1))=(pW C.W).map prD:=by unfold pW;rw[QV];rfl
 rw[e]at hc
 have hb:∀ x∈pW C.W,x.2<1000:=fun x hx=>by
  obtain⟨w,hw,rfl⟩:=Qp.mp hx
  have:=(hC.ws w hw).2.1
  have:=hC.p8
  show w.2.1<1000
  omega
 unfold x5h
 rw[hc]
 show(if 1<=1 then(match z5k ((pW C.W).map prD)with|some ks=>if ks.length<64 then some (D.lst ((x43 ks).map prD),1,_)else none|none=>none)else none)=_
 rw[Qj (Qi 1),y5l _ hb]
 show(if(pW C.W).length<64 then some (D.lst ((x43 (pW C.W)).map prD),1,_)else none)=_
 rw[Qj (by unfold pW;rw[Qc];omega)]
theorem z6f(ns:List Int)(t:D){k:Nat×Nat}(hk:k∈pW C.W){R:List D}(hR:R.length<=60)(b7 b8 b9:OD)(P:OD):∃ c7 c8 c9,y5g [some (scr ns,0),some (x0o n f,9),some (x06 n C,9),some (t,9),P,some (.lst R,1),some (prD k,9),b7,b8,b9,(none:OD),(none:OD),(none:OD)]=some (.nx [some (scr ns,0),some (x0o n f,9),some (x06 n C,9),some (t,9),P,some (.lst (R++[x21 n (k.1,k.2,jr f z C.W k)]),1),some (prD k,9),c7,c8,c9,(none:OD),(none:OD),(none:OD)]):=by
 have hn:n<=1000:=QU L.hi (by decide)
 have hw:=hC.w60
 have a1:atD (x06 n C) 1=some (.tup (C.W.map (x21 n))):=rfl
 have hl:∀ w∈C.W,∀ i,i<n->w.2.2 i<n:=fun w hw=>(hC.ws w hw).2.2.1
 obtain⟨G,hG⟩:∃ G,G=C.W.filter fun w=>decide ((w.1,w.2.1)=k):=⟨_,rfl⟩
 have hGm:∀ w∈G,w∈C.W:=fun w h=>by rw[hG]at h;exact(Zd.mp h).1
 have hGl:G.length<=60:=by rw[hG];exact QU (Zz _ _) hw
 have hGne:G ≠ []:=fun q=>by
  obtain⟨w,hw,e⟩:=Qp.mp hk
  have:w∈G:=by rw[hG];exact Zd.mpr ⟨hw,Qs e⟩
  rw[q]at this
  cases this
 have hit:x5p (x1z 2 (eC (.int 1))) [some (scr ns,0),some (x0o n f,9),some (x06 n C,9),some (t,9),P,some (.lst R,1),some (prD k,9),b7,b8,b9,(none:OD),(none:OD),(none:OD)]=some (C.W.map (x21 n),[some (scr ns,0),some (x0o n f,9),some (x06 n C,9),some (t,9),P,some (.lst R,1),some (prD k,9),b7,b8,b9,(none:OD),(none:OD),(none:OD)]):=by
  simp[a1]
  omega
 have hc:=x23 (k:=1) (pt:=x0k 13) (tt:=x4n (e2 dEq (eSl (x05 13) x7f (x6e (eC (.int 2)))) (x05 6))) (te:=x1z 13 (eC (.int 2))) (deep:=false) hit (x4f (k:=1) (x21 n) (fun w=>[some (x21 n w,9)]) (fun w=>decide ((w.1,w.2.1)=k)) (fun w=>x0i n w.2.2) (fun _=>9) C.W (fun w hw=>by
  refine⟨rfl,?_,fun _=>rfl⟩
  have hd:dEq (.tup [.int (Int.ofNat w.1),.int (Int.ofNat w.2.1)]) (prD k)=some (.bl (decide ((w.1,w.2.1)=k))):=by
   refine(z9c [w.1,w.2.1] [k.1,k.2]).trans ?_
   congr 2
   exact JE.mpr ⟨fun h=>by injection h with e1 e2;injection e2 with e3;exact VT e1 e3,fun h=>by rw[<- h]⟩
  exact x9d (y9y (fa:=eSl (x05 13) x7f (x6e (eC (.int 2)))) (fb:=x05 6) (q:=9) (q':=9) rfl rfl hd)))
 rw[<- hG]at hc
 obtain⟨w0,G',rfl⟩:=List.exists_cons_of_ne_nil hGne
 obtain⟨r0,hr0⟩:∃ r0,r0=w0.2.2:=⟨_,rfl⟩
 obtain⟨Q,hQ⟩:∃ Q:List (Nat->Nat),Q=G'.map (·.2.2):=⟨_,rfl⟩
 have eQ:(w0::G').map (fun w=>x0i n w.2.2)=x0i n r0::Q.map (x0i n):=by rw[hQ,hr0,Qx,QV];rfl
 rw[eQ]at hc
 have hrl:∀ i,i<n->r0 i<n:=by rw[hr0];exact hl _ (hGm _ Qf)
 have hQl:∀ r∈Q,∀ i,i<n->r i<n:=fun r hr=>by
  rw[hQ]at hr
  obtain⟨w,hw,rfl⟩:=Qp.mp hr
  exact hl _ (hGm _ (Qe _ hw))
 have hQn:Q.length<=60:=by rw[hQ,Qc];rw[QH]at hGl;omega
 obtain⟨j',e,_⟩:=x9v (J:=OD) (pt:=x0k 9) (body:=z4c) (x0i n) (fun r j=>[some (scr ns,0),some (x0o n f,9),some (x06 n C,9),some (t,9),P,some (.lst R,1),some (prD k,9),some (.lst (x0i n r0::Q.map (x0i n)),0),some (x0i n r,9),j,(none:OD),(none:OD),(none:OD)]) (fun r s=>fun i=>f (r i) (s i)) (fun r=>∀ i,i<n->r i<n) Q r0 b9 hrl (fun s hs r j hr=>by
  refine⟨fun i hi=>L.cl _ _ (hr i hi) (hQl s hs i hi),_,some (x0i n s,9),rfl,?_⟩
  unfold z4c
  exact x38 (x3m (x1e rfl (x1e rfl (x1e rfl rfl))) rfl (x3p (f:=f) hn hr (hQl s hs))) rfl)
 have hfold:∀ i,i<n->Q.foldl (fun r s=>fun i=>f (r i) (s i)) r0 i=jr f z C.W k i:=fun i hi=>by
  have h1:∀ (Q:List (Nat->Nat)) (r:Nat->Nat),Q.foldl (fun r s=>fun i=>f (r i) (s i)) r i=(Q.map (· i)).foldl f (r i):=by
   intro Q
   induction Q with
   | nil=>intro r;rfl
   | cons s Q ih=>intro r;exact ih _
  rw[h1]
  show _=(gR C.W k i).foldl f z
  unfold gR
  rw[<- hG,Qx,Vx,bz _ (by rw[<- hr0];exact hrl i hi),hQ,hr0,QV]
  rfl
 have er:x0i n (Q.foldl (fun r s=>fun i=>f (r i) (s i)) r0)=x0i n (jr f z C.W k):=x85 hfold
 generalize Q.foldl (fun r s=>fun i=>f (r i) (s i)) r0=rr at *
 refine⟨some (.lst (x0i n r0::Q.map (x0i n)),0),some (x0i n rr,9),j',?_⟩
 unfold y5g
 refine(x0m (ρ1:=[some (scr ns,0),some (x0o n f,9),some (x06 n C,9),some (t,9),P,some (.lst R,1),some (prD k,9),some (.lst (x0i n r0::Q.map (x0i n)),1),b8,b9,(none:OD),(none:OD),(none:OD)]) (x38 hc rfl)).trans ?_
 have a0:atD (.lst (x0i n r0::Q.map (x0i n))) 0=some (x0i n r0):=(y16 (i:=0) rfl:L2.atI (x0i n r0::Q.map (x0i n)) (Int.ofNat 0)=some (x0i n r0))
 refine(x0m (ρ1:=[some (scr ns,0),some (x0o n f,9),some (x06 n C,9),some (t,9),P,some (.lst R,1),some (prD k,9),some (.lst (x0i n r0::Q.map (x0i n)),1),some (x0i n r0,9),b9,(none:OD),(none:OD),(none:OD)]) (x38 (y4n (q:=1) rfl rfl a0 rfl) rfl)).trans ?_
 have hi2:x5p (z80 (x05 7) (x6e (eC (.int 1))) x7f) [some (scr ns,0),some (x0o n f,9),some (x06 n C,9),some (t,9),P,some (.lst R,1),some (prD k,9),some (.lst (x0i n r0::Q.map (x0i n)),1),some (x0i n r0,9),b9,(none:OD),(none:OD),(none:OD)]=some (Q.map (x0i n),[some (scr ns,0),some (x0o n f,9),some (x06 n C,9),some (t,9),P,some (.lst R,1),some (prD k,9),some (.lst (x0i n r0::Q.map (x0i n)),0),some (x0i n r0,9),b9,(none:OD),(none:OD),(none:OD)]):=by
  have h0:z80 (x05 7) (x6e (eC (.int 1))) x7f [some (scr ns,0),some (x0o n f,9),some (x06 n C,9),some (t,9),P,some (.lst R,1),some (prD k,9),some (.lst (x0i n r0::Q.map (x0i n)),1),some (x0i n r0,9),b9,(none:OD),(none:OD),(none:OD)]=some (.lst (L3.z46 (x0i n r0::Q.map (x0i n)) (some 1) none),1,[some (scr ns,0),some (x0o n f,9),some (x06 n C,9),some (t,9),P,some (.lst R,1),some (prD k,9),some (.lst (x0i n r0::Q.map (x0i n)),0),some (x0i n r0,9),b9,(none:OD),(none:OD),(none:OD)]):=rfl
  unfold x5p
  rw[h0,y9v]
  exact Qj (by rw[Qc];omega)
 refine(x0m ((x3g hi2).trans e)).trans ?_
 have ew:x21 n (k.1,k.2,jr f z C.W k)=x21 n (k.1,k.2,rr):=by
  show D.tup [_,_,x0i n (jr f z C.W k)]=D.tup [_,_,x0i n rr]
  rw[er]
 rw[ew]
 refine y1o (ρ1:=[some (scr ns,0),some (x0o n f,9),some (x06 n C,9),some (t,9),P,some (.lst R,1),some (prD k,9),some (.lst (x0i n r0::Q.map (x0i n)),0),some (x0i n rr,9),j',(none:OD),(none:OD),(none:OD)]) (ds:=R) (d:=x21 n (k.1,k.2,rr)) rfl (x20 (q:=9) ?_) rfl (by omega) rfl
 rfl
theorem y94(ns:List Int)(t:D):∃ a b c d,y09 (x0k 6) y5g ((x43 (pW C.W)).map prD) [some (scr ns,0),some (x0o n f,9),some (x06 n C,9),some (t,9),some (.lst ((x43 (pW C.W)).map prD),0),some (.lst [],1),(none:OD),(none:OD),(none:OD),(none:OD),(none:OD),(none:OD),(none:OD)]=some (.nx [some (scr ns,0),some (x0o n f,9),some (x06 n C,9),some (t,9),some (.lst ((x43 (pW C.W)).map prD),0),some (.lst ((jW f z C.W).map (x21 n)),1),a,b,c,d,(none:OD),(none:OD),(none:OD)]):=by
 have hlen:(x43 (pW C.W)).length<=60:=by
  have h1:=y5t (x80 (pW C.W)) (fun x hx=>x3a.mp hx)
  have h2:(pW C.W).length=C.W.length:=Qc _
  have:=hC.w60
  omega
 generalize hP:some ((.lst ((x43 (pW C.W)).map prD):D),0)=P
 obtain⟨ρ',e,a,b,c,d,rfl⟩:=x2k (pt:=x0k 6) (body:=y5g) ((x43 (pW C.W)).map prD) (fun i ρ=>∃ a b c d,ρ=[some (scr ns,0),some (x0o n f,9),some (x06 n C,9),some (t,9),P,some (.lst (((x43 (pW C.W)).take i).map fun k=>x21 n (k.1,k.2,jr f z C.W k)),1),a,b,c,d,(none:OD),(none:OD),(none:OD)])
  [some (scr ns,0),some (x0o n f,9),some (x06 n C,9),some (t,9),P,some (.lst [],1),(none:OD),(none:OD),(none:OD),(none:OD),(none:OD),(none:OD),(none:OD)] (fun i hi ρ hh0=>by
  obtain⟨a,b,c,d,hr⟩:=hh0
  subst hr
  have hi':i<(x43 (pW C.W)).length:=by rw[Qc]at hi;exact hi
  have ed:((x43 (pW C.W)).map prD)[i]=prD (x43 (pW C.W))[i]:=by simp
  have et:(x43 (pW C.W)).take (i+1)=(x43 (pW C.W)).take i++[(x43 (pW C.W))[i]]:=by rw[Y4];simp[hi']
  obtain⟨c7,c8,c9,h⟩:=z6f L hz bz hC ns t (k:=(x43 (pW C.W))[i]) (x3a.mp (Zc hi')) (R:=((x43 (pW C.W)).take i).map fun k=>x21 n (k.1,k.2,jr f z C.W k)) (by rw[Qc,Q3];omega) b c d P
  rw[ed,et,QZ]
  exact⟨_,_,rfl,.inl h,_,_,_,_,rfl⟩) ⟨_,_,_,_,rfl⟩
 rw[Qc,JD]at e
 refine⟨a,b,c,d,e.trans ?_⟩
 unfold jW
 rw[QV]
 rfl
theorem z2t(ns:List Int)(t:D)(P W a b c d:OD):∃ x y,y09 (x0k 11) y65 (x12 C.p) [some (scr ns,0),some (x0o n f,9),some (x06 n C,9),some (t,9),P,W,a,b,c,d,some (.lst [],1),(none:OD),(none:OD)]=some (.nx [some (scr ns,0),some (x0o n f,9),some (x06 n C,9),some (t,9),P,W,a,b,c,d,some (.lst ((jB f z C.p C.B).map x3j),1),x,y]):=by
 have hn:n<=1000:=QU L.hi (by decide)
 have hp8:=hC.p8
 have hb60:=hC.b60
 have a2:atD (x06 n C) 2=some (.tup (C.B.map x3j)):=rfl
 have hb2:∀ b∈C.B,b.2<n:=fun b hb=>(hC.bs b hb).2
 obtain⟨ρ',e,x,y,rfl⟩:=x2k (pt:=x0k 11) (body:=y65) (x12 C.p) (fun i ρ=>∃ x y,ρ=[some (scr ns,0),some (x0o n f,9),some (x06 n C,9),some (t,9),P,W,a,b,c,d,some (.lst ((jB f z i C.B).map x3j),1),x,y])
  [some (scr ns,0),some (x0o n f,9),some (x06 n C,9),some (t,9),P,W,a,b,c,d,some (.lst [],1),(none:OD),(none:OD)] (fun i hi ρ hh0=>by
  obtain⟨x,y,hr⟩:=hh0
  subst hr
  have hi':i<C.p:=by rw[x0s]at hi;exact hi
  have ejB:jB f z (i+1) C.B=jB f z i C.B++(if gB C.B i=[]then []else [(i,jb f z C.B i)]):=by
   unfold jB
   rw[JN,JR,QZ]
   congr 1
   by_cases h:gB C.B i=[]
   ·rw[Qj h,Q5 (p:=fun a=>!decide (gB C.B a=[])) (by rw[Qs h];decide)]
    rfl
   ·rw[Qk h,QT (p:=fun a=>!decide (gB C.B a=[])) (by rw[QK h];rfl)]
    rfl
  have hjl:((jB f z i C.B).map x3j).length<=1000:=by
   unfold jB
   rw[Qc,Qc]
   have:=Zz (fun a=>!decide (gB C.B a=[])) (List.range i)
   rw[QJ]at this
   omega
  have hgl:(gB C.B i).length<=60:=by
   unfold gB
   rw[Qc]
   exact QU (Zz _ _) hb60
  refine⟨[some (scr ns,0),some (x0o n f,9),some (x06 n C,9),some (t,9),P,W,a,b,c,d,some (.lst ((jB f z i C.B).map x3j),1),some (.int (Int.ofNat i),9),y],?_⟩
  have hit:x5p (x1z 2 (eC (.int 2))) [some (scr ns,0),some (x0o n f,9),some (x06 n C,9),some (t,9),P,W,a,b,c,d,some (.lst ((jB f z i C.B).map x3j),1),some (.int (Int.ofNat i),9),y]=some (C.B.map x3j,[some (scr ns,0),some (x0o n f,9),some (x06 n C,9),some (t,9),P,W,a,b,c,d,some (.lst ((jB f z i C.B).map x3j),1),some (.int (Int.ofNat i),9),y]):=by
   simp[a2]
   omega
  have hc:=x23 (k:=2) (pt:=y6b (x13 (x0k 13) (x13 (x0k 14) x5z))) (tt:=x4n (e2 dEq (x05 13) (x05 11))) (te:=x05 14) (deep:=false) hit (x4f (k:=2) x3j (fun b=>[some (.int (Int.ofNat b.1),9),some (.int (Int.ofNat b.2),9)]) (fun b=>decide (b.1=i)) (fun b=>.int (Int.ofNat b.2)) (fun _=>9) C.B (fun b hb=>by
   refine⟨rfl,?_,fun _=>rfl⟩
   exact x9d (y9y (fa:=x05 13) (fb:=x05 11) (q:=9) (q':=9) rfl rfl (z0y b.1 i))))
  have eg:((C.B.filter fun b=>decide (b.1=i)).map fun b=>D.int (Int.ofNat b.2))=x0h (gB C.B i):=by unfold gB x0h;rw[QV];rfl
  rw[eg]at hc
  rw[x4j,ejB]
  by_cases h:gB C.B i=[]
  ·rw[Qj h,Z5]
   refine⟨_,rfl,.inl ?_,some (.int (Int.ofNat i),9),some (.lst (x0h (gB C.B i)),0),rfl⟩
   unfold y65
   refine(x0m (ρ1:=[some (scr ns,0),some (x0o n f,9),some (x06 n C,9),some (t,9),P,W,a,b,c,d,some (.lst ((jB f z i C.B).map x3j),1),some (.int (Int.ofNat i),9),some (.lst (x0h (gB C.B i)),1)]) (x38 hc rfl)).trans ?_
   have hd:dNe (.lst (x0h (gB C.B i))) (.lst [])=some (.bl false):=by
    refine(j0f (gB C.B i) []).trans ?_
    rw[h]
    rfl
   exact(z63 (x9d (y9y (fa:=x05 12) (fb:=x5w x0g) rfl rfl hd))).trans rfl
  ·rw[Qk h,QZ]
   refine⟨_,rfl,.inl ?_,some (.int (Int.ofNat i),9),some (.lst (x0h (gB C.B i)),0),rfl⟩
   unfold y65
   refine(x0m (ρ1:=[some (scr ns,0),some (x0o n f,9),some (x06 n C,9),some (t,9),P,W,a,b,c,d,some (.lst ((jB f z i C.B).map x3j),1),some (.int (Int.ofNat i),9),some (.lst (x0h (gB C.B i)),1)]) (x38 hc rfl)).trans ?_
   have hd:dNe (.lst (x0h (gB C.B i))) (.lst [])=some (.bl true):=by
    refine(j0f (gB C.B i) []).trans ?_
    rw[QK h]
    rfl
   have hj:=y7x L hz bz hn (l:=gB C.B i) (by omega) (fun x hx=>hb2 _ (y2r.mp hx))
   refine(j2k (x9d (y9y (fa:=x05 12) (fb:=x5w x0g) rfl rfl hd))).trans ?_
   refine y1o (d:=x3j (i,jb f z C.B i)) rfl (x20 (q:=9) (y4m (x1e rfl (x20 (x3m (x1e rfl (x20 rfl)) rfl hj))) (by show 2<=1000;decide))) rfl hjl rfl)
  ⟨none,none,rfl⟩
 rw[x0s]at e
 exact⟨x,y,e⟩
end
theorem law_true(ns:List Int)(h63:ns.length<=63):∃ q,y7l [.lst (ns.map D.int)]=some (.bl true,q):=by
 obtain⟨n,f,L,hL⟩:=j03 ns 0 (JU 0)
 obtain⟨z,hz,bz⟩:=L.bot
 obtain⟨C,hC,hp5,hW7,hB3,eCt⟩:=y2s L hz bz ns 20 (by decide)
 have hp8:=hC.p8
 obtain⟨u,hu,eu⟩:=x9z L hz bz hC
 have hJ:=j2r L hz bz hC
 obtain⟨u',hu',eu'⟩:=x9z L hz bz hJ
 have euu:=z8m L hz bz hC hu hu'
 subst euu
 have j1:=x66 L hz bz hC
 have j2:=x66 L hz bz hJ
 rw[j2d L hz bz hC]at j2
 refine⟨9,?_⟩
 unfold y7l z8f
 refine x3o ?_
 show x16 _ _ [some (scr ns,0),none,none,none,none,none,none,none,none,none,none,none,none]=_
 refine(x0m (ρ1:=[some (scr ns,0),some (x0o n f,9),none,none,none,none,none,none,none,none,none,none,none]) (x38 (x3m (ds:=[scr ns,.int 0]) rfl rfl hL) rfl)).trans ?_
 refine(x0m (ρ1:=[some (scr ns,0),some (x0o n f,9),some (x06 n C,9),(none:OD),(none:OD),(none:OD),(none:OD),(none:OD),(none:OD),(none:OD),(none:OD),(none:OD),(none:OD)]) (x38 (x3m (ds:=[scr ns,.int 20,x0o n f,.bl false]) rfl rfl eCt) rfl)).trans ?_
 refine(x0m (ρ1:=[some (scr ns,0),some (x0o n f,9),some (x06 n C,9),some (x06 n (jC f z C),9),(none:OD),(none:OD),(none:OD),(none:OD),(none:OD),(none:OD),(none:OD),(none:OD),(none:OD)]) (x38 (x3m (ds:=[x0o n f,x06 n C]) rfl rfl j1) rfl)).trans ?_
 refine(x0m (ρ1:=[some (scr ns,0),some (x0o n f,9),some (x06 n C,9),some (x06 n (jC f z C),9),some (.lst ((x43 (pW C.W)).map prD),1),(none:OD),(none:OD),(none:OD),(none:OD),(none:OD),(none:OD),(none:OD),(none:OD)]) (x38 (z3j L hz bz hC ns _) rfl)).trans ?_
 refine(x0m (ρ1:=[some (scr ns,0),some (x0o n f,9),some (x06 n C,9),some (x06 n (jC f z C),9),some (.lst ((x43 (pW C.W)).map prD),1),some (.lst [],1),(none:OD),(none:OD),(none:OD),(none:OD),(none:OD),(none:OD),(none:OD)]) rfl).trans ?_
 obtain⟨a,b,c,d,e1⟩:=y94 L hz bz hC ns (x06 n (jC f z C))
 have hlen:((x43 (pW C.W)).map prD).length<=1000:=by
  rw[Qc]
  have h1:=y5t (x80 (pW C.W)) (fun x hx=>x3a.mp hx)
  have h2:(pW C.W).length=C.W.length:=Qc _
  omega
 refine(x0m ((x3g (ρ1:=[some (scr ns,0),some (x0o n f,9),some (x06 n C,9),some (x06 n (jC f z C),9),some (.lst ((x43 (pW C.W)).map prD),0),some (.lst [],1),(none:OD),(none:OD),(none:OD),(none:OD),(none:OD),(none:OD),(none:OD)]) (Qj hlen)).trans e1)).trans ?_
 generalize some ((.lst ((x43 (pW C.W)).map prD):D),0)=P
 refine(x0m (ρ1:=[some (scr ns,0),some (x0o n f,9),some (x06 n C,9),some (x06 n (jC f z C),9),P,some (.lst ((jW f z C.W).map (x21 n)),1),a,b,c,d,some (.lst [],1),(none:OD),(none:OD)]) rfl).trans ?_
 obtain⟨x,y,e2⟩:=z2t L hz bz hC ns (x06 n (jC f z C)) P (some (.lst ((jW f z C.W).map (x21 n)),1)) a b c d
 refine(x0m ((x3g (ρ1:=[some (scr ns,0),some (x0o n f,9),some (x06 n C,9),some (x06 n (jC f z C),9),P,some (.lst ((jW f z C.W).map (x21 n)),1),a,b,c,d,some (.lst [],1),(none:OD),(none:OD)]) (x6n (m:=C.p) (by omega) (q:=9) rfl)).trans e2)).trans ?_
 have hT:x54 (x01 (x1z 2 (eC (.int 0))) (x01 (x2g (x01 (x05 5) x0g)) (x01 (x2g (x01 (x05 10) x0g)) x0g))) [some (scr ns,0),some (x0o n f,9),some (x06 n C,9),some (x06 n (jC f z C),9),P,some (.lst ((jW f z C.W).map (x21 n)),1),a,b,c,d,some (.lst ((jB f z C.p C.B).map x3j),1),x,y]=some (x06 n (jC f z C),9,[some (scr ns,0),some (x0o n f,9),some (x06 n C,9),some (x06 n (jC f z C),9),P,some (.lst ((jW f z C.W).map (x21 n)),0),a,b,c,d,some (.lst ((jB f z C.p C.B).map x3j),0),x,y]):=
  y4m (x1e rfl (x1e (x37 (x20 rfl)) (x20 (x37 (x20 rfl))))) (by show 3<=1000;decide)
 refine(x0m ((z63 (x9d (y9y (fa:=x05 3) (q:=9) rfl hT (y9x n (jC f z C))))).trans rfl)).trans ?_
 have d1:dEq (.tup (x0h u')) (.tup (x0h u'))=some (.bl true):=(z9c u' u').trans (by rw[Qs rfl])
 have d2:=y91 n (jC f z C)
 simp[eu,eu',d1,j2,d2]
def A0 (K:PySem.W.Frag)(mg:Str->Option Value)(x:Str)(st:Stmt):Prop:=∃ f fd,Fun K x x st f fd/\mg x=some (.ref f)
theorem A0.mk{K:PySem.W.Frag}{mg:Str->Option Value}{x:Str}{f:Addr}{od an:Option Addr}{sl:Array (Option Value)}{oc kV dc pm cd ct:Value}(X:K.In h)(G:h.Ns mainGlobals mg)(a:PySem.W.nsIn K mainGlobals x=some (some (.ref f)))(l:K.lookup f=some ⟨oc,od,.func (PySem.W.fnOf x x (x5d st) (x2x st) (x0c st) .none kV dc pm an cd ct),sl⟩)(c:PySem.W.codeIn K cd x=true)(k:PySem.W.keepIn K (.ref f)=true):A0 K mg x st:=⟨_,_,z48 l c k,PySem.W.mg_of X G a⟩
theorem A0.at{K:PySem.W.Frag}{mg:Str->Option Value}{x:Str}{ps:List Str}(a:A0 K mg x st)(h:∀ (kV doc pm:Value) (an:Option Addr) (cdv ct:Value) (us:List Value),us.length=ps.length->bindArgs (PySem.W.fnOf x x (x5d st) (x2x st) (x0c st) .none kV doc pm an cdv ct) ⟨us,[]⟩=pure (ps.zip us)):At K mg x st ps:=by
 obtain⟨f,fd,F,m⟩:=a
 exact⟨f,fd,F,m,F.binds h⟩
theorem all_mk{l:PySem.W.OpenLaw}{w:World}{K:PySem.W.Frag}{mg:Str->Option Value}{fa:Addr}{f33:Addr}{od33 an33:Option Addr}{sl33:Array (Option Value)}{oc33 kV33 dc33 pm33 cd33 ct33:Value}(X:K.In h)(G:h.Ns mainGlobals mg)(hfa:mg "law" = some (.ref fa))
  (A1:A0 K mg "_law_cell" (top 27))
  (A2:A0 K mg "_law_pick" (top 28))
  (A3:A0 K mg "_law_chain" (top 29))
  (A4:A0 K mg "_law_couples" (top 30))
  (A5:A0 K mg "_law_side_by_side" (top 31))
  (A6:A0 K mg "_law_base" (top 32))
  (A7:A0 K mg "_law_ladder" (top 33))
  (A8:A0 K mg "_law_low" (top 34))
  (A9:A0 K mg "_law_join" (top 35))
  (A10:A0 K mg "_law_under" (top 36))
  (A11:A0 K mg "_law_rule" (top 37))
  (A12:A0 K mg "_law_spreads" (top 38))
  (A13:A0 K mg "_law_spread_rule" (top 39))
  (A14:A0 K mg "_law_chart" (top 40))
  (A15:A0 K mg "joined_rules" (top 11))
  (A16:A0 K mg "ways_joined" (top 14))
  (A17:A0 K mg "begins_joined" (top 15))
  (A18:A0 K mg "joined_ways" (top 13))
  (A19:A0 K mg "is_whole" (top 4))
  (A20:A0 K mg "is_number_of" (top 5))
  (A21:A0 K mg "is_named_number" (top 6))
  (A22:A0 K mg "is_step" (top 20))
  (A23:A0 K mg "refuse_no_step" (top 21))
  (A24:A0 K mg "place_and_worth" (top 22))
  (A25:A0 K mg "worths_behind" (top 23))
  (A26:A0 K mg "risen" (top 24))
  (A27:A0 K mg "row_of_least" (top 8))
  (A28:A0 K mg "least_of" (top 9))
  (A29:A0 K mg "lowest" (top 17))
  (A30:A0 K mg "least_by" (top 25))
  (A31:A0 K mg "all_steps" (top 19))
  (A32:A0 K mg "least" (top 18))
  (a33:PySem.W.nsIn K mainGlobals "law" = some (some (.ref f33))) (l33:K.lookup f33=some ⟨oc33,od33,.func (PySem.W.fnOf "law" "law" (x5d (top 41)) (x2x (top 41)) (x0c (top 41)) .none kV33 dc33 pm33 an33 cd33 ct33),sl33⟩) (c33:PySem.W.codeIn K cd33 "law" = true) (k33:PySem.W.keepIn K (.ref f33)=true)
  (z1:PySem.W.nsIn K mainGlobals "all" = some none) (z2:PySem.W.nsIn K mainGlobals "bool" = some none) (z3:PySem.W.nsIn K mainGlobals "int" = some none) (z4:PySem.W.nsIn K mainGlobals "isinstance" = some none) (z5:PySem.W.nsIn K mainGlobals "len" = some none) (z6:PySem.W.nsIn K mainGlobals "list" = some none) (z7:PySem.W.nsIn K mainGlobals "max" = some none) (z8:PySem.W.nsIn K mainGlobals "range" = some none) (z9:PySem.W.nsIn K mainGlobals "set" = some none) (z10:PySem.W.nsIn K mainGlobals "sorted" = some none) (z11:PySem.W.nsIn K mainGlobals "str" = some none) (z12:PySem.W.nsIn K mainGlobals "tuple" = some none) (z13:PySem.W.nsIn K mainGlobals "zip" = some none) :
  ∃ fd:FuncData,(∀ (s:Shared) (v:Value),BindsTo s fd ⟨[v],[]⟩ [("_law_script",v)])/\∀ base:Heap,K.In base->base.Ns mainGlobals mg->Lm K mg base->FnOk l.prog w K mg base CX0 8 fa fd ["_law_script"] (spD K 1 y7l):=by
 have e:=hfa.symm.trans (PySem.W.mg_of X G a33)
 cases e
 have B:Bt mg:=⟨Q7 X G z1,Q7 X G z2,Q7 X G z3,Q7 X G z4,Q7 X G z5,Q7 X G z6,Q7 X G z7,Q7 X G z8,Q7 X G z9,Q7 X G z10,Q7 X G z11,Q7 X G z12,Q7 X G z13⟩
 refine⟨PySem.W.fnOf "law" "law" (x5d (top 41)) (x2x (top 41)) (x0c (top 41)) .none kV33 dc33 pm33 an33 cd33 ct33,fun s v=>.of_eq rfl,fun base KX NG L=>?_⟩
 have D__law_cell:=y4s (P:=l.prog) (w:=w) (base:=base) B (A1.at fun _ _ _ _ _ _ _ h=>by obtain⟨_,_,rfl⟩:=L3.j3p h;rfl)
 have D__law_pick:=y4b B D__law_cell (A2.at fun _ _ _ _ _ _ _ h=>by obtain⟨_,_,_,rfl⟩:=L3.j3q h;rfl)
 have D__law_chain:=y3e (P:=l.prog) (w:=w) (base:=base) B (A3.at fun _ _ _ _ _ _ _ h=>by obtain⟨_,rfl⟩:=L3.j08 h;rfl)
 have D__law_couples:=y0q (P:=l.prog) (w:=w) (base:=base) B (A4.at fun _ _ _ _ _ _ _ h=>by obtain⟨_,_,rfl⟩:=L3.j3p h;rfl)
 have D__law_side_by_side:=x6d (P:=l.prog) (w:=w) (base:=base) B (A5.at fun _ _ _ _ _ _ _ h=>by obtain⟨_,rfl⟩:=L3.j08 h;rfl)
 have D__law_base:=y4v B D__law_pick D__law_chain D__law_couples D__law_side_by_side (A6.at fun _ _ _ _ _ _ _ h=>by obtain⟨_,_,rfl⟩:=L3.j3p h;rfl)
 have D__law_ladder:=y28 B D__law_base D__law_pick (A7.at fun _ _ _ _ _ _ _ h=>by obtain⟨_,_,rfl⟩:=L3.j3p h;rfl)
 have D__law_low:=y6w (P:=l.prog) (w:=w) (base:=base) B (A8.at fun _ _ _ _ _ _ _ h=>by obtain⟨_,rfl⟩:=L3.j08 h;rfl)
 have D__law_join:=y4e B D__law_low (A9.at fun _ _ _ _ _ _ _ h=>by obtain⟨_,_,rfl⟩:=L3.j3p h;rfl)
 have D__law_under:=y3v (P:=l.prog) (w:=w) (base:=base) B (A10.at fun _ _ _ _ _ _ _ h=>by obtain⟨_,_,rfl⟩:=L3.j3p h;rfl)
 have D__law_rule:=y4u B D__law_low D__law_pick D__law_join D__law_under (A11.at fun _ _ _ _ _ _ _ h=>by obtain⟨_,_,_,rfl⟩:=L3.j3q h;rfl)
 have D__law_spreads:=y0n (P:=l.prog) (w:=w) (base:=base) B (A12.at fun _ _ _ _ _ _ _ h=>by obtain⟨_,_,rfl⟩:=L3.j3p h;rfl)
 have D__law_spread_rule:=x7a B D__law_rule D__law_spreads D__law_pick (A13.at fun _ _ _ _ _ _ _ h=>by obtain⟨_,_,_,rfl⟩:=L3.j3q h;rfl)
 have D__law_chart:=y3k B D__law_pick D__law_rule D__law_spread_rule (A14.at fun _ _ _ _ _ _ _ h=>by obtain⟨_,_,_,_,rfl⟩:=L3.j4i h;rfl)
 have D_joined_rules:=y0p (P:=l.prog) (w:=w) (base:=base) B (A15.at fun _ _ _ _ _ _ _ h=>by obtain⟨_,_,_,rfl⟩:=L3.j3q h;rfl)
 have D_ways_joined:=y2d B D_joined_rules (A16.at fun _ _ _ _ _ _ _ h=>by obtain⟨_,_,rfl⟩:=L3.j3p h;rfl)
 have D_begins_joined:=x9p (P:=l.prog) (w:=w) (base:=base) B (A17.at fun _ _ _ _ _ _ _ h=>by obtain⟨_,_,rfl⟩:=L3.j3p h;rfl)
 have D_joined_ways:=y1u B D_ways_joined D_begins_joined (A18.at fun _ _ _ _ _ _ _ h=>by obtain⟨_,_,rfl⟩:=L3.j3p h;rfl)
 have D_is_whole:=y72 (P:=l.prog) (w:=w) (base:=base) B (A19.at fun _ _ _ _ _ _ _ h=>by obtain⟨_,rfl⟩:=L3.j08 h;rfl)
 have D_is_number_of:=y0c B D_is_whole (A20.at fun _ _ _ _ _ _ _ h=>by obtain⟨_,_,rfl⟩:=L3.j3p h;rfl)
 have D_is_named_number:=x81 B D_is_number_of (A21.at fun _ _ _ _ _ _ _ h=>by obtain⟨_,_,rfl⟩:=L3.j3p h;rfl)
 have D_is_step:=z0l B D_is_named_number (A22.at fun _ _ _ _ _ _ _ h=>by obtain⟨_,_,rfl⟩:=L3.j3p h;rfl)
 have D_refuse_no_step:=x8q B D_is_step (A23.at fun _ _ _ _ _ _ _ h=>by obtain⟨_,_,rfl⟩:=L3.j3p h;rfl)
 have D_place_and_worth:=x7u (P:=l.prog) (w:=w) (base:=base) B (A24.at fun _ _ _ _ _ _ _ h=>by obtain⟨_,_,_,rfl⟩:=L3.j3q h;rfl)
 have D_worths_behind:=y08 B D_place_and_worth (A25.at fun _ _ _ _ _ _ _ h=>by obtain⟨_,_,_,_,rfl⟩:=L3.j4i h;rfl)
 have D_risen:=z6y B D_worths_behind (A26.at fun _ _ _ _ _ _ _ h=>by obtain⟨_,_,_,_,rfl⟩:=L3.j4i h;rfl)
 have D_row_of_least:=y0f (P:=l.prog) (w:=w) (base:=base) B (A27.at fun _ _ _ _ _ _ _ h=>by obtain⟨_,rfl⟩:=L3.j08 h;rfl)
 have D_least_of:=y7h B D_row_of_least (A28.at fun _ _ _ _ _ _ _ h=>by obtain⟨_,rfl⟩:=L3.j08 h;rfl)
 have D_lowest:=z1s B D_least_of (A29.at fun _ _ _ _ _ _ _ h=>by obtain⟨_,_,rfl⟩:=L3.j3p h;rfl)
 have D_least_by:=y71 B D_refuse_no_step D_risen D_lowest (A30.at fun _ _ _ _ _ _ _ h=>by obtain⟨_,_,_,rfl⟩:=L3.j3q h;rfl)
 have D_all_steps:=y4k (P:=l.prog) (w:=w) (base:=base) B (A31.at fun _ _ _ _ _ _ _ h=>by obtain⟨_,rfl⟩:=L3.j08 h;rfl)
 have D_least:=z5s B D_least_by D_all_steps (A32.at fun _ _ _ _ _ _ _ h=>by obtain⟨_,_,rfl⟩:=L3.j3p h;rfl)
 exact z6n B D__law_ladder D__law_chart D_joined_ways D_joined_rules D__law_join D_least (z48 (st:=top 41) l33 c33 k33)
theorem walk{l:PySem.W.OpenLaw}{q:Program}{loose:List Str}{XP:(Str->Option Value)->Heap->Prop}{YP:World->Heap->Prop}{d:DefRec}{K:Params->PySem.W.Frag}(hn:l.most=some 63)(hdf:d.params.defaults=[])
  (hY:∀ (w:World) (h:Heap),YP w h->(K w.params).In h)
  (F:∀ (w:World) (mg:Str->Option Value) (fa:Addr) (h:Heap),(K w.params).In h->h.Ns mainGlobals mg->mg d.name=some (.ref fa)->j1c q (K w.params)/\PySem.W.noTabs (K w.params)=true /\
    ∃ fd:FuncData,(∀ (s:Shared) (u:Value),BindsTo s fd ⟨[u],[]⟩ [("_law_script",u)])/\∀ base:Heap,(K w.params).In base->base.Ns mainGlobals mg->Lm (K w.params) mg base->FnOk l.prog w (K w.params) mg base CX0 8 fa fd ["_law_script"] (spD (K w.params) 1 y7l)) :
  PySem.W.WalkO q loose XP YP l.row.toRowW d [] (fun f vs=>PySem.call f vs):=
 z3h (n:=63) (k:=8) (x:="_law_script") (CX:=fun _=>CX0) (sp:=fun w=>spD (K w.params) 1 y7l) hn (by decide) hdf ⟨rfl,by decide,by decide⟩ hY F (fun _ _ a ns hl tb hS=>j0a law_true hl hS tb) fun _ _ _ _ _ z=>z
end My
namespace PySem.W.Fast
def tw10129820175586007917:=0
def tw10175525833111134195:=0
def tw10187039162658685254:=0
def tw10188067858490472809:=0
def tw10281065429352619788:=0
def tw10289319026460444468:=0
def tw10368245658019076061:=0
def tw10500888161214036619:=0
def tw10537023381291195037:=0
def tw10606803087290651301:=0
def tw10664866902302880204:=0
def tw10722884762292737789:=0
def tw1073027645776204432:=0
def tw10801732733939655384:=0
def tw1090164665475746371:=0
def tw10949083571369081698:=0
def tw10952757622356282927:=0
def tw10967570332549643622:=0
def tw10974713582029419957:=0
def tw11041968991715874033:=0
def tw11102945893791888602:=0
def tw11279338649595613226:=0
def tw11485159707695162734:=0
def tw11534928116566478258:=0
def tw11642601954894290035:=0
def tw1165055402206704952:=0
def tw11680217162357956252:=0
def tw11694738851755256692:=0
def tw11727149633653211799:=0
def tw11761851667784829144:=0
def tw11806313348316385600:=0
def tw1183054276888776141:=0
def tw1195789110797204856:=0
def tw12084428651841201299:=0
def tw1210560964260304312:=0
def tw12218186111228250479:=0
def tw12218413100141859014:=0
def tw12236827434088707191:=0
def tw1229535906581206990:=0
def tw123067319574161864:=0
def tw12407318958431041486:=0
def tw12425228120855410142:=0
def tw12458206107003785882:=0
def tw12650376174945169978:=0
def tw12831606193975563746:=0
def tw12886575083512625738:=0
def tw12891442938125804875:=0
def tw12941441758234745447:=0
def tw12973262205415366935:=0
def tw13040628565717109423:=0
def tw13080326666795004753:=0
def tw13128285223251719431:=0
def tw13161370733725664228:=0
def tw13433432307333346251:=0
def tw13511545102244585479:=0
def tw13563641800400400410:=0
def tw13606368690957465329:=0
def tw13673286954388166011:=0
def tw13753562344271137922:=0
def tw13821328166114555773:=0
def tw13880945992322017077:=0
def tw13926541350020544009:=0
def tw13939942160837518052:=0
def tw1395211786700400096:=0
def tw14002230615652813981:=0
def tw14052321857595903011:=0
def tw14064370270231591849:=0
def tw14212587276892947038:=0
def tw14345168060360499674:=0
def tw14420970366763392194:=0
def tw14447137101171551938:=0
def tw14457684848566644134:=0
def tw14507652677216062974:=0
def tw1459582754400603302:=0
def tw14759604094851281830:=0
def tw14759803045860614354:=0
def tw14763922659779479763:=0
def tw1496266694295876767:=0
def tw14985230974796547981:=0
def tw15040697593178067673:=0
def tw15096676589923236740:=0
def tw15182379903222592873:=0
def tw1528571557404545323:=0
def tw15285905415913089108:=0
def tw15292302264039474633:=0
def tw1531358448045508952:=0
def tw15395501453277092011:=0
def tw15554115468190278940:=0
def tw15666167983631847659:=0
def tw15682591755320598027:=0
def tw15684999891250424062:=0
def tw15805091634356898323:=0
def tw15824869697761358102:=0
def tw15922055022009639523:=0
def tw15927713148534080753:=0
def tw16045613680237925689:=0
def tw1612850770028738357:=0
def tw16392361666309532036:=0
def tw16501485862152327612:=0
def tw16605464432720530757:=0
def tw16700994092105961945:=0
def tw16839214960857599966:=0
def tw17035477508839261115:=0
def tw17204169026152606370:=0
def tw17242118747756044970:=0
def tw17370137989274303787:=0
def tw17427023037559981990:=0
def tw17582684706674591353:=0
def tw17643342393621694254:=0
def tw17679226582273191016:=0
def tw17691299976201222830:=0
def tw1771272991124910997:=0
def tw17773436949027593323:=0
def tw17941396126539319395:=0
def tw1795504463041192479:=0
def tw18070557913681879245:=0
def tw18114619645019291992:=0
def tw18122299466271906206:=0
def tw18294813475842804003:=0
def tw18423647112106931373:=0
def tw1932587292767265174:=0
def tw1961116923453544055:=0
def tw1978740036185965845:=0
def tw2017244244129395962:=0
def tw2092882394099817303:=0
def tw2106877731793783491:=0
def tw2203212334411988553:=0
def tw2234716373174984957:=0
def tw227196185101093191:=0
def tw2342898875408184983:=0
def tw2440398265099025437:=0
def tw2555988092419342515:=0
def tw2645837445454071978:=0
def tw2752506356496340617:=0
def tw288761495258543880:=0
def tw2988846589808857435:=0
def tw3051918105751494042:=0
def tw3083055229227573085:=0
def tw3118024834657747940:=0
def tw3126002519833746595:=0
def tw3341082789511400178:=0
def tw3426090958256930854:=0
def tw3433126118465384606:=0
def tw3563396857928123146:=0
def tw363998085819508653:=0
def tw3655899395544706011:=0
def tw3677946953015226657:=0
def tw3782183964507649065:=0
def tw3900584529239106146:=0
def tw3921235175133171958:=0
def tw3930635697311554260:=0
def tw3974805666119102264:=0
def tw4146405106950347088:=0
def tw4151495992969194458:=0
def tw422593212999743472:=0
def tw4244922394662476483:=0
def tw4261659968398307286:=0
def tw4263703532208051905:=0
def tw4673776656824741127:=0
def tw473468635861815216:=0
def tw4766090976037593878:=0
def tw486159391827494444:=0
def tw4865117071824984660:=0
def tw4920278625764737186:=0
def tw5038606616850979411:=0
def tw5077004326415804628:=0
def tw5136179872815980853:=0
def tw5149170440203579819:=0
def tw5159422263197661469:=0
def tw5180701179534640370:=0
def tw5270526108424138502:=0
def tw532152968401386874:=0
def tw5368246469967566459:=0
def tw5435336776358854155:=0
def tw5577916424546670356:=0
def tw5667514124904422374:=0
def tw5760317319267989313:=0
def tw5764586672679366236:=0
def tw5847027962289191519:=0
def tw5872818663029332277:=0
def tw5972031713901404976:=0
def tw6008839344141421783:=0
def tw6015246179239313768:=0
def tw6017234873416025675:=0
def tw6048880254171778557:=0
def tw6055280693709890089:=0
def tw6112999734844748814:=0
def tw614191866949939895:=0
def tw6216282484447920059:=0
def tw6219072085286464150:=0
def tw6391914466990297177:=0
def tw6427388955209652347:=0
def tw6466730534542675722:=0
def tw6530564160120091608:=0
def tw6531512813403220765:=0
def tw6782555788725548637:=0
def tw7121741334387391030:=0
def tw7300666584297427799:=0
def tw7313678501489781645:=0
def tw7325775017588087610:=0
def tw7596808250547036898:=0
def tw7654227371210257200:=0
def tw8129866128759845884:=0
def tw8182494098193508214:=0
def tw8254133062957817981:=0
def tw8259233216377401485:=0
def tw8362234050763702707:=0
def tw8388360178882218188:=0
def tw8503154927042106950:=0
def tw8530971356830290425:=0
def tw8593035511953792897:=0
def tw8606873699830637837:=0
def tw8685618432252921002:=0
def tw8746753494319736651:=0
def tw9026683868802479956:=0
def tw9097160838167170510:=0
def tw9182487257449059551:=0
def tw9252138212056818294:=0
def tw9382403695829875320:=0
def tw9420653535320867394:=0
def tw9428305257687388672:=0
def tw9437882171793036696:=0
def tw9442477425328050443:=0
def tw9659978779732022778:=0
def tw9904118727036666501:=0
def tw9906365915011285360:=0
end PySem.W.Fast
open PySem PySem.W PyProof.Rows
set_option maxRecDepth 100000 in
set_option maxHeartbeats 0 in
theorem PySem.Challenge.cw_ladderhall_k71_whole_joined_ways_holds : PySem.Challenge.rw_ladderhall_k71_whole_joined_ways.Holds := by
  w_on; o_law; k_head; (case hw => w_witness2)
  k_fill
  refine My.walk (l := PySem.Challenge.rw_ladderhall_k71_whole_joined_ways) rfl rfl (fun w h Y => PySem.W.kIn_of Y) ?F
  case F =>
    intro w mg fa h KX G hmg
    refine' ⟨L3.j1c.of ?r1 ?r2 ?r3 ?r4 ?r5 ?r6, ?nt, ?al⟩
    (case r1 => refine' .inr (L3.j15 ?_); k_is)
    (case r2 => refine' .inr (L3.j15 ?_); k_is)
    (case r3 => refine' .inr (L3.j15 ?_); k_is)
    (case r4 => refine' .inr (L3.j15 ?_); k_is)
    (case r5 => refine' .inr (L3.j15 ?_); k_is)
    (case r6 => refine' .inr (L3.j15 ?_); k_is)
    (case nt => kernel_rfl)
    refine' My.all_mk KX G hmg ?A1 ?A2 ?A3 ?A4 ?A5 ?A6 ?A7 ?A8 ?A9 ?A10 ?A11 ?A12 ?A13 ?A14 ?A15 ?A16 ?A17 ?A18 ?A19 ?A20 ?A21 ?A22 ?A23 ?A24 ?A25 ?A26 ?A27 ?A28 ?A29 ?A30 ?A31 ?A32 ?a33 ?l33 ?c33 ?k33 ?z1 ?z2 ?z3 ?z4 ?z5 ?z6 ?z7 ?z8 ?z9 ?z10 ?z11 ?z12 ?z13
    (case A1 | A2 | A3 | A4 | A5 | A6 | A7 | A8 | A9 | A10 | A11 | A12 | A13 | A14 | A15 | A16 | A17 | A18 | A19 | A20 | A21 | A22 | A23 | A24 | A25 | A26 | A27 | A28 | A29 | A30 | A31 | A32 => refine' My.A0.mk KX G ?a ?l ?c ?k; (case a => k_is); (case l => k_is); (case c => k_is); (case k => k_is))
    (case a33 => k_is)
    (case l33 => k_is)
    (case c33 => k_is)
    (case k33 => k_is)
    (case z1 => k_is)
    (case z2 => k_is)
    (case z3 => k_is)
    (case z4 => k_is)
    (case z5 => k_is)
    (case z6 => k_is)
    (case z7 => k_is)
    (case z8 => k_is)
    (case z9 => k_is)
    (case z10 => k_is)
    (case z11 => k_is)
    (case z12 => k_is)
    (case z13 => k_is)
