import PyProof.Rows.All
import Wide.All
import OpenK.AllK
import Wide.FinOn
import Lean
import PyProof.EqAt
import PyProof.EqKinds
import PyProof.TupleCall
import KE.KIsNot
import PyProof.ExcArgs
import OpenK.KOwn
import KE.LcSums
import PyProof.EnumMake
import PyProof.Draws
import PyProof.Rows.EnumRows
import PyProof.ExcBaseAll.ValueError
import PyProof.NsDelKeeps
import PyProof.Rows.SetFrom
import PyProof.WalksMore
import KE.KDictSum
import PyProof.Rows.MinMaxN
import PyProof.Rows.CallKwBuiltin
import KE.KMinKey
import KE.KSortKey
import PyProof.DictWalks
import PySem.SetOps
import PyProof.TupleKey
import PyProof.SetKind
import PyProof.IsRules
import PyProof.Rules
import PyProof.DictKinds
import KE.KSortAsk
import KE.KSortTup
import PyProof.PureInt
import PyProof.DictIter
import KE.KItemsList
import PyProof.DictUpdate
import PyProof.DictRoadsH
import PySem.Challenge.RW_ladderhall_k40_states
set_option Elab.async false
set_option linter.all false
set_option maxRecDepth 100000
set_option maxHeartbeats 0
noncomputable section
def Qa:=@PySem.wpAny_bind
def Qb:=@List.getElem?_eq_getElem
def Qc:=@PySem.wpAny_pure
def Qd:=@PySem.Heap.get?_push_of_some
def Qe:=@List.length_map
def Qf:=@List.getD_eq_getElem?_getD
def Qg:=@Nat.le_refl
def Qh:=@List.mem_cons_of_mem
def Qi:=@if_pos
def Qj:=@if_neg
def Qk:=@List.mem_cons_self
def Ql:=@List.getElem?_map
def Qm:=@PySem.Heap.lt_size
def Qn:=@List.size_toArray
def Qo:=@List.length_append
def Qp:=@PySem.Heap.get?_push_size
def Qq:=@List.mem_append_right
def Qr:=@List.getElem?_eq_some_iff
def Qs:=@Nat.lt_of_lt_of_le
def Qt:=@List.mem_cons
def Qu:=@Bool.false_eq_true
def Qv:=@List.mem_singleton
def Qw:=@Option.map_eq_some_iff
def Qx:=@List.mem_map
def Qy:=@decide_eq_true
def Qz:=@Nat.ne_of_lt
def QA:=@List.mem_append_left
def QB:=@List.mem_of_getElem?
def QC:=@Option.some.inj
def QF:=@List.mem_append
def QG:=@List.not_mem_nil
def QH:=@Array.length_toList
def QI:=@Array.getD_eq_getD_getElem?
def QJ:=@List.mem_range
def QK:=@List.map_cons
def QL:=@List.getElem?_set_self
def QM:=@List.getElem?_set_ne
def QN:=@List.length_set
def QO:=@PySem.PassesOwn.never
def QP:=@List.length_range
def QR:=@PySem.SeqAt.canLay_of_shaped
def QS:=@Nat.zero_le
def QT:=@PySem.Heap.SameBut.update
def QU:=@Nat.le_trans
def QV:=@Array.getElem?_toList
def QW:=@decide_eq_false
def QX:=@PySem.F.called_set
def QY:=@PySem.mem_of_lookup
def QZ:=@PySem.wpAny_holding
def Q0:=@List.getElem?_append_left
def Q1:=@Array.getElem?_eq_getElem
def Q2:=@List.getElem?_eq_none
def Q3:=@PySem.wpAny_call_entry
def Q4:=@List.getElem_mem
def Q5:=@List.map_congr_left
def Q6:=@Nat.lt_irrefl
def Q7:=@List.map_map
def Q8:=@of_decide_eq_true
def Q9:=@List.nodup_cons
def Za:=@Nat.not_lt_zero
def Zb:=@List.map_append
def Zc:=@Bool.and_eq_true_iff
def Zd:=@PySem.wpAny_newObj_type
def Ze:=@Bool.false_ne_true
def Zf:=@List.getElem_of_mem
def Zg:=@PyProof.Rows.F.plain_set_update_loop
def Zh:=@List.length_cons
def Zi:=@Nat.lt_succ_of_lt
def Zj:=@PySem.W.mg_none_of
def Zk:=@PySem.Heap.get?_update_self
def Zl:=@PySem.W.mg_of
def Zm:=@List.length_take
def Zn:=@Nat.lt_succ_self
def Zo:=@Array.getElem?_eq_none
def Zp:=@if_false
def Zq:=@List.getElem?_range
def Zr:=@List.mem_filter
def Zs:=@PySem.W.kia_one
def Zt:=@List.getElem?_append_right
def Zu:=@List.lookup_cons
def Zv:=@PySem.wpAny_callSpecial?_slot
def Zw:=@PyProof.Rows.boot_tuple
def Zx:=@decide_eq_true_eq
def Zy:=@PySem.Heap.get?_update_other
def Zz:=@PySem.F.slot_dict_keyiterator_next
def ZA:=@PySem.codeAny_builtin
def ZB:=@PySem.wpAny_mono
def ZC:=@List.getElem?_cons_succ
def ZD:=@if_true
def ZE:=@beq_iff_eq
def ZF:=@PySem.Around.under_plainId
def ZG:=@PyProof.Rows.F.entry_set_update_loop
def ZH:=@List.append_assoc
def ZI:=@List.ext_getElem?
def ZJ:=@PySem.wpAny_setState_of
def ZK:=@List.length_replicate
def ZL:=@List.length_filter_le
def ZM:=@PySem.Heap.size_push
def ZN:=@Nat.le_of_lt
def ZO:=@List.append_nil
def ZP:=@Nat.lt_of_le_of_lt
def ZQ:=@List.length_eq_zero_iff
def ZR:=@PyProof.Rows.callWith_type1
def ZS:=@Bool.not_true
def ZT:=@PySem.wpAny_truthy_bool
def ZU:=@PySem.wpAny_dictEntries
def ZV:=@PyProof.Rows.boot_list
def ZW:=@List.replicate_succ
def ZX:=@PyProof.Rows.get?_update_seq
def ZY:=@Bool.and_eq_true
def ZZ:=@List.take_length
def Z0:=@List.getElem?_take_of_lt
def Z1:=@PySem.sizeLine_eq
def Z2:=@PySem.codeAny_call_builtin
def Z3:=@PySem.wpAny_typeNameOfWhole_keyiter
def Z4:=@List.getElem?_replicate
def Z5:=@PySem.F.plainAttrs_list
def Z6:=@List.take_add_one
def Z7:=@List.length_zip
def Z8:=@beq_eq_false_iff_ne
def Z9:=@List.length_pos_iff
def Ja:=@beq_self_eq_true
def Jb:=@congrArg
def Jc:=@PySem.F.slot_tuple_iterator_next
def Jd:=@Array.getElem?_eq_some_iff
def Je:=@List.getElem?_toArray
def Jf:=@List.findIdx?_eq_some_iff_getElem
def Jg:=@List.pairwise_iff_getElem
def Jh:=@PySem.Calls.call_function_entry
def Ji:=@PySem.wpAny_passesOwn
def Jj:=@List.length_nil
def Jk:=@Ne.symm
def Jl:=@PySem.codeAny_mono
def Jm:=@List.flatten_cons
def Jn:=@Nat.le_succ
def Jo:=@List.nodup_append
def Jp:=@PySem.Paired.length
def Jq:=@Option.isSome_iff_exists
def Jr:=@PySem.call_meets
def Js:=@PySem.wpAny_attempt
def Jt:=@List.filterMap_cons_some
def Ju:=@List.filterMap_cons
def Jv:=@PyProof.Rows.room_in_shaped
def Jw:=@decide_eq_decide
def Jx:=@PySem.Calls.spliced_cons
def Jy:=@PySem.W.cellsFrom_some
def Jz:=@PySem.tupleKind_room_in1
def JA:=@PySem.wpAny_pyIter_tuple
def JB:=@Nat.succ_pos
def JC:=@Nat.min_self
def JD:=@Nat.succ.inj
def JE:=@List.find?_cons
def JF:=@Option.map_some
def JG:=@PyProof.Rows.boot_isinstance
def JH:=@List.any_cons
def JI:=@PySem.builtinLookup_eq_fast
def JJ:=@PySem.F.plain_set_new
def JK:=@PySem.F.slot_set_iter
def JL:=@PySem.F.typeOf_object_class
def JM:=@bne_self_eq_false
def JN:=@PySem.wpAny_pyIter_slot
def JO:=@List.pairwise_map
def JP:=@List.foldl_append
def JQ:=@PySem.Calls.evalArgs_plain
def JR:=@List.nodup_nil
def JS:=@Std.Legacy.Range.forIn_eq_forIn_range'
def JT:=@PySem.wpAny_fieldsOf
def JU:=@PySem.W.kdl_size
def JV:=@PySem.Obj.data_mapDictKeys
def JW:=@List.mem_of_mem_take
def JX:=@List.length_drop
def JY:=@PySem.wpAny_forIn_list
def JZ:=@PySem.wpAny_askSetting
def J0:=@PySem.wpAny_isInstance
def J1:=@Nat.lt_or_ge
def J2:=@Int.toNat_of_nonneg
def J4:=@List.map_eq_nil_iff
def J6:=@List.mergeSort_perm
def J9:=@PySem.F.args_dict_keyiterator_next_1
def Ya:=@List.length_erase_of_mem
def Yb:=@List.filterMap_cons_none
def Yc:=@PySem.F.entry_dict_keyiterator_next
def Yd:=@PySem.wpAny_execs_nil
def Ye:=@PySem.pushCells_keeps
def Yf:=@PySem.wpAny_dictEpoch
def Yg:=@List.mem_filterMap
def Yh:=@PySem.wpAny_Call_Name_kw
def Yi:=@PySem.Code.quiet_builtin
def Yj:=@PySem.Obj.data_mapFields
def Yk:=@List.zip_cons_cons
def Yl:=@List.pairwise_mergeSort
def Ym:=@PySem.Value.isInt_shape
def Yn:=@PySem.Calls.spliced_nil
def Yo:=@PySem.Calls.callWith_builtin
def Yp:=@PySem.isSubtype_type
def Yq:=@Int.toNat_natCast
def Yr:=@Nat.zero_add
def Ys:=@List.length_pos_of_mem
def Yt:=@PySem.wpAny_storeSet_of
def Yu:=@PySem.F.slot_dict_iter
def Yv:=@List.take_append_drop
def Yw:=@List.contains_iff_mem
def Yx:=@List.getElem?_zipWith
def Yy:=@PySem.wpAny_notOrdered_dict
def Yz:=@PySem.wpAny_execs_cons
def YA:=@List.all_eq_true
def YB:=@PySem.wpAny_rule
def YC:=@Nat.le_add_right
def YD:=@List.range'_succ
def YE:=@PySem.F.slot_tuple_mul
def YF:=@List.nodup_range
def YG:=@PySem.putSet_of
def YH:=@PySem.intKind_is
def YI:=@List.mem_flatMap
def YJ:=@PySem.W.Looks.of_pure
def YK:=@PySem.plainId_quiet
def YL:=@PySem.wpAny_newList
def YM:=@Array.mem_toList_iff
def YN:=@PySem.wpAny_of_eq
def YO:=@or_false
def YQ:=@Nat.exists_eq_succ_of_ne_zero
def YR:=@List.mem_erase_of_ne
def YS:=@Int.le_refl
def YT:=@List.of_mem_zip
def YU:=@PySem.F.slot_int_rmul
def YV:=@PySem.wpAny_specialOf
def YW:=@PySem.typeLookup_type
def YX:=@Nat.le_antisymm
def YY:=@PySem.F.args_tuple_iterator_next_1
def YZ:=@PySem.codeAny_of_tree
def Y0:=@Nat.lt_succ_iff
def Y1:=@PyProof.Rows.entry_list_sort
def Y2:=@PySem.size_of_entries
def Y3:=@PySem.F.slot_dict_setdefault
def Y4:=@List.range_succ
def Y5:=@List.mem_zipIdx_iff_getElem?
def Y6:=@PySem.F.slot_gs_get
def Y7:=@PySem.Obj.isFreed_of_dict
def Y8:=@Nat.ne_of_gt
def Y9:=@Nat.mul_comm
def Va:=@Nat.lt_trans
def Vb:=@PySem.F.entry_tuple_iterator_next
def Vc:=@List.idxOf_lt_length_of_mem
def Vd:=@PySem.Calls.Name_function_global
def Ve:=@PySem.wpAny_call
def Vf:=@PySem.F.excAttr_ValueError
def Vg:=@List.getElem?_take_eq_none
def Vh:=@PySem.SeqAt.readsAll_map
def Vi:=@PySem.wpAny_seqItems
def Vj:=@PySem.wpAny_setField
def Vk:=@PySem.F.excBase_ValueError
def Vl:=@List.length_zipIdx
def Vm:=@Array.ext'
def Vn:=@PySem.F.sub_list_frozenset
def Vo:=@Nat.add_sub_cancel
def Vq:=@Array.perm_iff_toList_perm
def Vr:=@PyProof.Rows.slot_list_sort
def Vs:=@PyProof.Rows.args_list_sort
def Vt:=@Int.natCast_nonneg
def Vu:=@Int.emod_lt_of_pos
def Vv:=@Nat.mul_le_mul
def Vw:=@PySem.wpAny_binaryOp_repeat_ref
def Vx:=@List.drop_eq_getElem_cons
def Vy:=@List.ne_nil_of_length_pos
def Vz:=@PySem.W.kitx_list
def VA:=@PySem.wpAny_pyIter_list
def VB:=@Array.getElem_mem
def VC:=@PySem.Heap.SameBut.refl
def VD:=@PySem.F.slot_tuple_index
def VE:=@PySem.wpAny_handled
def VF:=@Array.size_setIfInBounds
def VG:=@Bool.true_and
def VH:=@PySem.F.slot_dict_update
def VI:=@PySem.wpAny_eqBool_int
def VJ:=@Nat.succ_le_succ
def VL:=@PySem.isinstance_outer
def VM:=@PySem.SeqAt.items_eqAt
def VN:=@PySem.F.slot_list_count
def VO:=@PySem.F.slot_list_index
def VP:=@Nat.div_eq_of_lt
def VQ:=@Array.toList_map
def VR:=@PySem.F.entry_type_call
def VS:=@PySem.F.args_set_iter_1
def VT:=@List.map_fst_zip
def VU:=@PySem.F.plainAttrs_dict
def VV:=@PySem.typeIs_int
def VW:=@Nat.not_lt
def VX:=@PySem.wpAny_typeOf
def VY:=@Nat.mod_lt
def VZ:=@List.take_of_length_le
def V0:=@Array.toList_filterMap
def V1:=@PySem.F.typeCall_set_1
def V2:=@PySem.F.entry_set_init
def V3:=@Int.le_trans
def V4:=@List.foldl_cons
def V5:=@Bool.or_eq_true
def V6:=@PySem.call_isinstance
def V7:=@List.zip_append
def V8:=@Array.Perm.refl
def V9:=@Int.emod_nonneg
def Ua:=@PySem.F.newCall_set_1
def Ub:=@PySem.F.entry_set_new
def Uc:=@List.Perm.append_left
def Ud:=@PyProof.Rows.boot_max
def Ue:=@Bool.and_false
def Uf:=@PySem.W.looks_subIn
def Ug:=@List.range_eq_range'
def Uh:=@PySem.wpAny_runValue
def Ui:=@PySem.wpAny_field
def Uj:=@PySem.wpAny_throw
def Uk:=@List.length_eraseIdx
def Ul:=@Bool.not_false
def Um:=@Array.getElem_of_mem
def Uo:=@PySem.F.sub_list_set
def Uq:=@PySem.isSubtype_stop
def Ur:=@List.Perm.refl
def Us:=@dif_pos
def Ut:=@Nat.add_one_ne_zero
def Uu:=@Bool.and_true
def Uv:=@Int.ofNat.inj
def Uw:=@Nat.succ_add
def Ux:=@Nat.sub_self
def Uy:=@Int.le_total
def Uz:=@Bool.or_true
namespace L2
open PySem PySem.Spec PyProof.Rows
variable {A:Around}{C a b dx it:Addr}{E:Value->Shared->Prop}{K:PySem.W.Frag}{M:Model}{N ps:List Str}{P:Program}{Q:Unit->Shared->Prop}{base h:Heap}{body:List Stmt}{c tg:Expr}{es:List Expr}{f:Value->Value->Sem Value}{fp:List Addr}{g:Int->Int->Int}{i j n:Nat}{kindOf:Str->Option NameKind}{mA mg:Str->Option Value}{o:Obj}{op kA:CmpOp}{pins:List (Addr×Obj)}{qual x:Str}{s s':Shared}{sc scope:Scope}{u v:Value}{us:List Value}{w:World}
abbrev Key:=Sum Int Str
def sZ:Key->Value->Bool
 | .inl k,v=>Value.isInt k v
 | .inr x,v=>Value.isStrOf x v
def K8 (w:World):Key->Int
 | .inl k=>hashInt k
 | .inr x=>hashStr w x
def nZ:∀ {k:Key} {v:Value},sZ k v=true->(∃ i t,k=Sum.inl i/\v=Value.int i t)\/(∃ x t,k=Sum.inr x/\v=Value.str x t)
 | .inl i,v,h=>by
  obtain⟨t,e⟩:=Ym (k:=i) (v:=v) h
  exact .inl ⟨i,t,rfl,e⟩
 | .inr x,v,h=>by
  obtain⟨t,e⟩:=Value.isStrOf_shape (x:=x) (v:=v) h
  exact .inr ⟨x,t,rfl,e⟩
def K9(i:Int)(t:Tok):sZ (.inl i) (.int i t)=true:=by simp[sZ,Value.isInt]
def K_(x:Str)(t:Tok):sZ (.inr x) (.str x t)=true:=by simp[sZ,Value.isStrOf]
def La(a b:Int):decide ((Sum.inl a:Key)=Sum.inl b)=(a==b):=by
 by_cases e:a=b
 ·subst e;simp
 ·have h:¬ (Sum.inl a:Key)=Sum.inl b:=fun q=>e (Sum.inl.inj q)
  rw[QW h]
  exact(Z8.mpr e).symm
def Lb(a b:Str):decide ((Sum.inr a:Key)=Sum.inr b)=decide (a=b):=by
 by_cases e:a=b
 ·subst e;simp
 ·have h:¬ (Sum.inr a:Key)=Sum.inr b:=fun q=>e (Sum.inr.inj q)
  rw[QW h,QW e]
def Lc(a:Int)(b:Str):decide ((Sum.inl a:Key)=Sum.inr b)=false:=QW (fun q=>nomatch q)
def Ld(a:Str)(b:Int):decide ((Sum.inr a:Key)=Sum.inl b)=false:=QW (fun q=>nomatch q)
def jc (prog:Program)(w:World):PySem.KeyKind prog w Key where
 is:=sZ
 hash:=K8 w
 inj:=fun v a b ha hb=>by
  rcases nZ ha with⟨i,t,rfl,rfl⟩|⟨x,t,rfl,rfl⟩
  ·rcases nZ hb with⟨j,u,rfl,e⟩|⟨y,u,rfl,e⟩
   ·injection e with e1 _;rw[e1]
   ·exact nomatch e
  ·rcases nZ hb with⟨j,u,rfl,e⟩|⟨y,u,rfl,e⟩
   ·exact nomatch e
   ·injection e with e1 _;rw[e1]
 byValue:=fun k v h=>by
  rcases nZ h with⟨i,t,rfl,rfl⟩|⟨x,t,rfl,rfl⟩<;>rfl
 pyHash:=fun hv h=>by
  rcases nZ hv with⟨i,t,rfl,rfl⟩|⟨x,t,rfl,rfl⟩
  ·exact wpAny_pyHash_int h
  ·exact wpAny_pyHash_str h
 eqBool:=fun hu hv h=>by
  rcases nZ hu with⟨i,t,rfl,rfl⟩|⟨x,t,rfl,rfl⟩
  ·rcases nZ hv with⟨j,u,rfl,rfl⟩|⟨y,u,rfl,rfl⟩
   ·rw[La]at h;exact VI h
   ·rw[Lc]at h;exact SeqAt.EqAt.int_str i t y u _ _ _ _ h
  ·rcases nZ hv with⟨j,u,rfl,rfl⟩|⟨y,u,rfl,rfl⟩
   ·rw[Ld]at h;exact SeqAt.EqAt.str_int x t j u _ _ _ _ h
   ·rw[Lb]at h;exact wpAny_eqBool_str h
 «strs»:=fun k x t v h=>by
  rcases nZ h with⟨i,u,rfl,e⟩|⟨y,u,rfl,e⟩
  ·exact nomatch e
  ·injection e with e1 _
   subst e1
   cases v<;>rfl
def Le(prog:Program)(w:World)(i:Int)(t:Tok):(jc prog w).is (.inl i) (.int i t)=true:=K9 i t
def Lf(prog:Program)(w:World)(x:Str)(t:Tok):(jc prog w).is (.inr x) (.str x t)=true:=K_ x t
inductive V where
 | aK|bl (b:Bool)|int (i:Int)|str (x:Str)|uA (b:Array UInt8)|s_ (b:UInt64)|ref (a:Addr)|ty (n:String)
 deriving DecidableEq
def bw:V->Value->Prop
 | .aK,u=>u=Value.none
 | .bl b,u=>u=Value.bool b
 | .int i,u=>∃ t,u=Value.int i t
 | .str x,u=>∃ t,u=Value.str x t
 | .uA b,u=>∃ t,u=Value.bytes b t
 | .s_ b,u=>∃ t,u=Value.float b t
 | .ref a,u=>u=Value.ref a
 | .ty n,u=>u=Value.type n
abbrev aY:List V->List Value->Prop:=Paired bw
def aY.length{xs:List V}(r:aY xs us):xs.length=us.length:=Jp r
def aY.get:∀ {xs:List V} {us:List Value} {i:Nat} {x:V},aY xs us->xs[i]? = some x->∃ u,us[i]? = some u/\bw x u
 | _,_,_,_,.nil,e=>by simp at e
 | _,_,0,_,.cons r _,e=>by simp at e;subst e;exact⟨_,rfl,r⟩
 | _,_,i+1,x,.cons _ t,e=>by
  obtain⟨u,h1,h2⟩:=aY.get (i:=i) (x:=x) t (by simpa using e)
  exact⟨u,by simpa using h1,h2⟩
def aY.set{x:V}(r:bw x u):∀ {xs:List V} {us:List Value} (i:Nat),aY xs us->aY (xs.set i x) (us.set i u)
 | _,_,_,.nil=>.nil
 | _,_,0,.cons _ t=>.cons r t
 | _,_,i+1,.cons q t=>.cons q (aY.set r i t)
def aY.append:∀ {xs ys:List V} {us ws:List Value},aY xs us->aY ys ws->aY (xs++ys) (us++ws)
 | _,_,_,_,.nil,s=>s
 | _,_,_,_,.cons r t,s=>.cons r (aY.append t s)
def aY.take:∀ {xs:List V} {us:List Value} (n:Nat),aY xs us->aY (xs.take n) (us.take n)
 | _,_,0,_=>.nil
 | _,_,_+1,.nil=>.nil
 | _,_,n+1,.cons r t=>.cons r (aY.take n t)
def aY.drop:∀ {xs:List V} {us:List Value} (n:Nat),aY xs us->aY (xs.drop n) (us.drop n)
 | _,_,0,r=>r
 | _,_,_+1,.nil=>.nil
 | _,_,n+1,.cons _ t=>aY.drop n t
def lF:Option V->Option Value->Prop
 | some v,some u=>bw v u
 | none,none=>True
 | _,_=>False
def KV {κ:Type}:List (κ×V)->List (κ×Value)->Prop:=Paired fun(p:κ×V) (q:κ×Value)=>p.1=q.1/\bw p.2 q.2
def kV:Key->V
 | .inl i=>.int i
 | .inr x=>.str x
inductive HO where
 | lst (xs:List V)
 | tup (xs:List V)
 | dK (ai:List (Key×V))|dT (ai:List (List Key×V))
 | set (S:Int->Bool) (n:Nat)
 | ins (C dx:Addr) (fs:List (Str×V))
 | own (x:Addr)
 | xd (fs:List (Str×V))
 | met (f x:Addr)
 | k9 (lo hi:Int)
 | d8 (o:Obj) (u:HO)
 | jd (ps:Array Value)
 | ext (φ:Heap->Prop)
abbrev Hp:=Addr->Option HO
def upd (H:Hp)(a:Addr)(o:HO):Hp:=fun b=>if b=a then some o else H b
def fO{H:Hp}{o:HO}:upd H a o a=some o:=by unfold upd;rw[Qi rfl]
def a0{H:Hp}{o:HO}(h:b≠a):upd H a o b=H b:=by unfold upd;rw[Qj h]
def zT{H:Hp}{o u:HO}(h:H a=some o)(h':H b=some u)(d:o≠u):a≠b:=by
 intro e;subst e;rw[h]at h';exact d (QC h')
def iC{H:Hp}{o:HO}(h:H a=some o)(h':H b=none):a≠b:=by
 intro e;subst e;rw[h]at h';cases h'
def lG (h:Heap)(a:Addr)(items:Array Value):Prop:=∃ o,h.get? a=some o/\o.cls=.type "tuple" /\ (∃ n,o.data=.seq items n)/\o.dict=none
def lG.tup{h:Heap}{a:Addr}{items:Array Value}(x:lG h a items):IsTup h a items:=let ⟨o,e,c,n,_⟩:=x;⟨o,e,c,n⟩
def lG.new(h:Heap)(items:Array Value):lG (h.push { cls:=.type "tuple",data:=.seq items }) h.objs.size items:=⟨_,Qp _ rfl,rfl,⟨_,rfl⟩,rfl⟩
def lG.lt{items:Array Value}(x:lG h a items):a<h.objs.size:=let ⟨_,e,_⟩:=x;Qm e
section
variable (P:Program)(w:World)
def cR (H:Hp)(h:Heap)(a:Addr):HO->Prop
 | .lst xs=>xs.length<=sizeLine/\∃ (ao:List Value) (n:Nat),aY xs ao/\h.get? a=some { cls:=.type "list",data:=.seq ao.toArray n }
 | .tup xs=>xs.length<=sizeLine/\∃ ao:List Value,aY xs ao/\lG h a ao.toArray
 | .dK ai=>ai.length<=sizeLine/\(a==sysModules)=false/\∃ vs,KV ai vs/\h.DictOf (jc P w) a vs
 | .dT ai=>ai.length<=sizeLine/\(a==sysModules)=false/\∃ xs:List (List Key×Addr×Value),
   Paired (fun(p:List Key×V) (q:List Key×Addr×Value)=>p.1=q.1/\H q.2.1=some (.tup (p.1.map kV))/\bw p.2 q.2.2) ai xs /\
   ∃ o es ep,h.get? a=some o/\o.ExactDict/\o.data=.dict es ep/\es.toList=xs.map (entryOfKey (tupleKind (jc P w)))/\(xs.map (·.1)).Nodup
 | .set S n=>h.SetOf (intKind P w) a S n
 | .ins C dx fs=>H dx=some (.own a)/\fs.length<=1000/\dx≠a/\h.get? a=some (PySem.W.instObj C dx) /\
   ∃ mA,h.Ns1 dx mA/\(∀ f,lF (fs.lookup f) (mA f))/\PySem.Within mA (fs.map (·.1))
 | .own _=>∃ o,h.get? a=some o
 | .xd fs=>∃ mA,h.Ns1 a mA/\∀ f,lF (fs.lookup f) (mA f)
 | .k9 lo hi=>∃ t u v,h.get? a=some { cls:=.type "range",data:=.fields #[.int lo t,.int hi u,.int 1 v] }
 | .d8 o u=>h.get? a=some o/\cR H h a u
 | .jd ps=>h.get? a=some { cls:=.none,data:=.fields ps }
 | .met f x=>h.get? a=some (PySem.W.methodObj (.ref f) (.ref x))
 | .ext φ=>φ h/\(∃ o,h.get? a=some o)/\∀ h1 h2:Heap,φ h1->(∀ o,h1.get? a=some o->h2.get? a=some o)->φ h2
def cP (H:Hp)(h:Heap):Prop:=∀ a o,H a=some o->cR P w H h a o
end
section
variable {P:Program}{w:World}{H H':Hp}{h h':Heap}{a:Addr}{o:HO}
def cR.lt(x:cR P w H h a o):a<h.objs.size:=by
 cases o with
 | lst xs=>obtain⟨_,_,_,_,e⟩:=x;exact Qm e
 | tup xs=>obtain⟨_,_,_,p⟩:=x;exact p.lt
 | dK ai=>obtain⟨_,_,_,_,o,_,_,e,_⟩:=x;exact Qm e
 | dT ai=>obtain⟨_,_,_,_,o,_,_,e,_⟩:=x;exact Qm e
 | set S n=>obtain⟨o,_,_,_,e,_⟩:=x;exact Qm e
 | ins C dx fs=>obtain⟨_,_,_,e,_⟩:=x;exact Qm e
 | own y=>obtain⟨_,e⟩:=x;exact Qm e
 | xd fs=>obtain⟨_,⟨_,_,_,e,_⟩,_⟩:=x;exact Qm e
 | k9 lo hi=>obtain⟨_,_,_,e⟩:=x;exact Qm e
 | d8 ob u=>obtain⟨e,_⟩:=x;exact Qm e
 | jd ps=>exact Qm (show h.get? a=some _ from x)
 | met f y=>exact Qm (show h.get? a=some _ from x)
 | ext φ=>obtain⟨_,⟨_,e⟩,_⟩:=x;exact Qm e
def Paired.qy{α β:Type}{F G:α->β->Prop}:∀ {l₁:List α} {l₂:List β},Paired F l₁ l₂->(∀ a b,F a b->G a b)->Paired G l₁ l₂
 | _,_,.nil,_=>.nil
 | _,_,.cons r t,f=>.cons (f _ _ r) (Paired.qy t f)
def cR.fA(x:cR P w H h a o)(k:∀ b u,(b=a\/H b=some (.own a))->h.get? b=some u->h'.get? b=some u)
  (ho:∀ b,H b=some (.own a)->H' b=some (.own a)) (ht:∀ b xs,H b=some (.tup xs)->H' b=some (.tup xs)):cR P w H' h' a o:=by
 induction o with
 | lst xs=>obtain⟨z,ao,n,r,e⟩:=x;exact⟨z,ao,n,r,k _ _ (.inl rfl) e⟩
 | tup xs=>obtain⟨z,ao,r,ob,e,c⟩:=x;exact⟨z,ao,r,ob,k _ _ (.inl rfl) e,c⟩
 | dK ai=>obtain⟨z,y,vs,r,ob,es,ep,e,c⟩:=x;exact⟨z,y,vs,r,ob,es,ep,k _ _ (.inl rfl) e,c⟩
 | dT ai=>
  obtain⟨z,y,xs,r,ob,es,ep,e,c⟩:=x
  exact⟨z,y,xs,Paired.qy r fun p q z=>⟨z.1,ht _ _ z.2.1,z.2.2⟩,ob,es,ep,k _ _ (.inl rfl) e,c⟩
 | set S n=>obtain⟨ob,es,ep,t,e,c⟩:=x;exact⟨ob,es,ep,t,k _ _ (.inl rfl) e,c⟩
 | ins C dx fs=>
  obtain⟨d,z,ne,e,mA,⟨od,es,ep,e2,c⟩,r⟩:=x
  exact⟨ho _ d,z,ne,k _ _ (.inl rfl) e,mA,⟨od,es,ep,k _ _ (.inr d) e2,c⟩,r⟩
 | own y=>obtain⟨ob,e⟩:=x;exact⟨ob,k _ _ (.inl rfl) e⟩
 | xd fs=>obtain⟨mA,⟨od,es,ep,e,c⟩,r⟩:=x;exact⟨mA,⟨od,es,ep,k _ _ (.inl rfl) e,c⟩,r⟩
 | k9 lo hi=>obtain⟨t,u,v,e⟩:=x;exact⟨t,u,v,k _ _ (.inl rfl) e⟩
 | d8 ob u ih=>obtain⟨e,q⟩:=x;exact⟨k _ _ (.inl rfl) e,ih q⟩
 | jd ps=>
  have e:h.get? a=some { cls:=.none,data:=.fields ps }:=x
  show h'.get? a=some { cls:=.none,data:=.fields ps }
  exact k a _ (.inl rfl) e
 | met f y=>
  have e:h.get? a=some (PySem.W.methodObj (.ref f) (.ref y)):=x
  show h'.get? a=some (PySem.W.methodObj (.ref f) (.ref y))
  exact k a _ (.inl rfl) e
 | ext φ=>obtain⟨p,⟨o,e⟩,st⟩:=x;exact⟨st _ _ p fun o q=>k _ _ (.inl rfl) q,⟨o,k _ _ (.inl rfl) e⟩,st⟩
def cP.lt(x:cP P w H h)(e:H a=some o):a<h.objs.size:=(x a o e).lt
def cP.fresh(x:cP P w H h)(e:h.objs.size<=a):H a=none:=by
 cases q:H a with
 | none=>rfl
 | some u=>exact absurd (Qs (x.lt q) e) (Q6 _)
def cP.kept(x:cP P w H h)(k:∀ b u,h.get? b=some u->h'.get? b=some u):cP P w H h':=fun a o e=>
 (x a o e).fA (fun b u _ q=>k b u q) (fun _ q=>q) fun _ _ q=>q
def cP.laid(x:cP P w H h)(k:∀ b u,h.get? b=some u->h'.get? b=some u)(hp:h.objs.size<=a)(new:cR P w (upd H a o) h' a o):cP P w (upd H a o) h':=fun b u e=>by
 have hn:=x.fresh hp
 by_cases hb:b=a
 ·subst hb;rw[fO]at e;cases e;exact new
 ·rw[a0 hb]at e
  exact(x b u e).fA (fun c v _ q=>k c v q) (fun c q=>by rw[a0 (iC q hn)];exact q) fun c xs q=>by rw[a0 (iC q hn)];exact q
end
def Rd (H:Hp)(a:Addr)(u:HO):Prop:=H a=some u\/∃ o,H a=some (.d8 o u)
def Rd.of{H:Hp}{u:HO}(h:H a=some u):Rd H a u:=.inl h
def Rd.ok{H:Hp}{u:HO}(r:Rd H a u)(x:cP P w H h):cR P w H h a u:=by
 rcases r with r|⟨o,r⟩
 ·exact x a u r
 ·obtain⟨_,q⟩:=x a _ r
  exact q
def uB:Option HO->Prop
 | some (.lst _)=>True
 | some (.dK _)=>True
 | some (.dT _)=>True
 | some (.set _ _)=>True
 | some (.ins _ _ _)=>True
 | some (.ext _)=>True
 | _=>False
section
variable {P:Program}{w:World}{H:Hp}{h h':Heap}{x e:Addr}{o':HO}
def cP.write(ok:cP P w H h)(mu:uB (H x))(he:e=x\/H e=some (.own x))(k:∀ b u,b≠e->h.get? b=some u->h'.get? b=some u)(tj:∃ u,h'.get? e=some u)
  (new:cR P w (upd H x o') h' x o'):cP P w (upd H x o') h':=fun b u q=>by
 have uC:∀ c y,H c=some (.own y)->c≠x:=fun c y r z=>by subst z;rw[r]at mu;exact mu
 have zU:∀ c xs,H c=some (.tup xs)->c≠x:=fun c xs r z=>by subst z;rw[r]at mu;exact mu
 by_cases hb:b=x
 ·subst hb;rw[fO]at q;cases q;exact new
 ·rw[a0 hb]at q
  by_cases qz:b=e
  ·have q':H b=some (.own x):=by
    rcases he with z|z
    ·exact absurd (qz.trans z) hb
    ·rw[qz];exact z
   rw[q]at q';cases q'
   obtain⟨v,hv⟩:=tj
   exact⟨v,by rw[qz];exact hv⟩
  ·refine(ok b u q).fA (fun c v hc r=>k c v ?_ r) (fun c r=>by rw[a0 (uC c b r)];exact r) fun c xs r=>by rw[a0 (zU c xs r)];exact r
   rcases hc with rfl|hc
   ·exact qz
   ·rintro rfl
    rcases he with z|z
    ·exact uC c b hc z
    ·rw[hc]at z;cases z;exact hb rfl
end
structure Un (fs ex:List Addr) (H H':Hp) (h h':Heap):Prop where
 keep:∀ b o,h.get? b=some o->H b=none->b ∉ fs->b ∉ ex->h'.get? b=some o
 slot:∀ b o,h.get? b=some o->H b=none->b∈fs->b ∉ ex->∃ sl,h'.get? b=some { o with slots:=sl }
 free:∀ b o,h.get? b=some o->H b=none->b ∉ ex->H' b=none
 there:∀ b o,h.get? b=some o->b ∉ ex->∃ o',h'.get? b=some o'
 dR:∀ b xs,H b=some (.tup xs)->H' b=some (.tup xs)
 dE:∀ b o u,H b=some (.d8 o u)->H' b=some (.d8 o u)
 dS:∀ b ps,H b=some (.jd ps)->∃ more,H' b=some (.jd (ps++more))
section
variable {fs Lg ex ex':List Addr}{H H1 H2:Hp}{h h1 h2 h':Heap}{a x e:Addr}{o:HO}
def Un.any(u:Un fs ex H H1 h h1){ob:Obj}(q:h.get? b=some ob)(n:H b=none)(hx:b ∉ ex):∃ sl,h1.get? b=some { ob with slots:=sl }:=by
 by_cases hb:b∈fs
 ·exact u.slot b ob q n hb hx
 ·exact⟨ob.slots,u.keep b ob q n hb hx⟩
def Un.kept(k:∀ b u,h.get? b=some u->h'.get? b=some u):Un fs ex H H h h':=
 ⟨fun b ob q _ _ _=>k b ob q,fun b ob q _ _ _=>⟨ob.slots,k b ob q⟩,fun _ _ _ n _=>n,fun b ob q _=>⟨ob,k b ob q⟩,fun _ _ q=>q,fun _ _ _ q=>q,fun _ ps q=>⟨#[],by rw[q];simp⟩⟩
def Un.refl:Un fs ex H H h h:=Un.kept fun _ _ q=>q
def Un.laid(k:∀ b u,h.get? b=some u->h'.get? b=some u)(hp:h.objs.size<=a)(hn:H a=none):Un fs ex H (upd H a o) h h' where
 keep:=fun b u q _ _ _=>k b u q
 slot:=fun b u q _ _ _=>⟨u.slots,k b u q⟩
 free:=fun b u q n _=>by rw[a0 (Qz (Qs (Qm q) hp))];exact n
 there:=fun b u q _=>⟨u,k b u q⟩
 dR:=fun b xs q=>by rw[a0 (iC q hn)];exact q
 dE:=fun b u xs q=>by rw[a0 (iC q hn)];exact q
 dS:=fun b ps q=>⟨#[],by rw[a0 (iC q hn),q];simp⟩
def Un.write(mu:uB (H x))(he:e=x\/H e=some (.own x))(k:∀ b u,b≠e->h.get? b=some u->h'.get? b=some u)(tj:∃ u,h'.get? e=some u):Un fs ex H (upd H x o) h h':=by
 have hx:∀ b,H b=none->b≠x:=fun b n z=>by subst z;rw[n]at mu;exact mu
 have hb:∀ b,H b=none->b≠e:=fun b n z=>by
  subst z
  rcases he with r|r
  ·exact hx b n r
  ·rw[n]at r;cases r
 have hm:∀ b u,H b=some u->¬ uB (some u)->b≠x:=fun b u q nm z=>by subst z;rw[q]at mu;exact nm mu
 refine⟨fun b u q n _ _=>k b u (hb b n) q,fun b u q n _ _=>⟨u.slots,k b u (hb b n) q⟩,fun b u q n _=>by rw[a0 (hx b n)];exact n,fun b u q _=>?_,
  fun b xs q=>by rw[a0 (hm b _ q fun z=>z)];exact q,fun b u xs q=>by rw[a0 (hm b _ q fun z=>z)];exact q,fun b ps q=>⟨#[],by rw[a0 (hm b _ q fun z=>z),q];simp⟩⟩
 by_cases qz:b=e
 ·subst qz;exact tj
 ·exact⟨u,k b u qz q⟩
end
def lH (h:Heap)(H:Hp):List Addr:=(List.range h.objs.size).filter fun a=>(H a).isSome
def n4 (h:Heap)(H:Hp):Heap:=PySem.W.hideAll h (lH h H)
def Lh(h:Heap)(H:Hp):(n4 h H).objs.size=h.objs.size:=PySem.W.hideAll_size _ _
def Li{H:Hp}(e:h.get? b=some o)(n:H b=none):(n4 h H).get? b=some o:=
 PySem.W.hideAll_get _ e fun hm=>by
  have q:(H b).isSome=true:=(Zr.mp hm).2
  rw[n]at q;simp at q
def Lj{H:Hp}(e:(n4 h H).get? b=some o):h.get? b=some o/\H b=none:=by
 have e':h.get? b=some o:=PySem.W.of_hideAll (lH h H) e
 refine⟨e',?_⟩
 cases q:H b with
 | none=>rfl
 | some x=>
  have hm:b∈lH h H:=Zr.mpr ⟨QJ.mpr (Qm e'),by simp[q]⟩
  have z:(n4 h H).get? b=none:=PySem.W.hideAll_none (lH h H) hm
  rw[z]at e;cases e
def Lk (g h:Heap)(L:Addr):List (Addr×Obj):=(List.range h.objs.size).filterMap fun a=>if a=L\/(g.get? a).isSome=true then none else(h.get? a).map fun o=>(a,o)
def bc (g h:Heap)(L d:Addr):List (Addr×Obj):=(Lk g h L).filter fun p=>decide (p.1≠d)
structure Mod (K:PySem.W.Frag) (mg:Str->Option Value) (base:Heap):Prop where
 uD:K.In base
 glob:base.Ns mainGlobals mg
 blt:∃ mb,base.Ns builtinsNs mb/\∀ x:Str,x ≠ "__name__"->mb x=bootBuiltins x
 nolimit:base.NoLimit
structure Cx where
 prog:Program
 w:World
 K:PySem.W.Frag
 mg:Str->Option Value
 base:Heap
 A:Around
 N:List Str
 av:Shared
 br:Hp
 env:Env
 outer:List Env
 stack:List Env
 ex:List Addr
 fn:Str->Bool
 calm:Bool
 pn:List (Addr×Obj)
 xe:Value->Shared->Prop
def cQ (l:List Env):List Addr:=l.filterMap (·.frame)
abbrev Cx.fs (X:Cx):List Addr:=cQ X.outer
def tm (sc:Scope)(x:Str):Prop:=sc.names.lookup x=some .local\/sc.names.lookup x=some .cell\/sc.names.lookup x=some .free
def Loc (sc:Scope)(x:Str):Prop:=sc.names.lookup x=some .local\/sc.names.lookup x=some .cell
def Ll (env:Env)(h:Heap)(m:Str->Option Value)(x:Str)(u:Value):Prop:=
 (env.kindOf x=some .local/\m x=some u)\/((env.kindOf x=some .cell\/env.kindOf x=some .free)/\∃ c,env.cells.lookup x=some c/\h.IsCell c (some u))
structure Cx.Ok (X:Cx):Prop where
 mod:Mod X.K X.mg X.base
 kind:X.env.scope.kind=.function
 glob:X.env.globals=mainGlobals
 blt:X.env.builtins=builtinsNs
 above:X.av.heap.objs.size<=X.env.locals
 inj:∀ x y c,X.env.cells.lookup x=some c->X.env.cells.lookup y=some c->x=y
 has:∀ x,(X.env.kindOf x=some .cell\/X.env.kindOf x=some .free)->∃ c,X.env.cells.lookup x=some c
 tq:∀ x c,X.fn x=true->X.env.cells.lookup x=some c->X.av.heap.objs.size<=c
 hd:X.calm=true->X.A.handled=none
 frames:X.A.frames=some X.stack
 uE:X.stack=X.outer\/(X.stack=X.env::X.outer/\X.env.frame=some X.env.locals)
 xD:∀ b∈X.ex,b≠X.env.locals/\∀ x c,X.env.cells.lookup x=some c->c≠b
 bs:∀ b o,X.base.get? b=some o->X.av.heap.get? b=some o/\X.br b=none
 lI:X.base.objs.size<=X.av.heap.objs.size
 kB:∀ b o,X.base.get? b=some o->b ∉ X.ex
 kC:∀ b∈X.ex,b ∉ X.fs
 eK:X.av.heap.FunFrames X.base X.outer
 qA:∀ b∈X.fs,X.br b=none
structure Inv (X:Cx) (pins:List (Addr×Obj)) (σ:List (Option V)) (H:Hp) (s:Shared):Prop where
 ok:X.Ok
 os:s.os=X.av.os
 bare:AllBare s.gens
 base:Un X.fs X.ex X.br H X.av.heap s.heap
 loc:∃ m,s.heap.Ns X.env.locals m/\∀ (i:Nat) (x:Str) (v:V),X.N[i]? = some x->σ[i]? = some (some v)->tm X.env.scope x->∃ u,bw v u/\Ll X.env s.heap m x u
 cell:∀ x c,X.env.cells.lookup x=some c->∃ v,s.heap.IsCell c v
 free:H X.env.locals=none
 cD:∀ x c,X.env.cells.lookup x=some c->H c=none
 pin:∀ p∈X.pn++pins,s.heap.get? p.1=some p.2/\H p.1=none/\p.1≠X.env.locals/\p.1 ∉ X.fs/\∀ v,p.2.data ≠ .cell v
 aw:cP X.prog X.w H s.heap
 len:σ.length=X.N.length
section
variable {X:Cx}{pins:List (Addr×Obj)}{σ:List (Option V)}{H H':Hp}{s:Shared}{h':Heap}
def Cx.Ok.zV(ok:X.Ok)(e:X.base.get? b=some o):b ∉ X.fs:=fun hb=>by
 have:=(ok.eK.mem hb).1
 rw[e]at this;cases this
def Inv.bs(I:Inv X pins σ H s):∀ b o,X.base.get? b=some o->s.heap.get? b=some o/\H b=none:=fun b o e=>
 ⟨I.base.keep b o (I.ok.bs b o e).1 (I.ok.bs b o e).2 (I.ok.zV e) (I.ok.kB b o e),I.base.free b o (I.ok.bs b o e).1 (I.ok.bs b o e).2 (I.ok.kB b o e)⟩
def Inv.bk(I:Inv X pins σ H s):∀ b o,X.base.get? b=some o->s.heap.get? b=some o:=fun b o e=>(I.bs b o e).1
def Inv.mod(I:Inv X pins σ H s):Mod X.K X.mg X.base:=I.ok.mod
def Inv.eL(I:Inv X pins σ H s):X.K.In s.heap:=I.ok.mod.uD.keeps I.bk
def Inv.fr(I:Inv X pins σ H s):∃ m,Fr X.base X.env.locals s.heap m:=
 let ⟨m,hn,_⟩:=I.loc
 ⟨m,hn,I.bk,QU I.ok.lI I.ok.above⟩
def Inv.lt(I:Inv X pins σ H s):X.env.locals<s.heap.objs.size:=let ⟨_,hn,_⟩:=I.loc;hn.lt
def Inv.sz(I:Inv X pins σ H s):X.av.heap.objs.size<=s.heap.objs.size:=QU I.ok.above (ZN I.lt)
def Inv.uF(I:Inv X pins σ H s)(h:s.heap.objs.size<=a):a ∉ X.fs:=fun hb=>by
 obtain⟨_,o,ho,_⟩:=I.ok.eK.mem hb
 exact absurd (Qs (Qm ho) (QU I.sz h)) (Q6 _)
def Inv.lJ(I:Inv X pins σ H s):∀ x c,X.env.cells.lookup x=some c->c≠X.env.locals:=fun x c e z=>by
 obtain⟨v,o,ho,hd⟩:=I.cell x c e
 obtain⟨m,⟨o',es,ep,e_,gV,_⟩,_⟩:=I.loc
 rw[z,e_]at ho;cases ho;rw[gV]at hd;cases hd
def Inv.eK(I:Inv X pins σ H s):s.heap.FunFrames X.base X.outer:=by
 have all:∀ (l:List Env),(∀ b∈cQ l,b∈X.fs)->X.av.heap.FunFrames X.base l->s.heap.FunFrames X.base l:=by
  intro l
  induction l with
  | nil=>intro _ _;trivial
  | cons env r ih=>
   intro hs hl
   obtain⟨hk,⟨L,o,hf,hn,ho,hd⟩,hr⟩:=hl
   have hL:L∈X.fs:=hs L (by unfold cQ;rw[Ju,hf];exact Qk)
   obtain⟨sl,e⟩:=I.base.slot L o ho (I.ok.qA L hL) hL fun z=>I.ok.kC L z hL
   exact⟨hk,⟨L,_,hf,hn,e,hd⟩,ih (fun b hb=>hs b (by unfold cQ;rw[Ju,hf];exact Qh _ hb)) hr⟩
 exact all X.outer (fun _ hb=>hb) I.ok.eK
def Inv.stack(I:Inv X pins σ H s):s.heap.FunFrames X.base X.stack:=by
 rcases I.ok.uE with e|⟨e,hf⟩
 ·rw[e];exact I.eK
 ·rw[e]
  obtain⟨m,hn,_⟩:=I.loc
  refine .cons (by rw[I.ok.kind];decide) hf hn ?_ I.eK
  exact Heap.get?_none_of_le (QU I.ok.lI I.ok.above)
def Inv.hZ(I:Inv X pins σ H s):∀ b∈cQ X.stack,b∈X.env.locals::X.fs:=fun b hb=>by
 rcases I.ok.uE with e|⟨e,hf⟩
 ·rw[e]at hb;exact Qh _ hb
 ·rw[e]at hb
  unfold cQ at hb
  rw[Ju,hf]at hb
  exact hb
def Inv.d9(I:Inv X pins σ H s):∀ b∈cQ X.stack,H b=none:=fun b hb=>by
 rcases Qt.mp (I.hZ b hb)with e|hb
 ·rw[e];exact I.free
 ·obtain⟨_,o,ho,_⟩:=I.ok.eK.mem hb
  exact I.base.free b o ho (I.ok.qA b hb) fun z=>I.ok.kC b z hb
def Inv.step{g':Array GenState}{t':Nat}{d':Drawn}{ch:List Addr}(I:Inv X pins σ H s)
  (nh:∀ b∈ch,(b∈X.ex\/X.av.heap.objs.size<=b)/\b≠X.env.locals/\(∀ x c,X.env.cells.lookup x=some c->c≠b)/\∀ p∈X.pn++pins,p.1≠b)
  (keep:∀ b o,b≠X.env.locals->b ∉ X.fs->b ∉ ch->s.heap.get? b=some o->H b=none->h'.get? b=some o)
  (slot:∀ b o,b≠X.env.locals->b∈X.fs->b ∉ ch->s.heap.get? b=some o->H b=none->∃ sl,h'.get? b=some { o with slots:=sl }) (free:∀ b o,b ∉ ch->s.heap.get? b=some o->H b=none->H' b=none)
  (there:∀ b o,b ∉ ch->s.heap.get? b=some o->∃ o',h'.get? b=some o')
  (dR:∀ b xs,H b=some (.tup xs)->H' b=some (.tup xs)) (dE:∀ b o u,H b=some (.d8 o u)->H' b=some (.d8 o u)) (dS:∀ b ps,H b=some (.jd ps)->∃ more,H' b=some (.jd (ps++more)))
  (ns:∀ m,s.heap.Ns X.env.locals m->h'.Ns X.env.locals m) (aw:cP X.prog X.w H' h') (hg:AllBare g') :
  Inv X pins σ H' { s with heap:=h',gens:=g',drawn:=d',toks:=t' }:=by
 have Eb:∀ b o,X.av.heap.get? b=some o->b≠X.env.locals:=fun b o e=>Qz (Qs (Qm e) I.ok.above)
 have xE:∀ b o,X.av.heap.get? b=some o->b ∉ X.ex->b ∉ ch:=fun b o e hx hb=>by
  rcases(nh b hb).1 with z|z
  ·exact hx z
  ·exact absurd (Qs (Qm e) z) (Q6 _)
 have cellK:∀ x c,X.env.cells.lookup x=some c->∀ v,s.heap.IsCell c v->h'.IsCell c v:=fun x c e v ag=>by
  obtain⟨o,ho,hd⟩:=ag
  have uG:c ∉ ch:=fun z=>(nh c z).2.2.1 x c e rfl
  by_cases hc:c∈X.fs
  ·obtain⟨sl,q⟩:=slot c o (I.lJ x c e) hc uG ho (I.cD x c e)
   exact⟨_,q,hd⟩
  ·exact⟨o,keep c o (I.lJ x c e) hc uG ho (I.cD x c e),hd⟩
 refine⟨I.ok,I.os,hg,⟨fun b o e n hb hx=>?_,fun b o e n hb hx=>?_,fun b o e n hx=>?_,fun b o e hx=>?_,fun b xs e=>dR b xs (I.base.dR b xs e),fun b o xs e=>dE b o xs (I.base.dE b o xs e),fun b ps e=>?_⟩,?_,fun x c e=>?_,?_,fun x c e=>?_,fun p hp=>?_,aw,I.len⟩
 ·exact keep b o (Eb b o e) hb (xE b o e hx) (I.base.keep b o e n hb hx) (I.base.free b o e n hx)
 ·obtain⟨sl,e1⟩:=I.base.slot b o e n hb hx
  obtain⟨ni,e2⟩:=slot b _ (Eb b o e) hb (xE b o e hx) e1 (I.base.free b o e n hx)
  exact⟨ni,e2⟩
 ·obtain⟨o',e1⟩:=I.base.there b o e hx
  exact free b o' (xE b o e hx) e1 (I.base.free b o e n hx)
 ·obtain⟨o',e1⟩:=I.base.there b o e hx
  exact there b o' (xE b o e hx) e1
 ·obtain⟨m1,e1⟩:=I.base.dS b ps e
  obtain⟨m2,e2⟩:=dS b _ e1
  exact⟨m1++m2,by rw[e2,Array.append_assoc]⟩
 ·obtain⟨m,hn,hl⟩:=I.loc
  refine⟨m,ns m hn,fun i x v e1 e2 e3=>?_⟩
  obtain⟨u,r,l⟩:=hl i x v e1 e2 e3
  refine⟨u,r,?_⟩
  rcases l with l|⟨k,c,e,z⟩
  ·exact .inl l
  ·exact .inr ⟨k,c,e,cellK x c e _ z⟩
 ·obtain⟨v,z⟩:=I.cell x c e
  exact⟨v,cellK x c e v z⟩
 ·obtain⟨m,⟨o,_,_,ho,_⟩,_⟩:=I.loc
  exact free _ o (fun z=>(nh _ z).2.1 rfl) ho I.free
 ·obtain⟨v,o,ho,hd⟩:=I.cell x c e
  exact free c o (fun z=>(nh c z).2.2.1 x c e rfl) ho (I.cD x c e)
 ·obtain⟨e,n,ne,nf,d⟩:=I.pin p hp
  have uG:p.1 ∉ ch:=fun z=>(nh p.1 z).2.2.2 p hp rfl
  exact⟨keep p.1 p.2 ne nf uG e n,free p.1 p.2 uG e n,ne,nf,d⟩
def Inv.un{t':Nat}(I:Inv X pins σ H s)(u:Un X.fs [] H H' s.heap h')(aw:cP X.prog X.w H' h'):Inv X pins σ H' { s with heap:=h',toks:=t' }:=by
 obtain⟨m,⟨o,es,ep,ho,r⟩,_⟩:=id I.loc
 obtain⟨sl,hL⟩:=u.any ho I.free (by simp)
 exact I.step (g':=s.gens) (d':=s.drawn) (ch:=[]) (fun _ z=>nomatch z) (fun b o _ hb _ e n=>u.keep b o e n hb (by simp)) (fun b o _ hb _ e n=>u.slot b o e n hb (by simp)) (fun b o _ e n=>u.free b o e n (by simp)) (fun b o _ e=>u.there b o e (by simp)) u.dR u.dE u.dS (fun m' hm=>by
  obtain⟨o',je,iO,e_,r'⟩:=hm
  rw[ho]at e_;cases e_
  exact⟨_,je,iO,hL,r'⟩) aw I.bare
def Inv.call{g':Array GenState}{t':Nat}{d':Drawn}{ch:List Addr}(I:Inv X pins σ H s)(u:Un (cQ X.stack) ch H H' s.heap h')(aw:cP X.prog X.w H' h')(hg:AllBare g')
  (nh:∀ b∈ch,(b∈X.ex\/X.av.heap.objs.size<=b)/\b≠X.env.locals/\(∀ x c,X.env.cells.lookup x=some c->c≠b)/\∀ p∈X.pn++pins,p.1≠b) :
  Inv X pins σ H' { s with heap:=h',gens:=g',drawn:=d',toks:=t' }:=by
 obtain⟨m,⟨o,es,ep,ho,r⟩,_⟩:=id I.loc
 obtain⟨sl,hL⟩:=u.any ho I.free fun z=>(nh _ z).2.1 rfl
 exact I.step (ch:=ch) nh (fun b o hL hb hc e n=>u.keep b o e n (fun z=>(Qt.mp (I.hZ b z)).elim hL hb) hc) (fun b o _ _ hc e n=>u.any e n hc) (fun b o hc e n=>u.free b o e n hc) (fun b o hc e=>u.there b o e hc) u.dR u.dE u.dS (fun m' hm=>by
  obtain⟨o',je,iO,e_,r'⟩:=hm
  rw[ho]at e_;cases e_
  exact⟨_,je,iO,hL,r'⟩) aw hg
def Inv.turned{t':Nat}(I:Inv X pins σ H s)(k:∀ b o,b≠it->s.heap.get? b=some o->h'.get? b=some o)(hn:H it=none)(hL:it≠X.env.locals)
  (h1:it∈X.ex\/X.av.heap.objs.size<=it) (h2:∀ x c,X.env.cells.lookup x=some c->c≠it) (h3:∀ p∈X.pn++pins,p.1≠it):Inv X pins σ H { s with heap:=h',toks:=t' }:=by
 have uH:∀ b u,H b=some u->b≠it:=fun b u e z=>by rw[z,hn]at e;cases e
 refine I.step (g':=s.gens) (d':=s.drawn) (ch:=[it]) (fun b hb=>?_) (fun b o _ _ hc e _=>k b o (fun z=>hc (by simp[z])) e) (fun b o _ _ hc e _=>⟨o.slots,k b o (fun z=>hc (by simp[z])) e⟩) (fun _ _ _ _ n=>n)
  (fun b o hc e=>⟨o,k b o (fun z=>hc (by simp[z])) e⟩) (fun _ _ e=>e) (fun _ _ _ e=>e) (fun b ps e=>⟨#[],by rw[e];simp⟩) (fun m hm=>?_) (fun b u e=>?_) I.bare
 ·have e:b=it:=by simpa using hb
  subst e
  exact⟨h1,hL,h2,h3⟩
 ·obtain⟨o,es,ep,ho,r⟩:=hm
  exact⟨o,es,ep,k _ o (Jk hL) ho,r⟩
 ·refine(I.aw b u e).fA (fun c v hc q=>k c v ?_ q) (fun _ q=>q) fun _ _ q=>q
  rcases hc with z|z
  ·rw[z];exact uH b u e
  ·exact uH c _ z
def Inv.tok(I:Inv X pins σ H s)(t:Nat):Inv X pins σ H { s with toks:=t }:=I.un (h':=s.heap) (t':=t) Un.refl I.aw
def Inv.kept{t':Nat}(I:Inv X pins σ H s)(k:∀ b u,s.heap.get? b=some u->h'.get? b=some u):Inv X pins σ H { s with heap:=h',toks:=t' }:=I.un (Un.kept k) (I.aw.kept k)
def Inv.laid{o:HO}{t':Nat}(I:Inv X pins σ H s)(k:∀ b u,s.heap.get? b=some u->h'.get? b=some u)(hp:s.heap.objs.size<=a)(new:cR X.prog X.w (upd H a o) h' a o) :
  Inv X pins σ (upd H a o) { s with heap:=h',toks:=t' }:=I.un (Un.laid k hp (I.aw.fresh hp)) (I.aw.laid k hp new)
def Inv.write{x e:Addr}{o:HO}{t':Nat}(I:Inv X pins σ H s)(mu:uB (H x))(he:e=x\/H e=some (.own x))(k:∀ b u,b≠e->s.heap.get? b=some u->h'.get? b=some u)(tj:∃ u,h'.get? e=some u)
  (new:cR X.prog X.w (upd H x o) h' x o):Inv X pins σ (upd H x o) { s with heap:=h',toks:=t' }:=I.un (Un.write mu he k tj) (I.aw.write mu he k tj new)
def Inv.weak{aF:List (Option V)}(I:Inv X pins σ H s)(hl:aF.length=σ.length)(w:∀ (i:Nat) v,aF[i]? = some (some v)->σ[i]? = some (some v)):Inv X pins aF H s:=
 ⟨I.ok,I.os,I.bare,I.base,let ⟨m,hn,iP⟩:=I.loc;⟨m,hn,fun i x v e1 e2 e3=>iP i x v e1 (w i v e2) e3⟩,I.cell,I.free,I.cD,I.pin,I.aw,hl.trans I.len⟩
def Inv.fJ{pins':List (Addr×Obj)}(I:Inv X pins σ H s)(h:∀ p∈pins',s.heap.get? p.1=some p.2/\H p.1=none/\p.1≠X.env.locals/\p.1 ∉ X.fs/\∀ v,p.2.data ≠ .cell v):Inv X pins' σ H s:=
 ⟨I.ok,I.os,I.bare,I.base,I.loc,I.cell,I.free,I.cD,fun p hp=>(QF.mp hp).elim (fun z=>I.pin p (QA _ z)) (h p),I.aw,I.len⟩
def zW(hN:N.Nodup)(a:N[i]? = some x)(b:N[j]? = some x):i=j:=by
 obtain⟨h1,e1⟩:=Qr.mp a
 obtain⟨h2,e2⟩:=Qr.mp b
 exact(List.getElem_inj hN).mp (e1.trans e2.symm)
def Ec{M:Model}{A:Around}{E:Value->Shared->Prop}{v:V}(I:Inv X pins σ H s)(hN:X.N.Nodup)(hi:X.N[i]? = some x)(hx:Loc X.env.scope x)(r:bw v u)
  (h:∀ s',Inv X pins (σ.set i (some v)) H s'->(∃ a,Heap.SameBut a s.heap s'.heap/\(a=X.env.locals\/X.env.cells.lookup x=some a))->Q () s') (hf:X.fn x=true\/X.env.scope.names.lookup x=some .local:=by first|exact .inl rfl|exact .inr rfl|assumption):wpAny M A (storeName X.env x u) Q E s:=by
 obtain⟨m,hn,hl⟩:=id I.loc
 have qB:(X.env.scope.kind == .class||(X.env.scope.kind == .module&&X.env.locals != X.env.globals))=false:=by rw[I.ok.kind];rfl
 have kE:i<σ.length:=by rw[I.len];exact(Qr.mp hi).1
 have lJ:=I.lJ
 have tracked:∀ {a:Addr} {h':Heap},(∃ o,s.heap.get? a=some o/\H a=none)->Heap.SameBut a s.heap h'->cP X.prog X.w H h':=fun {a h'} ha hs b ob e=>by
  obtain⟨_,_,pz⟩:=ha
  refine(I.aw b ob e).fA (fun c w' hc q=>(hs.2 c ?_).trans q) (fun _ q=>q) fun _ _ q=>q
  rintro rfl
  rcases hc with rfl|hc
  ·rw[pz]at e;cases e
  ·rw[pz]at hc;cases hc
 rcases hx with hk|hk
 ·refine wpAny_storeName_local hk hn (fun h' n6 hs=>?_) qB
  obtain⟨oL,_,_,tw,_⟩:=id hn
  refine h _ ⟨I.ok,I.os,I.bare,⟨fun b o e n hb hx=>?_,fun b o e n hb hx=>?_,I.base.free,fun b o e hx=>?_,I.base.dR,I.base.dE,I.base.dS⟩,⟨_,n6,fun j y v' e1 e2 e3=>?_⟩,fun y c e=>?_,I.free,I.cD,fun p hp=>?_,tracked ⟨oL,tw,I.free⟩ hs,by simpa using I.len⟩ ⟨_,hs,.inl rfl⟩
  ·exact(hs.2 b (Qz (Qs (Qm e) I.ok.above))).trans (I.base.keep b o e n hb hx)
  ·obtain⟨sl,e1⟩:=I.base.slot b o e n hb hx
   exact⟨sl,(hs.2 b (Qz (Qs (Qm e) I.ok.above))).trans e1⟩
  ·obtain⟨o',e1⟩:=I.base.there b o e hx
   exact⟨o',(hs.2 b (Qz (Qs (Qm e) I.ok.above))).trans e1⟩
  ·by_cases hj:j=i
   ·subst hj
    rw[hi]at e1;cases e1
    rw[QL kE]at e2
    cases e2
    exact⟨u,r,.inl ⟨hk,by simp⟩⟩
   ·rw[QM (Jk hj)]at e2
    obtain⟨u',r',q⟩:=hl j y v' e1 e2 e3
    refine⟨u',r',?_⟩
    rcases q with⟨k,e⟩|⟨k,c,e,z⟩
    ·refine .inl ⟨k,?_⟩
     have:y≠x:=fun e=>hj (zW hN e1 (e ▸ hi))
     simp[this,e]
    ·exact .inr ⟨k,c,e,z.sameBut hs (lJ y c e)⟩
  ·obtain⟨w',z⟩:=I.cell y c e
   exact⟨w',z.sameBut hs (lJ y c e)⟩
  ·obtain⟨e,n,ne,nf,d⟩:=I.pin p hp
   exact⟨(hs.2 p.1 ne).trans e,n,ne,nf,d⟩
 ·have zX:X.fn x=true:=by
   rcases hf with z|z
   ·exact z
   ·rw[z]at hk;cases hk
  obtain⟨c,hc⟩:=I.ok.has x (.inl hk)
  obtain⟨w',z⟩:=I.cell x c hc
  refine wpAny_storeName_cell I.ok.kind hk hc z (fun h' nj hs=>?_)
  obtain⟨oc,xF,zY⟩:=id z
  refine h { s with heap:=h' } ⟨I.ok,I.os,I.bare,⟨fun b o e n hb hx=>?_,fun b o e n hb hx=>?_,I.base.free,fun b o e hx=>?_,I.base.dR,I.base.dE,I.base.dS⟩,⟨m,hn.sameBut hs (Jk (lJ x c hc)),fun j y v' e1 e2 e3=>?_⟩,fun y c' e=>?_,I.free,I.cD,fun p hp=>?_,tracked ⟨oc,xF,I.cD x c hc⟩ hs,by simpa using I.len⟩ ⟨c,hs,.inr hc⟩
  ·exact(hs.2 b (Qz (Qs (Qm e) (I.ok.tq x c zX hc)))).trans (I.base.keep b o e n hb hx)
  ·obtain⟨sl,e1⟩:=I.base.slot b o e n hb hx
   exact⟨sl,(hs.2 b (Qz (Qs (Qm e) (I.ok.tq x c zX hc)))).trans e1⟩
  ·obtain⟨o',e1⟩:=I.base.there b o e hx
   exact⟨o',(hs.2 b (Qz (Qs (Qm e) (I.ok.tq x c zX hc)))).trans e1⟩
  ·by_cases hj:j=i
   ·subst hj
    rw[hi]at e1;cases e1
    rw[QL kE]at e2
    cases e2
    exact⟨u,r,.inr ⟨.inl hk,c,hc,nj⟩⟩
   ·rw[QM (Jk hj)]at e2
    obtain⟨u',r',q⟩:=hl j y v' e1 e2 e3
    refine⟨u',r',?_⟩
    rcases q with q|⟨k,c',e,z'⟩
    ·exact .inl q
    ·refine .inr ⟨k,c',e,z'.sameBut hs ?_⟩
     rintro rfl
     exact hj (zW hN e1 (I.ok.inj _ _ _ e hc ▸ hi))
  ·by_cases Ed:c'=c
   ·subst Ed;exact⟨_,nj⟩
   ·obtain⟨w2,z2⟩:=I.cell y c' e
    exact⟨w2,z2.sameBut hs Ed⟩
  ·obtain⟨e,n,ne,nf,d⟩:=I.pin p hp
   refine⟨(hs.2 p.1 ?_).trans e,n,ne,nf,d⟩
   intro q
   rw[q,xF]at e
   have q':oc=p.2:=QC e
   exact d w' (by rw[<- q'];exact zY)
def zZ{M:Model}{A:Around}{E:Value->Shared->Prop}{v:V}(I:Inv X pins σ H s)(hN:X.N.Nodup)(hi:X.N[i]? = some x)(hx:Loc X.env.scope x)(r:bw v u)
  (h:∀ s',Inv X pins (σ.set i (some v)) H s'->Q () s') (hf:X.fn x=true\/X.env.scope.names.lookup x=some .local:=by first|exact .inl rfl|exact .inr rfl|assumption):wpAny M A (storeName X.env x u) Q E s:=
 Ec I hN hi hx r (fun s' I' _=>h s' I') hf
def Inv.lK{ch:List Addr}(I:Inv X pins σ H s)(ho:s'.os=s.os)(u:Un (cQ X.stack) ch H H' s.heap s'.heap)(aw:cP X.prog X.w H' s'.heap)(hg:AllBare s'.gens)
  (nh:∀ b∈ch,(b∈X.ex\/X.av.heap.objs.size<=b)/\b≠X.env.locals/\(∀ x c,X.env.cells.lookup x=some c->c≠b)/\∀ p∈X.pn++pins,p.1≠b):Inv X pins σ H' s':=by
 obtain⟨h',g',d',t',o'⟩:=s'
 have e:o'=s.os:=ho
 subst e
 exact I.call (g':=g') (t':=t') (d':=d') u aw hg nh
end
abbrev XK:=Value->Option Addr->Hp->Prop
abbrev St:=List (Option V)
abbrev VK:=V->Hp->Prop
abbrev TE:=St->Hp->VK->Prop
abbrev TT:=St->Hp->(Bool->Hp->Prop)->Prop
abbrev TA:=St->Hp->(List V->Hp->Prop)->Prop
structure Ends where
 nx:St->Hp->Prop
 rt:VK
 bk:St->Hp->Prop:=fun _ _=>False
 ct:St->Hp->Prop:=fun _ _=>False
abbrev TS:=Ends->St->Hp->Prop
def EP (X:Cx)(pins:List (Addr×Obj))(σ:St)(Q:VK)(u:Value)(s':Shared):Prop:=∃ v H',Inv X pins σ H' s'/\bw v u/\Q v H'
def TP (X:Cx)(pins:List (Addr×Obj))(σ:St)(Q:Bool->Hp->Prop)(b:Bool)(s':Shared):Prop:=∃ H',Inv X pins σ H' s'/\Q b H'
def AP (X:Cx)(pins:List (Addr×Obj))(σ:St)(Q:List V->Hp->Prop)(us:List Value)(s':Shared):Prop:=∃ vs H',Inv X pins σ H' s'/\aY vs us/\Q vs H'
def SP (X:Cx)(pins:List (Addr×Obj))(D:Ends)(f:Flow)(s':Shared):Prop:=
 match f with
 | .next=>∃ aF H',Inv X pins aF H' s'/\D.nx aF H'
 | .brk=>∃ aF H',Inv X pins aF H' s'/\D.bk aF H'
 | .cont=>∃ aF H',Inv X pins aF H' s'/\D.ct aF H'
 | .ret u=>∃ v aF H',Inv X pins aF H' s'/\bw v u/\D.rt v H'
def PE (X:Cx)(e:Expr)(t:TE):Prop:=
 ∀ (pins:List (Addr×Obj)) (s:Shared) (σ:St) (H:Hp) (Q:VK),Inv X pins σ H s->t σ H Q->wpAny (model X.prog X.w) X.A (eval e X.env) (EP X pins σ Q) X.xe s
structure QE (X:Cx) (e:Expr) (t:TE):Prop where mk::o:PE X e t
def PT (X:Cx)(e:Expr)(t:TT):Prop:=
 ∀ (pins:List (Addr×Obj)) (s:Shared) (σ:St) (H:Hp) (Q:Bool->Hp->Prop),Inv X pins σ H s->t σ H Q->wpAny (model X.prog X.w) X.A (isTrue e X.env (eval e X.env)) (TP X pins σ Q) X.xe s
def PW (X:Cx)(e:Expr)(t:TT):Prop:=
 ∀ (whole:Sem Value) (pins:List (Addr×Obj)) (s:Shared) (σ:St) (H:Hp) (Q:Bool->Hp->Prop),Inv X pins σ H s->t σ H Q->wpAny (model X.prog X.w) X.A (isTrue e X.env whole) (TP X pins σ Q) X.xe s
def PW.pt{X:Cx}{e:Expr}{t:TT}(h:PW X e t):PT X e t:=h _
def PA (X:Cx)(es:List Expr)(t:TA):Prop:=
 ∀ (pos:Pos) (pins:List (Addr×Obj)) (s:Shared) (σ:St) (H:Hp) (Q:List V->Hp->Prop),Inv X pins σ H s->t σ H Q->wpAny (model X.prog X.w) X.A (spliced (backTo pos (starEach es X.env))) (AP X pins σ Q) X.xe s
def PS (X:Cx)(st:Stmt)(t:TS):Prop:=
 ∀ (pins:List (Addr×Obj)) (s:Shared) (σ:St) (H:Hp) (D:Ends),Inv X pins σ H s->t D σ H->wpAny (model X.prog X.w) X.A (exec st X.env) (SP X pins D) X.xe s
def gB (X:Cx)(st:List Stmt)(t:TS):Prop:=
 ∀ (pins:List (Addr×Obj)) (s:Shared) (σ:St) (H:Hp) (D:Ends),Inv X pins σ H s->t D σ H->wpAny (model X.prog X.w) X.A (execs st X.env) (SP X pins D) X.xe s
def aU{α:Type}{t:Sem α}{Q Q':α->Shared->Prop}(h:wpAny M A t Q E s)(hQ:∀ a s,Q a s->Q' a s):wpAny M A t Q' E s:=ZB h hQ fun _ _ x=>x
section
variable {X:Cx}
def fK (i:Nat):TE:=fun σ H Q=>∃ v,σ[i]? = some (some v)/\Q v H
def tC (v:V):TE:=fun _ H Q=>Q v H
def Lm{pos:Pos}(hN:X.N[i]? = some x)(hv:tm X.env.scope x)(hd:(x==("__debug__":Str))=false:=by decide)(gC:(x==("__classdict__":Str))=false:=by decide):PE X (.Name x pos) (fK i):=by
 intro pins s σ H Q I h
 obtain⟨v,e,h⟩:=h
 obtain⟨m,hn,hl⟩:=I.loc
 obtain⟨u,r,l⟩:=hl i x v hN e hv
 have fin:EP X pins σ Q u s:=⟨v,H,I,r,h⟩
 rcases l with⟨hk,hm⟩|⟨hk,c,hc,jW⟩
 ·exact wpAny_Name (wpAny_loadName_local I.ok.kind hk hn hm fin) hd
 ·rcases hk with hk|hk
  ·exact wpAny_Name (wpAny_loadName_cell I.ok.kind hk hc jW fin) hd
  ·exact wpAny_Name (wpAny_loadName_free I.ok.kind hk hc jW fin gC) hd
def Ln{i j pos}:PE X (.Constant (.int i) j pos) (tC (.int i)):=fun _ _ _ H _ I h=>wpAny_Constant_int ⟨.int i,H,I.tok _,⟨_,rfl⟩,h⟩
def Lo{b j pos}:PE X (.Constant (.bool b) j pos) (tC (.bl b)):=fun _ _ _ H _ I h=>Constant_bool ⟨.bl b,H,I,rfl,h⟩
def Lp{j pos}:PE X (.Constant .none j pos) (tC .aK):=fun _ _ _ H _ I h=>Constant_none ⟨.aK,H,I,rfl,h⟩
def Ee{x j pos}:PE X (.Constant (.str x) j pos) (tC (.str x)):=fun _ _ _ H _ I h=>Calls.Constant_str ⟨.str x,H,I.tok _,⟨_,rfl⟩,h⟩
def Gl (X:Cx)(x:Str):Prop:=X.env.kindOf x=some .globalImplicit
def uI{E:Value->Shared->Prop}{σ:St}{H:Hp}{pos:Pos}{Q:Value->Shared->Prop}(I:Inv X pins σ H s)(hg:Gl X x)(hm:X.mg x=some u)(h:Q u s)
  (hd:(x==("__debug__":Str))=false:=by decide):wpAny (model X.prog X.w) X.A (eval (.Name x pos) X.env) Q E s:=
 Vd I.ok.kind hg (Calls.loadGlobal_global (by rw[I.ok.glob];exact I.mod.glob.keeps I.bk) hm h) hd
def qC{E:Value->Shared->Prop}{σ:St}{H:Hp}{pos:Pos}{Q:Value->Shared->Prop}(I:Inv X pins σ H s)(hg:Gl X x)(hm:X.mg x=none)(hv:bootBuiltins x=some u)(h:Q u s)
  (hn:x ≠ "__name__":=by decide) (hd:(x==("__debug__":Str))=false:=by decide):wpAny (model X.prog X.w) X.A (eval (.Name x pos) X.env) Q E s:=by
 obtain⟨mb,h1,h2⟩:=I.mod.blt
 exact Vd I.ok.kind hg (Calls.loadGlobal_builtin (by rw[I.ok.glob];exact I.mod.glob.keeps I.bk) hm (by rw[I.ok.blt];exact h1.keeps I.bk) ((h2 x hn).trans hv) h) hd
def Lq{v:V}{pos:Pos}(hg:Gl X x)(hm:X.mg x=some u)(r:bw v u)(hd:(x==("__debug__":Str))=false:=by decide):PE X (.Name x pos) (tC v):=
 fun _ _ _ H _ I h=>uI I hg hm ⟨v,H,I,r,h⟩ hd
def Ef{v:V}{pos:Pos}(hg:Gl X x)(hm:X.mg x=none)(hv:bootBuiltins x=some u)(r:bw v u)(hn:x ≠ "__name__":=by decide)(hd:(x==("__debug__":Str))=false:=by decide):PE X (.Name x pos) (tC v):=
 fun _ _ _ H _ I h=>qC I hg hm hv ⟨v,H,I,r,h⟩ hn hd
variable {a b:Expr}{ta tb:TE}{pos:Pos}
def PC (X:Cx)(op:CmpOp)(a b:Expr)(t:TE):Prop:=
 ∀ (pins:List (Addr×Obj)) (s:Shared) (σ:St) (H:Hp) (Q:VK),Inv X pins σ H s->t σ H Q->
  wpAny (model X.prog X.w) X.A (eval a X.env) (fun v aM=>wpAny (model X.prog X.w) X.A (eval b X.env) (fun u eN=>wpAny (model X.prog X.w) X.A (compareOp op v u) (EP X pins σ Q) X.xe eN) X.xe aM) X.xe s
def Lr(b:Expr)(h:op ≠ .In)(h2:op ≠ .NotIn):behindInMarks op b=false:=by
 have e1:(op==CmpOp.In)=false:=by cases op<;>first|rfl|exact absurd rfl h
 have e2:(op==CmpOp.NotIn)=false:=by cases op<;>first|rfl|exact absurd rfl h2
 cases b<;>simp[behindInMarks,e1,e2]
def tB (t:TE):TT:=fun σ H Q=>t σ H fun x H1=>∃ c,x=.bl c/\Q c H1
def Ls{t:TE}(h:PC X op a b t)(h1:behindInMarks op b=false:=by first|exact Lr _ (by decide) (by decide)|rfl):PT X (.Compare a [op] [b] pos) (tB t):=by
 intro pins s σ H Q I hw
 refine wpAny_isTrue_Compare1 (aU (h pins s σ H _ I hw) fun v s1 h1=>aU h1 fun u s2 h2=>aU h2 fun c s3 ⟨x,H1,I1,r1,q1⟩=>?_) h1
 obtain⟨d,rfl,q⟩:=q1
 cases r1
 exact ZT ⟨H1,I1,q⟩
variable {tA xG:TT}{bc:List Expr}
def Lu (t u:TT):TT:=fun σ H Q=>t σ H fun c H1=>if c=true then u σ H1 Q else Q false H1
def Lv (t u:TT):TT:=fun σ H Q=>t σ H fun c H1=>if c=true then Q true H1 else u σ H1 Q
def Lw (t:TT):TT:=fun σ H Q=>t σ H fun c H1=>Q (!c) H1
def Lx(ha:PT X a tA):PW X (.BoolOp .And [a] pos) tA:=by
 intro wh pins s σ H Q I h
 refine isTrue_and (aU (ha pins s σ H Q I h) fun c s1 e=>?_)
 cases c with
 | true=>exact isTrue_and_nil e
 | false=>exact e
def Ly(ha:PT X a tA):PW X (.BoolOp .Or [a] pos) tA:=by
 intro wh pins s σ H Q I h
 refine isTrue_or (aU (ha pins s σ H Q I h) fun c s1 e=>?_)
 cases c with
 | false=>exact isTrue_or_nil e
 | true=>exact e
def Lz(ha:PT X a tA)(hb:PW X (.BoolOp .And (b::bc) pos) xG):PW X (.BoolOp .And (a::b::bc) pos) (Lu tA xG):=by
 intro wh pins s σ H Q I h
 refine isTrue_and (aU (ha pins s σ H _ I h) fun c s1 ag=>?_)
 obtain⟨H1,I1,q1⟩:=ag
 cases c with
 | true=>exact hb wh pins s1 σ H1 Q I1 q1
 | false=>exact⟨H1,I1,q1⟩
def LA(ha:PT X a tA)(hb:PW X (.BoolOp .Or (b::bc) pos) xG):PW X (.BoolOp .Or (a::b::bc) pos) (Lv tA xG):=by
 intro wh pins s σ H Q I h
 refine isTrue_or (aU (ha pins s σ H _ I h) fun c s1 ag=>?_)
 obtain⟨H1,I1,q1⟩:=ag
 cases c with
 | true=>exact⟨H1,I1,q1⟩
 | false=>exact hb wh pins s1 σ H1 Q I1 q1
def LB(ha:PT X a tA):PT X (.UnaryOp .Not a pos) (Lw tA):=by
 intro pins s σ H Q I h
 exact isTrue_not (ha pins s σ H (fun c H1=>Q (!c) H1) I h)
def LC (ta tb:TE):TE:=fun σ H Q=>ta σ H fun x H1=>∃ c,x=.bl c/\if c=true then tb σ H1 Q else Q (.bl false) H1
def LD (ta:TE):TE:=fun σ H Q=>ta σ H fun x H1=>∃ c,x=.bl c/\Q (.bl (!c)) H1
def LF{op}{t:TE}(h:PE X a t):PE X (.BoolOp op [a] pos) t:=fun pins s σ H Q I hw=>BoolOp_one (h pins s σ H Q I hw)
def LG(ha:PE X a ta)(hb:PE X (.BoolOp .And (b::bc) pos) tb):PE X (.BoolOp .And (a::b::bc) pos) (LC ta tb):=by
 intro pins s σ H Q I h
 refine BoolOp_and (aU (ha pins s σ H _ I h) fun v s1 ag=>?_)
 obtain⟨x,H1,I1,r1,q1⟩:=ag
 obtain⟨c,rfl,q1⟩:=q1
 cases r1
 refine ZT ?_
 cases c with
 | true=>exact hb pins s1 σ H1 Q I1 q1
 | false=>exact⟨.bl false,H1,I1,rfl,q1⟩
def LH(ha:PE X a ta):PE X (.UnaryOp .Not a pos) (LD ta):=by
 intro pins s σ H Q I h
 refine UnaryOp_ (aU (ha pins s σ H _ I h) fun v s1 ag=>?_)
 obtain⟨x,H1,I1,r1,q1⟩:=ag
 obtain⟨c,rfl,q1⟩:=q1
 cases r1
 exact not_of (ZT ⟨.bl (!c),H1,I1,rfl,q1⟩)
def LJ (t:TT)(ta tb:TE):TE:=fun σ H Q=>t σ H fun c H1=>if c=true then ta σ H1 Q else tb σ H1 Q
def LK(hc:PT X c tA)(ha:PE X a ta)(hb:PE X b tb):PE X (.IfExp c a b pos) (LJ tA ta tb):=by
 intro pins s σ H Q I h
 refine wpAny_IfExp (aU (hc pins s σ H _ I h) fun d s1 ag=>?_)
 obtain⟨H1,I1,q1⟩:=ag
 cases d with
 | true=>exact ha pins s1 σ H1 Q I1 q1
 | false=>exact hb pins s1 σ H1 Q I1 q1
end
def cn (K:PySem.W.Frag)(H:Hp)(a:Addr)(xs:List V):Prop:=
 Rd H a (.lst xs) \/
  ∃ (o:Obj) (ao:Array Value) (n:Nat),K.lookup a=some o/\o.cls=.type "list" /\ o.dict=none/\o.data=.seq ao n/\ao.size<=sizeLine/\aY xs ao.toList
def dh (K:PySem.W.Frag)(H:Hp)(a:Addr)(xs:List V):Prop:=
 Rd H a (.tup xs) \/
  ∃ (o:Obj) (ao:Array Value) (n:Nat),K.lookup a=some o/\o.cls=.type "tuple" /\ o.data=.seq ao n/\ao.size<=sizeLine/\aY xs ao.toList
def LL:Value->Option V
 | .none=>some .aK
 | .bool b=>some (.bl b)
 | .int i _=>some (.int i)
 | .str x _=>some (.str x)
 | .bytes b _=>some (.uA b)
 | .float b _=>some (.s_ b)
 | .ref a=>some (.ref a)
 | .type n=>some (.ty n)
 | _=>none
def bw.abs{x:V}(r:bw x u):LL u=some x:=by
 cases x with
 | aK=>cases r;rfl
 | bl _=>cases r;rfl
 | int _=>obtain⟨t,rfl⟩:=r;rfl
 | str _=>obtain⟨t,rfl⟩:=r;rfl
 | uA _=>obtain⟨t,rfl⟩:=r;rfl
 | s_ _=>obtain⟨t,rfl⟩:=r;rfl
 | ref _=>cases r;rfl
 | ty _=>cases r;rfl
def bw.inj{x y:V}(r:bw x u)(q:bw y u):x=y:=QC (r.abs.symm.trans q.abs)
def aY.inj:∀ {xs ys:List V} {us:List Value},aY xs us->aY ys us->xs=ys
 | _,_,_,.nil,.nil=>rfl
 | _,_,_,.cons r t,.cons r' t'=>by rw[r.inj r',aY.inj t t']
section
variable {X:Cx}{pins:List (Addr×Obj)}{σ:St}{H:Hp}{s:Shared}{a:Addr}{xs ys:List V}
def cn.of(h:H a=some (.lst xs)):cn K H a xs:=.inl (.inl h)
def dh.of(h:H a=some (.tup xs)):dh K H a xs:=.inl (.inl h)
def Inv.list(I:Inv X pins σ H s)(h:cn X.K H a xs):∃ ao:List Value,aY xs ao/\PlainL s.heap a ao.toArray/\xs.length<=sizeLine:=by
 rcases h with h|⟨o,ao,n,hk,hc,hd,hs,hz,r⟩
 ·obtain⟨z,ao,n,r,e⟩:=h.ok I.aw
  exact⟨ao,r,⟨_,n,e,rfl,rfl,rfl⟩,z⟩
 ·refine⟨ao.toList,r,⟨o,n,I.eL a o hk,hc,hd,by simpa using hs⟩,?_⟩
  have e:=r.length
  simp only[QH]at e
  omega
def Inv.tuple(I:Inv X pins σ H s)(h:dh X.K H a xs):∃ ao:List Value,aY xs ao/\IsTup s.heap a ao.toArray/\xs.length<=sizeLine:=by
 rcases h with h|⟨o,ao,n,hk,hc,hs,hz,r⟩
 ·obtain⟨z,ao,r,p⟩:=h.ok I.aw
  exact⟨ao,r,p.tup,z⟩
 ·refine⟨ao.toList,r,⟨o,I.eL a o hk,hc,n,by simpa using hs⟩,?_⟩
  have e:=r.length
  simp only[QH]at e
  omega
def Inv.iQ(I:Inv X pins σ H s)(h:cn X.K H a xs)(h':cn X.K H a ys):xs=ys:=by
 obtain⟨ao,r,⟨o,n,e,_,_,d⟩,_⟩:=I.list h
 obtain⟨its',r',⟨o',n',e',_,_,d'⟩,_⟩:=I.list h'
 rw[e]at e';cases e'
 rw[d]at d'
 injection d' with d1 _
 have:ao=its':=by simpa using Jb Array.toList d1
 subst this
 exact r.inj r'
def Inv.gW(I:Inv X pins σ H s)(h:dh X.K H a xs)(h':dh X.K H a ys):xs=ys:=by
 obtain⟨ao,r,⟨o,e,_,n,d⟩,_⟩:=I.tuple h
 obtain⟨its',r',⟨o',e',_,n',d'⟩,_⟩:=I.tuple h'
 rw[e]at e';cases e'
 rw[d]at d'
 injection d' with d1 _
 have:ao=its':=by simpa using Jb Array.toList d1
 subst this
 exact r.inj r'
end
abbrev Cx.gD (X:Cx)(E:Value->Shared->Prop):Cx:={ X with xe:=E }
abbrev Cx.iR (X:Cx):Cx:=X.gD fun _ _=>False
def Cx.Ok.gD{X:Cx}(ok:X.Ok)(E:Value->Shared->Prop):(X.gD E).Ok:=
 ⟨ok.mod,ok.kind,ok.glob,ok.blt,ok.above,ok.inj,ok.has,ok.tq,ok.hd,ok.frames,ok.uE,ok.xD,ok.bs,ok.lI,ok.kB,ok.kC,ok.eK,ok.qA⟩
def Cx.Ok.di{X:Cx}(ok:(X.gD E).Ok):X.Ok:=
 ⟨ok.mod,ok.kind,ok.glob,ok.blt,ok.above,ok.inj,ok.has,ok.tq,ok.hd,ok.frames,ok.uE,ok.xD,ok.bs,ok.lI,ok.kB,ok.kC,ok.eK,ok.qA⟩
section
variable {X:Cx}{pins:List (Addr×Obj)}{σ:St}{H:Hp}{s:Shared}{E:Value->Shared->Prop}
def Inv.gD(I:Inv X pins σ H s)(E:Value->Shared->Prop):Inv (X.gD E) pins σ H s:=⟨I.ok.gD E,I.os,I.bare,I.base,I.loc,I.cell,I.free,I.cD,I.pin,I.aw,I.len⟩
def Inv.di(I:Inv (X.gD E) pins σ H s):Inv X pins σ H s:=⟨I.ok.di,I.os,I.bare,I.base,I.loc,I.cell,I.free,I.cD,I.pin,I.aw,I.len⟩
def SP.di{D:Ends}{f:Flow}(h:SP (X.gD E) pins D f s'):SP X pins D f s':=by
 cases f with
 | next=>obtain⟨aF,H',I,q⟩:=h;exact⟨aF,H',I.di,q⟩
 | brk=>obtain⟨aF,H',I,q⟩:=h;exact⟨aF,H',I.di,q⟩
 | cont=>obtain⟨aF,H',I,q⟩:=h;exact⟨aF,H',I.di,q⟩
 | ret u=>obtain⟨v,aF,H',I,r,q⟩:=h;exact⟨v,aF,H',I.di,r,q⟩
def gB.iR{st:List Stmt}{t:TS}(h:gB X.iR st t):gB X st t:=fun pins s σ H D I hw=>
 ZB (h pins s σ H D (I.gD _) hw) (fun _ _ q=>q.di) fun _ _ z=>False.elim z
end
section
variable {X:Cx}{st:Stmt}{bc:List Stmt}{t u:TS}{e:Expr}{te:TE}{pos:Pos}
def LM:TS:=fun D σ H=>D.nx σ H
def LN (t u:TS):TS:=fun D σ H=>t { D with nx:=u D } σ H
def LO:gB X [] LM:=fun _ _ σ H _ I h=>Yd ⟨σ,H,I,h⟩
def LP(h1:PS X st t)(h2:gB X bc u):gB X (st::bc) (LN t u):=by
 intro pins s σ H D I h
 refine Yz (aU (h1 pins s σ H { D with nx:=u D } I h) fun f s1 q=>?_)
 cases f with
 | next=>
  obtain⟨aF,H',I',q⟩:=q
  exact h2 pins s1 aF H' D I' q
 | ret v=>exact q
 | brk=>exact q
 | cont=>exact q
def Eg(h1:PS X st t):gB X [st] t:=by
 intro pins s σ H D I h
 refine Yz (aU (h1 pins s σ H D I h) fun f s1 q=>?_)
 cases f with
 | next=>exact Yd q
 | ret v=>exact q
 | brk=>exact q
 | cont=>exact q
def Inv.quiet{σ:St}{H:Hp}(I:Inv X pins σ H s):interactive X.env=false:=by simp[interactive,I.ok.kind]
def LQ (te:TE):TS:=fun D σ H=>te σ H fun _ H1=>D.nx σ H1
def Eh(he:PE X e te)(hs:swapsWith e none pos.line X.env=pure false:=by rfl):PS X (.Expr e pos) (LQ te):=by
 intro pins s σ H D I h
 exact wpAny_Expr_any (aU (he pins s σ H _ I h) fun v s1 ⟨x,H1,I1,r1,q1⟩=>⟨σ,H1,I1,q1⟩) I.quiet hs
def LR (te:TE):TS:=fun D σ H=>te σ H D.rt
def Ei(he:PE X e te):PS X (.Return (some e) pos) (LR te):=by
 intro pins s σ H D I h
 exact wpAny_Return_some (aU (he pins s σ H _ I h) fun v s1 ⟨x,H1,I1,r1,q1⟩=>⟨x,σ,H1,I1,r1,q1⟩)
def LS (c:TT)(t u:TS):TS:=fun D σ H=>c σ H fun b H1=>if b=true then t D σ H1 else u D σ H1
def Ej{a b:List Stmt}{tc:TT}(hc:PT X c tc)(ha:gB X a t)(hb:gB X b u):PS X (.If c a b pos) (LS tc t u):=by
 intro pins s σ H D I h
 refine wpAny_If (aU (hc pins s σ H _ I h) fun d s1 ag=>?_)
 obtain⟨H1,I1,q1⟩:=ag
 cases d with
 | true=>exact ha pins s1 σ H1 D I1 q1
 | false=>exact hb pins s1 σ H1 D I1 q1
def LU:TS:=fun _ _ _=>False
def LV:PS X st LU:=fun _ _ _ _ _ _ h=>h.elim
end
abbrev TG:=V->St->Hp->(St->Hp->Prop)->Prop
abbrev n8:=List V->St->Hp->(St->Hp->Prop)->Prop
def PG (X:Cx)(target:Expr)(t:TG):Prop:=
 ∀ (pins:List (Addr×Obj)) (s:Shared) (σ:St) (H:Hp) (v:V) (u:Value) (Q:St->Hp->Prop),Inv X pins σ H s->bw v u->t v σ H Q->
  wpAny (model X.prog X.w) X.A (assign target X.env u) (fun _ s'=>∃ aF H',Inv X pins aF H' s'/\Q aF H') X.xe s
def nq (X:Cx)(ts:List Expr)(t:n8):Prop:=
 ∀ (pins:List (Addr×Obj)) (s:Shared) (σ:St) (H:Hp) (vs:List V) (us:List Value) (Q:St->Hp->Prop),Inv X pins σ H s->aY vs us->t vs σ H Q->
  wpAny (model X.prog X.w) X.A (assignInOrder ((assignEach ts X.env).map (·.2)) us) (fun _ s'=>∃ aF H',Inv X pins aF H' s'/\Q aF H') X.xe s
abbrev z_:=V->V->V->Hp->(Hp->Prop)->Prop
def Ek (X:Cx)(t:z_):Prop:=
 ∀ (pins:List (Addr×Obj)) (s:Shared) (σ:St) (H:Hp) (o i v:V) (ov iv u:Value) (Q:Hp->Prop),Inv X pins σ H s->bw o ov->bw i iv->bw v u->t o i v H Q->
  wpAny (model X.prog X.w) X.A (setItem ov iv u) (fun _ s'=>∃ H',Inv X pins σ H' s'/\Q H') X.xe s
section
variable {X:Cx}{pos:Pos}
def Aa (i:Nat):TG:=fun v σ H Q=>Q (σ.set i (some v)) H
def LW(hN:X.N.Nodup)(hi:X.N[i]? = some x)(hx:Loc X.env.scope x)(hf:X.fn x=true\/X.env.scope.names.lookup x=some .local:=by first|exact .inl rfl|exact .inr rfl|assumption):PG X (.Name x pos) (Aa i):=by
 intro pins s σ H v u Q I r h
 exact wpAny_assign_Name (zZ I hN hi hx r (fun s' I'=>⟨_,H,I',h⟩) hf)
def LX:n8:=fun vs σ H Q=>vs=[]/\Q σ H
def LY (t:TG)(u:n8):n8:=fun vs σ H Q=>∃ v r,vs=v::r/\t v σ H fun aF H'=>u r aF H' Q
def LZ:nq X [] LX:=by
 intro pins s σ H vs us Q I r h
 obtain⟨e,h⟩:=h
 subst e
 cases r
 exact assignInOrder_nil ⟨σ,H,I,h⟩
def L6{e:Expr}{t:TG}{u:n8}(h1:PG X e t)(h2:nq X es u)
  (hs:(assignEach (e::es) X.env).map (·.2)=assign e X.env::(assignEach es X.env).map (·.2):=by rfl):nq X (e::es) (LY t u):=by
 intro pins s σ H vs us Q I r h
 obtain⟨v,vr,e1,h⟩:=h
 subst e1
 cases r with
 | cons r rr=>
  rw[hs]
  refine assignInOrder_cons (aU (h1 pins s σ H _ _ _ I r h) fun _ s1 ag=>?_)
  obtain⟨qD,H1,I1,q1⟩:=ag
  exact h2 pins s1 qD H1 _ _ Q I1 rr q1
def L7 (K:PySem.W.Frag)(n:Nat)(t:n8):TG:=fun v σ H Q=>∃ a xs,v=.ref a/\dh K H a xs/\xs.length=n/\t xs σ H Q
def L8{k:Nat}{t:n8}(hc:X.calm=true)(h:nq X es t)
  (hn:(assignEach es X.env).length=n:=by rfl) (ff:(assignEach es X.env).findIdx? (·.1)=none:=by rfl):PG X (.Tuple es k pos) (L7 X.K n t):=by
 intro pins s σ H v u Q I r hw
 obtain⟨a,xs,e1,hq,hl,hw⟩:=hw
 subst e1
 cases r
 obtain⟨ao,rv,ht,hz⟩:=I.tuple hq
 refine assign_Tuple_tuple (I.ok.hd hc) ht (by simp[hn,<- hl,rv.length]) ff fun h' hx=>?_
 have I1:Inv X pins σ H { s with heap:=h' }:=I.kept (t':=s.toks) fun b o e=>hx b o (Qz (Qm e)) e
 exact h pins _ σ H xs _ Q I1 (by simpa using rv) hw
def L9 (to ti:TE)(t:z_):TG:=fun v σ H Q=>to σ H fun o H1=>ti σ H1 fun i H2=>t o i v H2 fun H3=>Q σ H3
def L_{o i:Expr}{to ti:TE}{t:z_}(ho:PE X o to)(hi:PE X i ti)(hs:Ek X t)
  (ha:∀ v,assign (.Subscript o i pos) X.env v=(do
    let ov <- holding [v] (eval o X.env)
    let iv <- holding [v,ov] (eval i X.env)
    standAt pos
    holding [v,ov,iv] (setItem ov iv v)
    release [v,ov,iv] []):=by intro _;rfl):PG X (.Subscript o i pos) (L9 to ti t):=by
 intro pins s σ H v u Q I r h
 rw[ha]
 refine Qa (QZ (aU (ho pins s σ H _ I h) fun ov s1 ag=>?_))
 obtain⟨x,H1,I1,r1,q1⟩:=ag
 refine Qa (QZ (aU (hi pins s1 σ H1 _ I1 q1) fun iv s2 ag=>?_))
 obtain⟨y,H2,I2,r2,q2⟩:=ag
 refine Qa (wpAny_standAt (Qa (QZ (aU (hs pins s2 σ H2 x y v ov iv u _ I2 r1 r2 r q2) fun _ s3 ag=>?_))))
 obtain⟨H3,I3,q3⟩:=ag
 exact wpAny_release ⟨σ,H3,I3,q3⟩
def Ab (te:TE)(g:TG):TS:=fun D σ H=>te σ H fun x H1=>g x σ H1 D.nx
def El{e:Expr}{te:TE}{g:TG}(he:PE X e te)(hg:PG X tg g)(hs:swapsWithSole [tg] e pos.line X.env=pure false:=by rfl)(hw:swappedStores [tg] e X.env=pure none:=by rfl)
  (h1:(assignEach [tg] X.env).map (·.2)=[assign tg X.env]:=by rfl):PS X (.Assign [tg] e pos) (Ab te g):=by
 intro pins s σ H D I h
 refine wpAny_Assign_stores (aU (he pins s σ H _ I h) fun v s1 ⟨x,H1,I1,r1,q1⟩=>?_) hs hw
 rw[h1]
 exact aU (hg pins s1 σ H1 x v _ I1 r1 q1) fun _ s2 q=>q
def Em{e:Expr}{te:TE}{pos':Pos}(hN:X.N.Nodup)(hi:X.N[i]? = some x)(hx:Loc X.env.scope x)(he:PE X e te)(hs:swapsWith e (some (.Name x pos')) pos.line X.env=pure false:=by rfl)(hf:X.fn x=true\/X.env.scope.names.lookup x=some .local:=by first|exact .inl rfl|exact .inr rfl|assumption) :
  PS X (.Assign [.Name x pos'] e pos) (Ab te (Aa i)):=by
 intro pins s σ H D I h
 refine wpAny_Assign_Name (aU (he pins s σ H _ I h) fun v s1 ⟨y,H1,I1,r1,q1⟩=>?_) hs
 exact zZ I1 hN hi hx r1 (fun s2 I2=>⟨_,H1,I2,q1⟩) hf
def Ma (c:TT)(tb:TS):TS:=fun D σ H=>∃ W:Nat->St->Hp->Prop,(∃ m,W m σ H)/\∀ m σ H,W m σ H->
 c σ H fun b H1=>if b=true then ∃ N:St->Hp->Prop,(∀ aF H',N aF H'->∃ m',m'<m/\W m' aF H')/\tb { D with nx:=N,ct:=N,bk:=D.nx } σ H1 else D.nx σ H1
def Mb{tc:TT}{tb:TS}(hp:PassesOwn (model X.prog X.w) X.A X.env X.xe)(hc:PT X c tc)(hb:gB X body tb):PS X (.While c body [] pos) (Ma tc tb):=by
 intro pins s σ H D I h
 obtain⟨W,⟨m0,w0⟩,turn⟩:=h
 refine wpAny_While (codeAny_whileLoop (fun n s'=>∃ aF H',Inv X pins aF H' s'/\W n aF H') ?_ m0 ⟨σ,H,I,w0⟩)
 rintro n s1 ⟨qD,H1,I1,w1⟩
 refine Ji hp (aU (hc pins s1 qD H1 _ I1 (turn n qD H1 w1)) fun b s2 ag=>?_)
 obtain⟨H2,I2,q2⟩:=ag
 cases b with
 | true=>
  obtain⟨N,hN,q2⟩:=q2
  rw[Qi rfl]
  refine Ji hp (aU (hb pins s2 qD H2 _ I2 q2) fun f s3 q3=>?_)
  cases f with
  | next=>
   obtain⟨lL,H3,I3,n3⟩:=q3
   obtain⟨m',hm,w3⟩:=hN lL H3 n3
   exact⟨m',hm,lL,H3,I3,w3⟩
  | cont=>
   obtain⟨lL,H3,I3,n3⟩:=q3
   obtain⟨m',hm,w3⟩:=hN lL H3 n3
   exact⟨m',hm,lL,H3,I3,w3⟩
  | brk=>exact q3
  | ret v=>exact q3
 | false=>
  rw[Qj Ze]
  exact Yd ⟨qD,H2,I2,q2⟩
end
structure It where
 go:Nat->Hp->Prop
 qE:Nat->Hp->V->Hp->Prop
 stop:Nat->Hp->Prop
def lN (X:Cx)(pins:List (Addr×Obj))(H:Hp)(b:Addr):Prop:=
 H b=none/\b≠X.env.locals/\b ∉ X.fs/\(b∈X.ex\/X.av.heap.objs.size<=b)/\(∀ x c,X.env.cells.lookup x=some c->c≠b)/\∀ p∈X.pn++pins,p.1≠b
def Inv.n9{X:Cx}{σ:St}{H H':Hp}(I:Inv X pins σ H s)(hb:s.heap.objs.size<=b)(hn:H' b=none):lN X pins H' b:=by
 refine⟨hn,Y8 (Qs I.lt hb),I.uF hb,.inr (QU I.sz hb),fun x c e z=>?_,fun p hp z=>?_⟩
 ·obtain⟨v,q⟩:=I.cell x c e
  exact absurd (Qs q.lt (by rw[z];exact hb)) (Q6 _)
 ·exact absurd (Qs (Qm (I.pin p hp).1) (by rw[z];exact hb)) (Q6 _)
structure Turn (P:Program) (w:World) (K:PySem.W.Frag) (tg:Expr) (J:It) (fp:List Addr) (it:Addr) (tn:Nat->Heap->Prop):Prop where
 mem:it∈fp
 obj:∀ i h,tn i h->∀ b∈fp,∃ o,h.get? b=some o/\∀ v,o.data ≠ .cell v
 keep:∀ i h h',tn i h->(∀ b∈fp,∀ o,h.get? b=some o->h'.get? b=some o)->tn i h'
 item:∀ (X:Cx),X.prog=P->X.w=w->X.K=K->X.calm=true->∀ (i:Nat) (pins:List (Addr×Obj)) (s:Shared) (σ:St) (H:Hp) (E:Value->Shared->Prop),Inv X pins σ H s->(∀ b∈fp,lN X pins H b)->tn i s.heap->J.go i H->
  wpAny (model P w) X.A (pyNext (.ref it)) (fun r s1=>∃ u,r=some u /\
   wpAny (model P w) X.A (letOwnedTupleGo tg (.ref it) u) (fun _ s2=>∃ x H',Inv X pins σ H' s2/\bw x u/\J.qE i H x H'/\tn (i+1) s2.heap/\∀ b∈fp,H' b=none) E s1) E s
 done:∀ (X:Cx),X.prog=P->X.w=w->X.K=K->X.calm=true->∀ (i:Nat) (pins:List (Addr×Obj)) (s:Shared) (σ:St) (H:Hp) (E:Value->Shared->Prop),Inv X pins σ H s->(∀ b∈fp,lN X pins H b)->tn i s.heap->J.stop i H->
  wpAny (model P w) X.A (pyNext (.ref it)) (fun r s1=>r=none/\Inv X pins σ H s1) E s
 self:∀ (A:Around) (i:Nat) (s:Shared) (Q:Value->Shared->Prop) (E:Value->Shared->Prop),tn i s.heap->Q (.ref it) s->wpAny (model P w) A (pyIter (.ref it)) Q E s
abbrev TI:=St->Hp->(It->Hp->Prop)->Prop
def Ac (X:Cx)(pins:List (Addr×Obj))(σ:St)(tg:Expr)(R:It->Hp->Prop)(xH:Value)(s2:Shared):Prop:=
 ∃ (it:Addr) (fp:List Addr) (tn:Nat->Heap->Prop) (J:It) (H':Hp),xH=.ref it/\Inv X pins σ H' s2/\Turn X.prog X.w X.K tg J fp it tn/\tn 0 s2.heap/\(∀ b∈fp,lN X pins H' b)/\R J H'
def PI (X:Cx)(tg iter:Expr)(wi:TI):Prop:=
 ∀ (pins:List (Addr×Obj)) (s:Shared) (σ:St) (H:Hp) (R:It->Hp->Prop),Inv X pins σ H s->wi σ H R->
  wpAny (model X.prog X.w) X.A (eval iter X.env) (fun v s1=>wpAny (model X.prog X.w) X.A (pyIter v) (Ac X pins σ tg R) X.xe s1) X.xe s
def Ad{n:String}{vs:Array Value}(ho:s.heap.get? it=some o)(hc:o.cls=.type n)(hd:o.data=.fields vs)
  (hn:["enumerate","zip","dict_itemiterator","dict_reverseitemiterator","odict_iterator","itertools.zip_longest","itertools.pairwise"].contains n=false) (hQ:Q () s):wpAny M A (letOwnedTupleGo tg (.ref it) u) Q E s:=by
 unfold letOwnedTupleGo
 cases tg<;>first
  | exact Qc hQ
  | (cases u<;>first
      | exact Qc hQ
      | (refine Qa (wpAny_load ho ?_)
         rw[hc,hd]
         show wpAny M A (if(["enumerate","zip","dict_itemiterator","dict_reverseitemiterator","odict_iterator","itertools.zip_longest","itertools.pairwise"].contains n&&vs[0]? == some (rawInt _))=true then _ else _) Q E s
         rw[Qj (by intro h;rw[hn,Bool.false_and]at h;cases h)]
         exact Qc hQ))
def Ae (K:PySem.W.Frag)(a:Addr):It:=
 ⟨fun i H=>∃ xs x,cn K H a xs/\xs[i]? = some x,fun i H x H'=>H'=H/\∀ xs,cn K H a xs->xs[i]? = some x,fun i H=>∃ xs,cn K H a xs/\xs.length<=i⟩
def Af (K:PySem.W.Frag)(a:Addr):It:=
 ⟨fun i H=>∃ xs x,dh K H a xs/\xs[i]? = some x,fun i H x H'=>H'=H/\∀ xs,dh K H a xs->xs[i]? = some x,fun i H=>∃ xs,dh K H a xs/\xs.length<=i⟩
def tz (lo:Int)(n:Nat):It:=⟨fun i _=>i<n,fun i H x H'=>H'=H/\x=.int (lo+i),fun i _=>n<=i⟩
def Mc(a it:Addr):Turn P w K tg (Ae K a) [it] it (fun i h=>h.IsListIter it a i) where
 mem:=by simp
 obj:=fun i h st b hb=>by
  have e:b=it:=by simpa using hb
  subst e
  obtain⟨o,e,c,d⟩:=st
  exact⟨o,e,fun v z=>by rw[d]at z;cases z⟩
 keep:=fun i h h' st k=>st.at fun o e=>k it (by simp) o e
 item:=by
  intro X hP hw hK hc i pins s σ H E I hf st hg
  subst hP hw hK
  obtain⟨xs,x,hq,hx⟩:=hg
  obtain⟨ao,rv,p,hz⟩:=I.list hq
  obtain⟨u,hu,ru⟩:=rv.get hx
  obtain⟨f0,f1,f2,f3,f4,f5⟩:=hf it (by simp)
  refine wpAny_pyNext_list_item st p.isList (x:=u) (by simpa using hu) fun h' kF sb=>?_
  have I1:Inv X pins σ H { s with heap:=h' }:=I.turned (t':=s.toks) (fun b o hb e=>(sb.2 b hb).trans e) f0 f1 f3 f4 f5
  obtain⟨o,e,c,d⟩:=id kF
  exact⟨u,rfl,Ad (s:={ s with heap:=h' }) e c d (by decide) ⟨x,H,I1,ru,⟨rfl,fun ys hy=>by rw[I.iQ hy hq];exact hx⟩,kF,fun b hb=>(hf b hb).1⟩⟩
 done:=by
  intro X hP hw hK hc i pins s σ H E I hf st hg
  subst hP hw hK
  obtain⟨xs,hq,hx⟩:=hg
  obtain⟨ao,rv,p,hz⟩:=I.list hq
  obtain⟨f0,f1,f2,f3,f4,f5⟩:=hf it (by simp)
  have hl:=rv.length
  exact wpAny_pyNext_list_end (I.ok.hd hc) st p.isList (by simp;omega) fun h' eb=>⟨rfl,I.turned (t':=s.toks) (fun b o hb e=>eb b o hb e) f0 f1 f3 f4 f5⟩
 self:=fun _ _ _ _ _ st h=>wpAny_pyIter_listiter st h
def Md(a it:Addr):Turn P w K tg (Af K a) [it] it (fun i h=>h.IsTupleIter it a i) where
 mem:=by simp
 obj:=fun i h st b hb=>by
  have e:b=it:=by simpa using hb
  subst e
  obtain⟨o,e,c,d⟩:=st
  exact⟨o,e,fun v z=>by rw[d]at z;cases z⟩
 keep:=fun i h h' st k=>st.at fun o e=>k it (by simp) o e
 item:=by
  intro X hP hw hK hc i pins s σ H E I hf st hg
  subst hP hw hK
  obtain⟨xs,x,hq,hx⟩:=hg
  obtain⟨ao,rv,p,hz⟩:=I.tuple hq
  obtain⟨u,hu,ru⟩:=rv.get hx
  obtain⟨f0,f1,f2,f3,f4,f5⟩:=hf it (by simp)
  refine wpAny_pyNext_tuple_item st (show s.heap.IsTuple a ao.toArray from p) (x:=u) (by simpa using hu) fun h' kF sb=>?_
  have I1:Inv X pins σ H { s with heap:=h' }:=I.turned (t':=s.toks) (fun b o hb e=>(sb.2 b hb).trans e) f0 f1 f3 f4 f5
  obtain⟨o,e,c,d⟩:=id kF
  exact⟨u,rfl,Ad (s:={ s with heap:=h' }) e c d (by decide) ⟨x,H,I1,ru,⟨rfl,fun ys hy=>by rw[I.gW hy hq];exact hx⟩,kF,fun b hb=>(hf b hb).1⟩⟩
 done:=by
  intro X hP hw hK hc i pins s σ H E I hf st hg
  subst hP hw hK
  obtain⟨xs,hq,hx⟩:=hg
  obtain⟨ao,rv,p,hz⟩:=I.tuple hq
  obtain⟨f0,f1,f2,f3,f4,f5⟩:=hf it (by simp)
  have hl:=rv.length
  exact wpAny_pyNext_tuple_end (I.ok.hd hc) st (show s.heap.IsTuple a ao.toArray from p) (by simp;omega) fun h' eb=>⟨rfl,I.turned (t':=s.toks) (fun b o hb e=>eb b o hb e) f0 f1 f3 f4 f5⟩
 self:=fun _ _ _ _ _ st h=>wpAny_pyIter_tupleiter st h
def Me(it:Addr)(lo:Int)(n:Nat):Turn P w K tg (tz lo n) [it] it (fun i h=>IsRangeIter h it (lo+(i:Nat)*1) ((n:Int)-(i:Nat)) 1) where
 mem:=by simp
 obj:=fun i h st b hb=>by
  have e:b=it:=by simpa using hb
  subst e
  exact⟨_,st,fun v z=>by
   have z':Data.fields _=Data.cell v:=z
   cases z'⟩
 keep:=fun i h h' st k=>k it (by simp) _ st
 item:=by
  intro X hP hw hK hc i pins s σ H E I hf st hg
  subst hP hw hK
  obtain⟨f0,f1,f2,f3,f4,f5⟩:=hf it (by simp)
  have W:=Walks.range (prog:=X.prog) (w:=X.w) (I.ok.hd hc) it lo 1 n
  refine W.item i s _ _ hg st fun v h' tk hv kF kk=>?_
  obtain⟨t,rfl⟩:=hv
  have I1:Inv X pins σ H { s with heap:=h',toks:=tk }:=I.turned (fun b o hb e=>kk b o (by simpa using hb) e) f0 f1 f3 f4 f5
  refine⟨_,rfl,Ad (s:={ s with heap:=h',toks:=tk }) (n:="range_iterator") kF rfl rfl (by decide) ⟨.int (lo+i),H,I1,⟨t,?_⟩,⟨rfl,rfl⟩,kF,fun b hb=>(hf b hb).1⟩⟩
  rw[Int.mul_one]
 done:=by
  intro X hP hw hK hc i pins s σ H E I hf st hg
  subst hP hw hK
  obtain⟨f0,f1,f2,f3,f4,f5⟩:=hf it (by simp)
  exact wpAny_pyNext_range_end (I.ok.hd hc) st (by have:n<=i:=hg;omega) fun h' eb=>⟨rfl,I.turned (t':=s.toks) (fun b o hb e=>eb b o hb e) f0 f1 f3 f4 f5⟩
 self:=fun _ _ _ _ _ st h=>wpAny_pyIter_rangeiter st h
section
variable {X:Cx}{tg:Expr}
def En{σ:St}{H:Hp}{R:It->Hp->Prop}{lo hi:Int}{t u v:Tok}{tk:Nat}(I:Inv X pins σ H s)(h1:-(2 ^ 62)<=lo)(h2:lo<2 ^ 62)(h3:-(2 ^ 62)<=hi)(h4:hi<2 ^ 62)
  (q:R (tz lo (hi-lo).toNat) H):wpAny (model X.prog X.w) X.A (pyIter (.ref s.heap.objs.size)) (Ac X pins σ tg R) E { s with heap:=s.heap.push { cls:=.type "range",data:=.fields #[.int lo t,.int hi u,.int 1 v] },toks:=tk }:=by
 refine wpAny_pyIter_range (IsRange.new ..) (small_one h1 h2 h3 h4) ?_
 have I1:Inv X pins σ H { s with heap:=s.heap.push { cls:=.type "range",data:=.fields #[.int lo t,.int hi u,.int 1 v] },toks:=tk }:=I.kept fun b o e=>Qd _ e
 refine⟨(s.heap.push { cls:=.type "range",data:=.fields #[.int lo t,.int hi u,.int 1 v] }).objs.size,[(s.heap.push { cls:=.type "range",data:=.fields #[.int lo t,.int hi u,.int 1 v] }).objs.size],_,_,H,rfl,
  I1.kept (t':=tk) fun b o e=>Qd _ e,Me _ lo (hi-lo).toNat,?_,fun b hb=>?_,q⟩
 ·have e1:lo+((0:Nat):Int)*1=lo:=by simp
  have e2:(((hi-lo).toNat:Nat):Int)-((0:Nat):Int)=Builtin.Range.rangeSize lo hi 1:=by rw[rangeSize_one];split<;>omega
  show IsRangeIter _ _ (lo+((0:Nat):Int)*1) ((((hi-lo).toNat:Nat):Int)-((0:Nat):Int)) 1
  rw[e1,e2]
  exact Qp _ rfl
 ·have e:b=(s.heap.push { cls:=.type "range",data:=.fields #[.int lo t,.int hi u,.int 1 v] }).objs.size:=by simpa using hb
  subst e
  exact I1.n9 (Qg _) (I1.aw.fresh (Qg _))
def Mf (ta:TA):TI:=fun σ H R=>ta σ H fun vs H1=>∃ j:Int,vs=[.int j] /\ -(2 ^ 62)<=j/\j<2 ^ 62/\R (tz 0 j.toNat) H1
def Mg (ta:TA):TI:=fun σ H R=>ta σ H fun vs H1=>∃ i j:Int,vs=[.int i,.int j]/\(-(2 ^ 62)<=i/\i<2 ^ 62 /\ -(2 ^ 62)<=j/\j<2 ^ 62)/\R (tz i (j-i).toNat) H1
def Mh{a:Expr}{ta:TA}{p pos:Pos}(hg:Gl X "range")(hm:X.mg "range" = none)(ha:PA X [a] ta)(hs:starEach [a] X.env=[(false,eval a X.env)]:=by rfl):PI X tg (.Call (.Name "range" p) [a] [] pos) (Mf ta):=by
 intro pins s σ H R I h
 refine Call_ (qC I hg hm boot_range (ZR (aU (ha pos pins s σ H _ I h) fun us s1 ⟨vs,H1,I1,r1,q1⟩=>?_) hs rfl))
 obtain⟨j,e,q1,q2,q⟩:=q1
 subst e
 cases r1 with
 | cons r rr=>
  cases rr
  obtain⟨t,rfl⟩:=r
  exact call_range_1 (En I1 (by omega) (by omega) q1 q2 (by simpa using q))
def Mi{a b:Expr}{ta:TA}{p pos:Pos}(hg:Gl X "range")(hm:X.mg "range" = none)(ha:PA X [a,b] ta)(hs:starEach [a,b] X.env=[(false,eval a X.env),(false,eval b X.env)]:=by rfl)(kG:starEach [b] X.env=[(false,eval b X.env)]:=by rfl) :
  PI X tg (.Call (.Name "range" p) [a,b] [] pos) (Mg ta):=by
 intro pins s σ H R I h
 refine Call_ (qC I hg hm boot_range (ZR (aU (ha pos pins s σ H _ I h) fun us s1 ⟨vs,H1,I1,r1,q1⟩=>?_) (by rw[hs,kG]) (by rw[kG];rfl)))
 obtain⟨i,j,e,⟨q1,q2,q3,q4⟩,q⟩:=q1
 subst e
 cases r1 with
 | cons r rr=>
  cases rr with
  | cons r' rr=>
   cases rr
   obtain⟨t,rfl⟩:=r
   obtain⟨t',rfl⟩:=r'
   exact call_range_2 (En I1 q1 q2 q3 q4 q)
def Mj (wi:TI)(g:TG)(tb:TS):TS:=fun D σ H=>wi σ H fun J H1=>∃ W:Nat->Nat->St->Hp->Prop,(∃ m,W 0 m σ H1)/\∀ i m σ H,W i m σ H->
 (J.stop i H/\D.nx σ H)\/(J.go i H/\∃ N:St->Hp->Prop,(∀ aF H',N aF H'->∃ m',m'<m/\W (i+1) m' aF H')/\∀ x H',J.qE i H x H'->g x σ H' fun lO H2=>tb { D with nx:=N,ct:=N,bk:=D.nx } lO H2)
def pA (fp:List Addr)(h:Heap):List (Addr×Obj):=fp.filterMap fun b=>(h.get? b).map fun o=>(b,o)
def xI(hb:b∈fp)(e:h.get? b=some o):(b,o)∈pA fp h:=Yg.mpr ⟨b,hb,by rw[e];rfl⟩
def Eo{p:Addr×Obj}(hp:p∈pA fp h):p.1∈fp/\h.get? p.1=some p.2:=by
 obtain⟨b,hb,e⟩:=Yg.mp hp
 cases q:h.get? b with
 | none=>rw[q]at e;cases e
 | some o=>
  rw[q]at e
  have e':(b,o)=p:=QC e
  subst e'
  exact⟨hb,q⟩
def Inv.pinned{σ:St}{H:Hp}(I:Inv X pins σ H s)(hf:∀ b∈fp,lN X pins H b)(ho:∀ b∈fp,∃ o,s.heap.get? b=some o/\∀ v,o.data ≠ .cell v):Inv X (pins++pA fp s.heap) σ H s:=
 I.fJ fun p hp=>(QF.mp hp).elim (fun z=>I.pin p (Qq _ z)) fun z=>by
  obtain⟨hb,e⟩:=Eo z
  obtain⟨f0,f1,f2,_⟩:=hf p.1 hb
  obtain⟨o,e',d⟩:=ho p.1 hb
  rw[e]at e';cases e'
  exact⟨e,f0,f1,f2,d⟩
def Inv.d_{pl:List (Addr×Obj)}{σ:St}{H:Hp}(I:Inv X (pins++pl) σ H s):Inv X pins σ H s:=I.fJ fun p hp=>I.pin p (Qq _ (QA _ hp))
def Ml{iter:Expr}{wi:TI}{g:TG}{tb:TS}{pos:Pos}(hp:PassesOwn (model X.prog X.w) X.A X.env X.xe)(hc:X.calm=true)(hi:PI X tg iter wi)(hg:PG X tg g)(hb:gB X body tb)
  (hs:∀ x,foldedSetIterable iter X.env x=pure x:=by intro _;rfl):PS X (.For tg iter body [] pos) (Mj wi g tb):=by
 intro pins s σ H D I h
 refine wpAny_For (aU (hi pins s σ H _ I h) fun v s1 h1=>aU h1 fun xH s2 h2=>?_) hs
 obtain⟨it,fp,tn,J,H2,e,I2,T,pB,f2,W,⟨m0,w0⟩,turn⟩:=h2
 subst e
 have jv:∀ {H':Hp},(∀ b∈fp,H' b=none)->∀ b∈fp,lN X pins H' b:=fun hn b hb=>⟨hn b hb,(f2 b hb).2⟩
 refine codeAny_forLoop_any (fun n s'=>∃ i aF H',Inv X pins aF H' s'/\tn i s'.heap/\(∀ b∈fp,H' b=none)/\W i n aF H') ?_ m0 ⟨0,σ,H2,I2,pB,fun b hb=>(f2 b hb).1,w0⟩
 rintro n s3 ⟨i,lL,H3,I3,uJ,Ep,w3⟩
 rcases turn i n lL H3 w3 with⟨stop,qn⟩|⟨go,N,hN,step⟩
 ·refine Ji hp (aU (T.done X rfl rfl rfl hc i pins s3 lL H3 X.xe I3 (jv Ep) uJ stop) fun r s4 ⟨hr,I4⟩=>?_)
  subst hr
  exact Yd ⟨lL,H3,I4,qn⟩
 ·refine Ji hp (aU (T.item X rfl rfl rfl hc i pins s3 lL H3 X.xe I3 (jv Ep) uJ go) fun r s4 ⟨u,hr,h4⟩=>?_)
  subst hr
  refine Ji hp (aU h4 fun _ s5 ag=>?_)
  obtain⟨x,H5,I5,r5,y5,qF,Ag⟩:=ag
  have Ah:=I5.pinned (jv Ag) (T.obj _ _ qF)
  refine Ji hp (aU (hg _ s5 lL H5 x u _ Ah r5 (step x H5 y5)) fun _ s6 ag=>?_)
  obtain⟨Er,H6,I6,q6⟩:=ag
  refine Ji hp (aU (hb _ s6 Er H6 _ I6 q6) fun f s7 q7=>?_)
  have again:∀ {lP:St} {H7:Hp},Inv X (pins++pA fp s5.heap) lP H7 s7->N lP H7->∃ m,m<n/\∃ i aF H',Inv X pins aF H' s7/\tn i s7.heap/\(∀ b∈fp,H' b=none)/\W i m aF H':=fun {lP H7} I7 n7=>by
   obtain⟨m',hm,w7⟩:=hN lP H7 n7
   refine⟨m',hm,i+1,lP,H7,I7.d_,T.keep _ _ _ qF fun b hb o e=>(I7.pin (b,o) (Qq _ (Qq _ (xI hb e)))).1,fun b hb=>?_,w7⟩
   obtain⟨o,e,d⟩:=T.obj _ _ qF b hb
   exact(I7.pin (b,o) (Qq _ (Qq _ (xI hb e)))).2.1
  cases f with
  | next=>obtain⟨lP,H7,I7,n7⟩:=q7;exact again I7 n7
  | cont=>obtain⟨lP,H7,I7,n7⟩:=q7;exact again I7 n7
  | brk=>obtain⟨lP,H7,I7,q7⟩:=q7;exact⟨lP,H7,I7.d_,q7⟩
  | ret v=>obtain⟨x7,lP,H7,I7,r7,q7⟩:=q7;exact⟨x7,lP,H7,I7.d_,r7,q7⟩
end
abbrev R2:=V->V->Hp->VK->Prop
def ef (X:Cx)(f:Value->Value->Sem Value)(r:R2):Prop:=
 ∀ (pins:List (Addr×Obj)) (s:Shared) (σ:St) (H:Hp) (x y:V) (v u:Value) (Q:VK),Inv X pins σ H s->bw x v->bw y u->r x y H Q->
  wpAny (model X.prog X.w) X.A (f v u) (EP X pins σ Q) X.xe s
def Ai (X:Cx)(f:Value->Sem Value)(r:V->Hp->VK->Prop):Prop:=
 ∀ (pins:List (Addr×Obj)) (s:Shared) (σ:St) (H:Hp) (x:V) (v:Value) (Q:VK),Inv X pins σ H s->bw x v->r x H Q->
  wpAny (model X.prog X.w) X.A (f v) (EP X pins σ Q) X.xe s
def iE (X:Cx)(f:Value)(r:List V->Hp->VK->Prop):Prop:=
 ∀ (pins:List (Addr×Obj)) (s:Shared) (σ:St) (H:Hp) (xs:List V) (us:List Value) (Q:VK),Inv X pins σ H s->aY xs us->r xs H Q->
  wpAny (model X.prog X.w) X.A (call f us) (EP X pins σ Q) X.xe s
def Mm (X:Cx)(r:V->Hp->(Bool->Hp->Prop)->Prop):Prop:=
 ∀ (pins:List (Addr×Obj)) (s:Shared) (σ:St) (H:Hp) (x:V) (v:Value) (Q:Bool->Hp->Prop),Inv X pins σ H s->bw x v->r x H Q->
  wpAny (model X.prog X.w) X.A (truthy v) (TP X pins σ Q) X.xe s
def kH (r:R2)(ta tb:TE):TE:=fun σ H Q=>ta σ H fun x H1=>tb σ H1 fun y H2=>r x y H2 Q
def Mn (r:V->Hp->VK->Prop)(ta:TE):TE:=fun σ H Q=>ta σ H fun x H1=>r x H1 Q
def rI (C:Int->Int->Prop)(g:Int->Int->V):R2:=fun x y H Q=>∃ i j,x=.int i/\y=.int j/\C i j/\Q (g i j) H
def lQ (g:Int->Int->V):R2:=fun x y H Q=>∃ i j,x=.int i/\y=.int j/\Q (g i j) H
def rU (g:Int->V):V->Hp->VK->Prop:=fun x H Q=>∃ i,x=.int i/\Q (g i) H
section
variable {X:Cx}{a b c:Expr}{ta tb tc:TE}{pos:Pos}
def Es(ha:PE X a ta)(hb:PE X b tb){σ:St}{H:Hp}{R:V->V->Hp->Prop}(I:Inv X pins σ H s)
  (h:ta σ H fun x H1=>tb σ H1 fun y H2=>R x y H2) {Q:Value->Shared->Prop} 
  (hf:∀ v u s2 x y H2,Inv X pins σ H2 s2->bw x v->bw y u->R x y H2->wpAny (model X.prog X.w) X.A (f v u) Q X.xe s2) :
  wpAny (model X.prog X.w) X.A (eval a X.env) (fun v aM=>wpAny (model X.prog X.w) X.A (eval b X.env) (fun u eN=>wpAny (model X.prog X.w) X.A (f v u) Q X.xe eN) X.xe aM) X.xe s:=by
 refine aU (ha pins s σ H _ I h) fun v s1 ag=>?_
 obtain⟨x,H1,I1,r1,q1⟩:=ag
 refine aU (hb pins s1 σ H1 _ I1 q1) fun u s2 ag=>?_
 obtain⟨y,H2,I2,r2,q2⟩:=ag
 exact hf v u s2 x y H2 I2 r1 r2 q2
def qG{op:Operator}{r:R2}(ho:ef X (binaryOp op) r)(ha:PE X a ta)(hb:PE X b tb):PE X (.BinOp a op b pos) (kH r ta tb):=by
 intro pins s σ H Q I h
 exact wpAny_BinOp (Es ha hb I h fun v u s2 x y H2 I2 rx ry q=>ho pins s2 σ H2 x y v u Q I2 rx ry q)
def Mp{op:UnaryOp}{r:V->Hp->VK->Prop}(ho:Ai X (unaryOp op) r)(ha:PE X a ta):PE X (.UnaryOp op a pos) (Mn r ta):=by
 intro pins s σ H Q I h
 exact UnaryOp_ (aU (ha pins s σ H _ I h) fun v s1 ⟨x,H1,I1,r1,q1⟩=>ho pins s1 σ H1 x v Q I1 r1 q1)
def Aj{f:Value->Value->Sem Value}{C:Int->Int->Prop}
  (rule:∀ (i j:Int) (t u:Tok) (s:Shared) (Q:Value->Shared->Prop) (E:Value->Shared->Prop),C i j->Q (.int (g i j) s.toks) { s with toks:=s.toks+1 }->wpAny (model X.prog X.w) X.A (f (.int i t) (.int j u)) Q E s) :
  ef X f (rI C fun i j=>.int (g i j)):=by
 intro pins s σ H x y v u Q I rx ry h
 obtain⟨i,j,rfl,rfl,hc,q⟩:=h
 obtain⟨t,rfl⟩:=rx
 obtain⟨t',rfl⟩:=ry
 exact rule i j t t' s _ _ hc ⟨.int (g i j),H,I.tok _,⟨_,rfl⟩,q⟩
def Mq{f:Value->Value->Sem Value}
  (rule:∀ (i j:Int) (t u:Tok) (s:Shared) (Q:Value->Shared->Prop) (E:Value->Shared->Prop),Q (.int (g i j) s.toks) { s with toks:=s.toks+1 }->wpAny (model X.prog X.w) X.A (f (.int i t) (.int j u)) Q E s) :
  ef X f (lQ fun i j=>.int (g i j)):=by
 intro pins s σ H x y v u Q I rx ry h
 obtain⟨i,j,rfl,rfl,q⟩:=h
 obtain⟨t,rfl⟩:=rx
 obtain⟨t',rfl⟩:=ry
 exact rule i j t t' s _ _ ⟨.int (g i j),H,I.tok _,⟨_,rfl⟩,q⟩
def Et{g:Int->Int->Bool}
  (rule:∀ (i j:Int) (t u:Tok) (s:Shared) (Q:Value->Shared->Prop) (E:Value->Shared->Prop),Q (.bool (g i j)) s->wpAny (model X.prog X.w) X.A (f (.int i t) (.int j u)) Q E s) :
  ef X f (lQ fun i j=>.bl (g i j)):=by
 intro pins s σ H x y v u Q I rx ry h
 obtain⟨i,j,rfl,rfl,q⟩:=h
 obtain⟨t,rfl⟩:=rx
 obtain⟨t',rfl⟩:=ry
 exact rule i j t t' s _ _ ⟨.bl (g i j),H,I,rfl,q⟩
def Mr (i j:Int):Prop:=0<j/\j<1073741824
def Ak (i j:Int):Prop:=(-(2 ^ 64)<i/\i<2 ^ 64)\/(-(2 ^ 64)<j/\j<2 ^ 64)
def Ak.ok{i j:Int}(h:Ak i j):IntMulOk i j:=by
 rcases h with⟨h1,h2⟩|⟨h1,h2⟩
 ·exact .of_left (intBits_le_64 h1 h2)
 ·exact .of_right (intBits_le_64 h1 h2)
def Ms:ef X (binaryOp .Add) (lQ fun i j=>.int (i+j)):=Mq fun _ _ _ _ _ _ _ q=>add_int q
def Mt:ef X (binaryOp .Mult) (rI Ak fun i j=>.int (i*j)):=Aj fun _ _ _ _ _ _ _ hc q=>mul_int q hc.ok
def Mu:ef X (binaryOp .FloorDiv) (rI Mr fun i j=>.int (i / j)):=Aj fun i j _ _ _ _ _ hc q=>by
 have h1:(0:Int)<j:=hc.1
 have h2:j<1073741824:=hc.2
 exact floordiv_int (by omega) (by rw[Int.fdiv_eq_ediv_of_nonneg i (by omega)];exact q) (.inl (PyProof.noPylong_small (by omega)))
def Mv:ef X (binaryOp .Mod) (rI (fun _ j=>0<j) fun i j=>.int (i % j)):=Aj fun i j _ _ _ _ _ hc q=>by
 have h1:(0:Int)<j:=hc
 exact mod_int' (by omega) (by rw[Int.fmod_eq_emod_of_nonneg i (by omega)];exact q)
def Mw{f:Value->Sem Value}{g:Int->Int}
  (rule:∀ (i:Int) (t:Tok) (s:Shared) (Q:Value->Shared->Prop) (E:Value->Shared->Prop),Q (.int (g i) s.toks) { s with toks:=s.toks+1 }->wpAny (model X.prog X.w) X.A (f (.int i t)) Q E s) :
  Ai X f (rU fun i=>.int (g i)):=by
 intro pins s σ H x v Q I rx h
 obtain⟨i,rfl,q⟩:=h
 obtain⟨t,rfl⟩:=rx
 exact rule i t s _ _ ⟨.int (g i),H,I.tok _,⟨_,rfl⟩,q⟩
def Mx:Ai X (unaryOp .USub) (rU fun i=>.int (-i)):=Mw fun _ _ _ _ _ q=>neg_int q
def Mz{σ:St}{H:Hp}{Q:VK}{k k':Bool}(I:Inv X pins σ H s)(q:Q (.bl k) H)(e:k=k'):EP X pins σ Q (.bool k') s:=by
 subst e
 exact⟨.bl k,H,I,rfl,q⟩
def Al:ef X (compareOp .Lt) (lQ fun i j=>.bl (decide (i<j))):=Et fun _ _ _ _ _ _ _ q=>lt_int q
def Eu:ef X (compareOp .LtE) (lQ fun i j=>.bl (decide (i<=j))):=Et fun _ _ _ _ _ _ _ q=>le_int q
def Ew:ef X (compareOp .Is) (fun x y H Q=>y=.aK/\Q (.bl (decide (x=.aK))) H):=by
 intro pins s σ H x y v u Q I rx ry h
 obtain⟨rfl,q⟩:=h
 cases ry
 refine is_none_gen (Mz I q ?_)
 cases x<;>first
  | (cases rx;rfl)
  | (obtain⟨t,rfl⟩:=rx;rfl)
def xJ(b:Expr)(h:op ≠ .In:=by decide)(h2:op ≠ .NotIn:=by decide):behindInMarks op b=false:=by
 have e1:(op==CmpOp.In)=false:=by cases op<;>first|rfl|exact absurd rfl h
 have e2:(op==CmpOp.NotIn)=false:=by cases op<;>first|rfl|exact absurd rfl h2
 cases b<;>simp[behindInMarks,e1,e2]
def Am (t:TE):TT:=fun σ H Q=>t σ H fun x H'=>∃ k,x=.bl k/\Q k H'
def Ex{r:R2}(ho:ef X (compareOp op) r)(ha:PE X a ta)(hb:PE X b tb)(hm:behindInMarks op b=false):PT X (.Compare a [op] [b] pos) (Am (kH r ta tb)):=by
 intro pins s σ H Q I h
 refine wpAny_isTrue_Compare1 (aU (ha pins s σ H _ I h) fun v s1 ⟨x,H1,I1,r1,q1⟩=>aU (hb pins s1 σ H1 _ I1 q1) fun u s2 ⟨y,H2,I2,r2,q2⟩=>
  aU (ho pins s2 σ H2 x y v u _ I2 r1 r2 q2) fun c s3 ⟨z,H3,I3,r3,k,e,q3⟩=>?_) hm
 subst e
 cases r3
 exact ZT ⟨H3,I3,q3⟩
def Ey (r r':R2)(ta tb tc:TE):TE:=fun σ H Q=>ta σ H fun x H1=>tb σ H1 fun y H2=>r x y H2 fun z H3=>∃ k,z=.bl k /\
 (if k=true then tc σ H3 fun w' H4=>r' y w' H4 Q else Q (.bl false) H3)
def MA{r r':R2}(ho:ef X (compareOp op) r)(e_:ef X (compareOp kA) r')(ha:PE X a ta)(hb:PE X b tb)(hc:PE X c tc)
  (hm:lastMarks [op,kA] [b,c]=false:=by with_unfolding_all rfl):PE X (.Compare a [op,kA] [b,c] pos) (Ey r r' ta tb tc):=by
 intro pins s σ H Q I h
 refine Compare_chain (aU (ha pins s σ H _ I h) fun v s1 ⟨x,H1,I1,r1,q1⟩=>chain_link (aU (hb pins s1 σ H1 _ I1 q1) fun u s2 ⟨y,H2,I2,r2,q2⟩=>
  aU (ho pins s2 σ H2 x y v u _ I2 r1 r2 q2) fun d s3 ⟨z,H3,I3,r3,k,e,q3⟩=>?_)) hm
 subst e
 cases r3
 refine ZT ?_
 cases k with
 | false=>exact ite_ff ⟨.bl false,H3,I3,rfl,q3⟩
 | true=>exact ite_tt (chain_last (aU (hc pins s3 σ H3 _ I3 q3) fun w' s4 ⟨z',H4,I4,r4,q4⟩=>e_ pins s4 σ H4 y z' u w' Q I4 r2 r4 q4))
def MB{r r':R2}(ho:ef X (compareOp op) r)(e_:ef X (compareOp kA) r')(ha:PE X a ta)(hb:PE X b tb)(hc:PE X c tc)
  (hm:lastMarks [op,kA] [b,c]=false:=by with_unfolding_all rfl):PT X (.Compare a [op,kA] [b,c] pos) (Am (Ey r r' ta tb tc)):=by
 intro pins s σ H Q I h
 refine isTrue_chain (aU (ha pins s σ H _ I h) fun v s1 ⟨x,H1,I1,r1,q1⟩=>test_link (aU (hb pins s1 σ H1 _ I1 q1) fun u s2 ⟨y,H2,I2,r2,q2⟩=>
  aU (ho pins s2 σ H2 x y v u _ I2 r1 r2 q2) fun d s3 ⟨z,H3,I3,r3,k,e,q3⟩=>?_)) hm
 subst e
 cases r3
 refine ZT ?_
 cases k with
 | false=>
  obtain⟨k',e',q'⟩:=q3
  cases e'
  exact ite_ff ⟨H3,I3,q'⟩
 | true=>
  refine ite_tt (test_last (aU (hc pins s3 σ H3 _ I3 q3) fun w' s4 ⟨z',H4,I4,r4,q4⟩=>aU (e_ pins s4 σ H4 y z' u w' _ I4 r2 r4 q4) fun d' s5 ag=>?_))
  obtain⟨z2,H5,I5,r5,k2,e2,q5⟩:=ag
  subst e2
  cases r5
  exact ZT ⟨H5,I5,q5⟩
def Ez (K:PySem.W.Frag)(x:V)(H:Hp)(k:Bool):Prop:=
 match x with
 | .aK=>k=false
 | .bl b=>k=b
 | .int i=>k=(i != 0)
 | .str y=>y.length<=sizeLine/\k=((y.length:Int) != 0)
 | .uA y=>y.size<=sizeLine/\k=((y.size:Int) != 0)
 | .ref p=>(∃ xs,cn K H p xs/\k = !xs.isEmpty)\/(∃ xs,dh K H p xs/\k = !xs.isEmpty)\/∃ ai,H p=some (.dK ai)/\k = !ai.isEmpty
 | _=>False
def MC{κ:Type}{ai:List (κ×V)}{vs:List (κ×Value)}(r:KV ai vs):(!vs.isEmpty) = !ai.isEmpty:=by
 cases r<;>rfl
def EA{xs:List V}{ao:List Value}(r:aY xs ao):(!ao.toArray.isEmpty) = !xs.isEmpty:=by
 cases r<;>simp
def tE:(sizeLine:Nat)<2 ^ 63:=by rw[Z1];decide
def MD:Mm X (fun x H Q=>∃ k,Ez X.K x H k/\Q k H):=by
 intro pins s σ H x v Q I rx h
 obtain⟨k,e,q⟩:=h
 have hl:=tE
 have hs:sizeLine=16777216:=Z1
 cases x with
 | aK=>
  cases rx
  have e':k=false:=e
  subst e'
  exact truthy_none ⟨H,I,q⟩
 | bl b=>
  cases rx
  have e':k=b:=e
  subst e'
  exact ZT ⟨H,I,q⟩
 | int i=>
  obtain⟨t,rfl⟩:=rx
  have e':k=(i != 0):=e
  subst e'
  exact PySem.P.truthy_int ⟨H,I,q⟩
 | str y=>
  obtain⟨t,rfl⟩:=rx
  obtain⟨hy,e'⟩:y.length<=sizeLine/\k=((y.length:Int) != 0):=e
  subst e'
  exact PySem.P.truthy_str (by omega) ⟨H,I.tok _,q⟩
 | uA y=>
  obtain⟨t,rfl⟩:=rx
  obtain⟨hy,e'⟩:y.size<=sizeLine/\k=((y.size:Int) != 0):=e
  subst e'
  exact PySem.W.truthy_bytes (by omega) ⟨H,I.tok _,q⟩
 | ref p=>
  cases rx
  have e':(∃ xs,cn X.K H p xs/\k = !xs.isEmpty)\/(∃ xs,dh X.K H p xs/\k = !xs.isEmpty)\/∃ ai,H p=some (.dK ai)/\k = !ai.isEmpty:=e
  rcases e' with⟨xs,hx,e'⟩|⟨xs,hx,e'⟩|⟨ai,hx,e'⟩
  ·subst e'
   obtain⟨ao,r,pl,hz⟩:=I.list hx
   have hlen:=r.length
   exact wpAny_truthy_list pl.isList (by simp only[Qn];omega) ⟨H,I.tok _,by rw[EA r];exact q⟩
  ·subst e'
   obtain⟨ao,r,pl,hz⟩:=I.tuple hx
   have hlen:=r.length
   exact truthy_tuple pl (by simp only[Qn];omega) ⟨H,I.tok _,by rw[EA r];exact q⟩
  ·subst e'
   obtain⟨hz,hS,vs,r,m⟩:ai.length<=sizeLine/\(p==sysModules)=false/\∃ vs,KV ai vs/\s.heap.DictOf (jc X.prog X.w) p vs:=I.aw p _ hx
   have hlen:ai.length=vs.length:=Jp r
   exact wpAny_truthy_dict hS m (by omega) ⟨H,I.tok _,by rw[MC r];exact q⟩
 | _=>exact(show False from e).elim
def ME(ha:PE X a ta)(he:∀ whole,isTrue a X.env whole=(do let v <- whole;standAt a.pos;holding [v] (truthy v))) :
  PT X a (fun σ H Q=>ta σ H fun x H'=>∃ k,Ez X.K x H' k/\Q k H'):=by
 intro pins s σ H Q I h
 exact isTrue_plain (aU (ha pins s σ H _ I h) fun v s1 ⟨x,H1,I1,r1,q1⟩=>MD pins s1 σ H1 x v Q I1 r1 q1) (he _)
def jw{x:V}(r:aY [x] us):∃ u,us=[u]/\bw x u:=by
 cases r with
 | cons r1 r2=>cases r2;exact⟨_,rfl,r1⟩
def xK{x y:V}(r:aY [x,y] us):∃ u w',us=[u,w']/\bw x u/\bw y w':=by
 cases r with
 | cons r1 r2=>
  cases r2 with
  | cons r3 r4=>cases r4;exact⟨_,_,rfl,r1,r3⟩
def MF(hc:X.calm=true):iE X (.builtin "max") (fun xs H Q=>∃ i j,xs=[.int i,.int j]/\Q (.int (if j > i then j else i)) H):=by
 intro pins s σ H xs us Q I r h
 obtain⟨i,j,rfl,q⟩:=h
 obtain⟨u,w',rfl,⟨t,rfl⟩,⟨t',rfl⟩⟩:=xK r
 refine max_two_ints (I.ok.hd hc) fun h' tk k=>⟨_,H,I.kept k,?_,q⟩
 by_cases hj:j > i
 ·rw[Qi hj,Qi hj];exact⟨_,rfl⟩
 ·rw[Qj hj,Qj hj];exact⟨_,rfl⟩
end
structure qH (h:Heap) (x dx C:Addr) (mA:Str->Option Value):Prop where
 obj:h.get? x=some (PySem.W.instObj C dx)
 ns:h.Ns1 dx mA
 ne:dx≠x
def MG(n:h.Ns1 dx mA):∃ od,h.get? dx=some od/\∀ name,PySem.W.lookIn name od=some (mA name):=by
 obtain⟨o,es,ep,ho,hd,hk,_,hm⟩:=n
 refine⟨o,ho,fun name=>?_⟩
 have e:=hm name
 unfold nsFind findBy at e
 rw[<- Array.find?_toList]at e
 unfold PySem.W.lookIn
 rw[hd]
 dsimp only
 split
 next y q=>
  rw[q]at e
  exact Jb some e
 next q=>
  rw[q]at e
  have a:es.toList.any (·.refKey)=false:=by
   rw[List.any_eq_false]
   intro y hy
   obtain⟨z,t,qI⟩:=hk y (YM.mp hy)
   simp[DictEntry.refKey,qI]
  have a':¬ es.toList.any (·.refKey)=true:=by rw[a];exact Ze
  rw[Qj a']
  exact Jb some e
def qH.look{x:Addr}(I:qH h x dx C mA):∃ od,PySem.W.InstAt h x (PySem.W.instObj C dx) C (some od)/\∀ name,PySem.W.lookIn name od=some (mA name):=
 let ⟨od,ho,hl⟩:=MG I.ns
 ⟨od,⟨I.obj,rfl,rfl,ho⟩,hl⟩
def lF.some_of{v:V}{o:Option Value}(r:lF (some v) o):∃ u,o=some u/\bw v u:=by
 cases o with
 | none=>exact(show False from r).elim
 | some u=>exact⟨u,rfl,r⟩
section
variable {P:Program}{w:World}{H H':Hp}{h h':Heap}{a C dx:Addr}{fs Lg:List (Str×V)}
def tF(aw:cP P w H h)(e:H a=some (.ins C dx fs)):∃ mA,qH h a dx C mA/\(∀ f,lF (fs.lookup f) (mA f))/\PySem.Within mA (fs.map (·.1))/\fs.length<=1000/\H dx=some (.own a):=by
 obtain⟨d,z,ne,ob,mA,n,r,q⟩:=(show cR P w H h a (.ins C dx fs)from aw a _ e)
 exact⟨mA,⟨ob,n,ne⟩,r,q,z,d⟩
end
structure xM (K:PySem.W.Frag) (C:Addr):Prop where
 pg:PySem.W.plainGet K C Str.empty=true
 hd:PySem.W.hasDictIn K C=true
 po:PySem.W.plainOver K C=true
 sa:PySem.W.findIn K (.ref C) "__setattr__" = some (some (.builtin "object.__setattr__"))
def xM.get(c:xM K C)(f:Str):PySem.W.plainGet K C f=true:=c.pg
section
variable {X:Cx}{pins:List (Addr×Obj)}{σ:St}{H:Hp}{s:Shared}{A:Around}{E:Value->Shared->Prop}{Q:Value->Shared->Prop}{c:Value}{b:Bool}
inductive fB (K:PySem.W.Frag) (H:Hp):V->Value->Prop where
 | aK:fB K H .aK (.type "NoneType")
 | bl (x:Bool):fB K H (.bl x) (.type "bool")
 | int (i:Int):fB K H (.int i) (.type "int")
 | str (x:Str):fB K H (.str x) (.type "str")
 | s_ (x:UInt64):fB K H (.s_ x) (.type "float")
 | lst {a:Addr} {xs:List V} (e:H a=some (.lst xs)):fB K H (.ref a) (.type "list")
 | d8 {a:Addr} {o:Obj} {xs:List V} (e:H a=some (.d8 o (.lst xs))):fB K H (.ref a) (.type "list")
 | tup {a:Addr} {xs:List V} (e:H a=some (.tup xs)):fB K H (.ref a) (.type "tuple")
 | dK {a:Addr} {ai:List (Key×V)} (e:H a=some (.dK ai)):fB K H (.ref a) (.type "dict")
 | dT {a:Addr} {ai:List (List Key×V)} (e:H a=some (.dT ai)):fB K H (.ref a) (.type "dict")
 | ins {a C dx:Addr} {fs:List (Str×V)} (e:H a=some (.ins C dx fs)) (cl:xM K C) (ha:PySem.W.findIn K (.ref C) "__class__" = some (some (.builtin "object.__class__")))
   (hn:PySem.W.specialIn K (.builtin "object.__class__") "__get__" = some (some (.builtin "getset_descriptor.__get__"))) (uK:PySem.W.takesIn K (.builtin "object.__class__")=some true)
   (hm:PySem.W.mroIn K C (.type "object")=some true):fB K H (.ref a) (.ref C)
def jx{x:V}{t:Value}(I:Inv X pins σ H s)(rx:bw x u)(ty:fB X.K H x t)(e:PySem.W.kitOne X.K t c=some b)(h:∀ tk,Q (.bool b) { s with toks:=tk }) :
  wpAny (model X.prog X.w) A (call (.builtin "isinstance") [u,c]) Q E s:=by
 cases ty with
 | aK=>cases (show u=Value.none from rx);exact Zs PySem.W.kitx_none I.eL True.intro e (fun z=>nomatch z) h
 | bl y=>cases (show u=Value.bool y from rx);exact Zs PySem.W.kitx_bool I.eL True.intro e (fun z=>nomatch z) h
 | int i=>obtain⟨t,q⟩:=(show ∃ t,u=Value.int i t from rx);cases q;exact Zs PySem.W.kitx_int I.eL True.intro e (fun z=>nomatch z) h
 | str y=>obtain⟨t,q⟩:=(show ∃ t,u=Value.str y t from rx);cases q;exact Zs PySem.W.kitx_str I.eL True.intro e (fun z=>nomatch z) h
 | s_ y=>obtain⟨t,q⟩:=(show ∃ t,u=Value.float y t from rx);cases q;exact Zs PySem.W.kitx_float I.eL True.intro e (fun z=>nomatch z) h
 | @lst a xs ea=>
  cases (show u=Value.ref a from rx)
  obtain⟨_,_,n,_,h1⟩:=(show cR X.prog X.w H s.heap a (.lst xs)from I.aw a _ ea)
  exact Zs Vz I.eL ⟨_,h1,rfl⟩ e (fun z=>nomatch z) h
 | @d8 a ob xs ea=>
  cases (show u=Value.ref a from rx)
  obtain⟨_,_,_,n,_,h1⟩:=(show cR X.prog X.w H s.heap a (.d8 ob (.lst xs))from I.aw a _ ea)
  exact Zs Vz I.eL ⟨_,h1,rfl⟩ e (fun z=>nomatch z) h
 | @tup a xs ea=>
  cases (show u=Value.ref a from rx)
  obtain⟨_,_,_,p⟩:=(show cR X.prog X.w H s.heap a (.tup xs)from I.aw a _ ea)
  obtain⟨o,h1,h2,_⟩:=p
  exact Zs PySem.W.kitx_tuple I.eL ⟨o,h1,h2⟩ e (fun z=>nomatch z) h
 | @dK a ai ea=>
  cases (show u=Value.ref a from rx)
  obtain⟨_,_,vs,_,p⟩:=(show cR X.prog X.w H s.heap a (.dK ai)from I.aw a _ ea)
  obtain⟨o,es,ep,h1,h2,_⟩:=p
  exact Zs PySem.W.kitx_dict I.eL ⟨o,h1,h2.1⟩ e (fun z=>nomatch z) h
 | @dT a ai ea=>
  cases (show u=Value.ref a from rx)
  obtain⟨_,_,xs,_,o,es,ep,h1,h2,_⟩:=(show cR X.prog X.w H s.heap a (.dT ai)from I.aw a _ ea)
  exact Zs PySem.W.kitx_dict I.eL ⟨o,h1,h2.1⟩ e (fun z=>nomatch z) h
 | @ins a C dx fs ea cl ha hn uK hm=>
  cases (show u=Value.ref a from rx)
  obtain⟨mA,O,_⟩:=tF I.aw ea
  obtain⟨od,J,_⟩:=O.look
  exact Zs (PySem.W.kitx_own (cl.get _) cl.hd ha hn uK hm) I.eL J e (fun z=>nomatch z) h
end
structure aQ (k:Nat) (A:Around):Prop where
 hd:A.handled=none
 dp:A.depth+3*k+5<recursionLimit
 un:A.units+16*k+200<cLine
def aQ.mono{k:Nat}(r:aQ k A)(h:j<=k):aQ j A:=⟨r.hd,by have:=r.dp;omega,by have:=r.un;omega⟩
def aQ.deeper{k:Nat}(r:aQ (k+1) A)(env:Env):aQ k (A.deeper env):=
 ⟨r.hd,by have:=r.dp;show A.depth+1+3*k+5<_;omega,by have:=r.un;show A.units+3+16*k+200<_;omega⟩
def aQ.depth{k:Nat}(r:aQ k A):A.depth<recursionLimit:=by have:=r.dp;omega
def aQ.units{k:Nat}(r:aQ k A):A.units+64<cLine:=by have:=r.un;omega
def EB:TA:=fun _ H Q=>Q [] H
def EC (ta:TE)(tr:TA):TA:=fun σ H Q=>ta σ H fun x H1=>tr σ H1 fun xs H2=>Q (x::xs) H2
section
variable {X:Cx}{e:Expr}{es:List Expr}{te:TE}{t:TA}{pos:Pos}
def jf:PA X [] EB:=fun _ _ _ _ H Q I h=>Yn ⟨[],H,I,.nil,h⟩
def gE(ha:PE X e te)(hr:PA X es t)(hs:starEach (e::es) X.env=(false,eval e X.env)::starEach es X.env:=by rfl):PA X (e::es) (EC te t):=by
 intro pos pins s σ H Q I h
 rw[hs]
 show wpAny _ _ (spliced ((false,eval e X.env)::backTo pos (starEach es X.env))) _ _ s
 refine Jx (aU (ha pins s σ H _ I h) fun u s1 ag=>?_)
 obtain⟨x,H1,I1,r1,q1⟩:=ag
 exact aU (hr pos pins s1 σ H1 _ I1 q1) fun us s2 ⟨xs,H2,I2,r2,q2⟩=>⟨x::xs,H2,I2,.cons r1 r2,q2⟩
def MH (t:TA):TE:=fun σ H Q=>t σ H fun xs H1=>xs.length<=sizeLine/\∀ p,H1 p=none->Q (.ref p) (upd H1 p (.tup xs))
def MI (t:TA):TE:=fun σ H Q=>t σ H fun xs H1=>xs.length<=sizeLine/\∀ p,H1 p=none->Q (.ref p) (upd H1 p (.lst xs))
def MJ{x1}(h:PA X es t):PE X (.Tuple es x1 pos) (MH t):=by
 intro pins s σ H Q I hq
 refine wpAny_Tuple_spliced (aU (h pos pins s σ H _ I hq) fun us s1 ⟨xs,H1,I1,r,z,q⟩=>⟨by rw[<- r.length];exact z,?_⟩)
 have hf:H1 s1.heap.objs.size=none:=I1.aw.fresh (Qg _)
 refine⟨.ref s1.heap.objs.size,upd H1 s1.heap.objs.size (.tup xs),I1.laid (t':=s1.toks) (fun b u e=>Qd _ e) (Qg _) ?_,rfl,q _ hf⟩
 exact⟨z,us,r,⟨_,Qp _ rfl,rfl,⟨_,rfl⟩,rfl⟩⟩
def ML(h:PA X es t):PE X (.List es pos) (MI t):=by
 intro pins s σ H Q I hq
 refine wpAny_List_spliced (aU (h pos pins s σ H _ I hq) fun us s1 ⟨xs,H1,I1,r,z,q⟩=>⟨by rw[<- r.length];exact z,?_⟩)
 have hf:H1 s1.heap.objs.size=none:=I1.aw.fresh (Qg _)
 refine⟨.ref s1.heap.objs.size,upd H1 s1.heap.objs.size (.lst xs),I1.laid (t':=s1.toks) (fun b u e=>Qd _ e) (Qg _) ?_,rfl,q _ hf⟩
 exact⟨z,us,0,r,Qp _ rfl⟩
end
abbrev Sp:=List V->Hp->VK->XK->Prop
abbrev lR:=List Env->Hp->Shared->XK->Value->Shared->Prop
structure n_ (P:Program) (w:World) (K:PySem.W.Frag) (mg:Str->Option Value) (base:Heap) (A:Around) (outer:List Env) (s:Shared) (H:Hp):Prop where
 frames:A.frames=some outer
 mod:Mod K mg base
 bs:∀ b o,base.get? b=some o->s.heap.get? b=some o/\H b=none
 lI:base.objs.size<=s.heap.objs.size
 eK:s.heap.FunFrames base outer
 qA:∀ b∈cQ outer,H b=none
 aw:cP P w H s.heap
 bare:AllBare s.gens
def CE (outer:List Env)(P:Program)(w:World)(H:Hp)(s:Shared)(Q:VK)(u:Value)(s':Shared):Prop:=
 ∃ v H',s'.os=s.os/\AllBare s'.gens/\Un (cQ outer) [] H H' s.heap s'.heap/\cP P w H' s'.heap/\bw v u/\Q v H'
def CR (CX:lR)(outer:List Env)(P:Program)(w:World)(H:Hp)(s:Shared)(Q:VK)(E:XK)(r:Result)(s':Shared):Prop:=
 match r with
 | .ok (.ret u)=>CE outer P w H s Q u s'
 | .ok _=>False
 | .error e=>CX outer H s E e s'
structure dU (P:Program) (w:World) (K:PySem.W.Frag) (mg:Str->Option Value) (base:Heap) (CX:lR) (k:Nat) (f:Addr) (fd:FuncData) (ps:List Str) (sp:Sp):Prop where
 len:∀ vs H Q E,sp vs H Q E->vs.length=ps.length
 run:∀ (A:Around) (outer:List Env) (s:Shared) (H:Hp) (args:Args) (us:List Value) (vs:List V) (Q:VK) (E:XK),aQ k A->n_ P w K mg base A outer s H->BindsTo s fd args (ps.zip us)->aY vs us->sp vs H Q E->
  codeAny (model P w) A (.call (.ref f) args) (CR CX outer P w H s Q E) s
section
variable {X:Cx}{pins:List (Addr×Obj)}{σ:St}{H:Hp}{s s':Shared}
def Inv.uM(I:Inv X pins σ H s):n_ X.prog X.w X.K X.mg X.base X.A X.stack s H:=
 ⟨I.ok.frames,I.ok.mod,I.bs,QU I.ok.lI I.sz,I.stack,I.d9,I.aw,I.bare⟩
def Inv.after{Q:VK}(I:Inv X pins σ H s)(h:CE X.stack X.prog X.w H s Q u s'):EP X pins σ Q u s':=by
 obtain⟨v,H',os,bare,un,aw,r,q⟩:=h
 obtain⟨hh,g,d,t,uO⟩:=s'
 obtain rfl:uO=s.os:=os
 exact⟨v,H',I.call (h':=hh) (g':=g) (d':=d) (t':=t) (ch:=[]) un aw bare (fun b z=>absurd z (by simp)),r,q⟩
end
def MM (sp:Sp)(pC:List V)(E:XK)(t:TA):TE:=fun σ H Q=>t σ H fun vs H1=>sp (vs++pC) H1 Q E
def oa (K:PySem.W.Frag)(fd:FuncData)(ps:List Str)(ds:List Value):Prop:=
 ∀ (s:Shared) (us:List Value),K.In s.heap->(us++ds).length=ps.length->BindsTo s fd ⟨us,[]⟩ (ps.zip (us++ds))
def oa.all{fd:FuncData}(h:∀ us:List Value,us.length=ps.length->bindArgs fd ⟨us,[]⟩=pure (ps.zip us)):oa K fd ps []:=fun s us _ hl=>by
 rw[ZO]at hl ⊢
 exact .of_eq (h us hl)
def xN (CX:lR)(X:Cx)(E:XK):Prop:=∀ (pins:List (Addr×Obj)) (σ:St) (H:Hp) (s:Shared) (e:Value) (s':Shared),Inv X pins σ H s->CX X.stack H s E e s'->X.xe e s'
section
variable {X:Cx}{CX:lR}{k:Nat}{f C:Addr}{fd:FuncData}{ps:List Str}{sp:Sp}{pC:List V}{ds:List Value}{E:XK}{x m:Str}{p pos apos:Pos}{e o:Expr}{es:List Expr}{ta:TE}{t:TA}
theorem MN{σ:St}{H:Hp}{Q:VK}{vs:List V}(F:dU X.prog X.w X.K X.mg X.base CX k f fd ps sp)(hr:aQ k X.A)(hb:oa X.K fd ps ds)(hd:aY pC ds)(hx:xN CX X E)
  (I:Inv X pins σ H s) (r:aY vs us) (h:sp (vs++pC) H Q E):wpAny (model X.prog X.w) X.A (call (.ref f) us) (EP X pins σ Q) X.xe s:=by
 have r2:aY (vs++pC) (us++ds):=r.append hd
 have hl:(us++ds).length=ps.length:=by rw[<- r2.length];exact F.len _ _ _ _ h
 refine Ve (Jl (F.run X.A X.stack s H ⟨us,[]⟩ (us++ds) (vs++pC) Q E hr I.uM (hb s us I.eL hl) r2 h) fun r s' hq=>?_)
 cases r with
 | error e=>exact hx pins σ H s e s' I hq
 | ok fl=>
  cases fl with
  | ret u=>exact I.after hq
  | next=>exact False.elim hq
  | brk=>exact False.elim hq
  | cont=>exact False.elim hq
def An(F:dU X.prog X.w X.K X.mg X.base CX k f fd ps sp)(hr:aQ k X.A)(hg:Gl X x)(hm:X.mg x=some (.ref f))(hk:PySem.W.keepIn X.K (.ref f)=true)(hb:oa X.K fd ps ds)(hd:aY pC ds)(hx:xN CX X E)
  (ha:PA X (e::es) t) (gF:(x==("__debug__":Str))=false:=by decide) (he:starEach (e::es) X.env=(false,eval e X.env)::starEach es X.env:=by rfl) (bX:(backTo pos (starEach es X.env)).any (·.1)=false:=by rfl) :
  PE X (.Call (.Name x p) (e::es) [] pos) (MM sp pC E t):=by
 intro pins s σ H Q I h
 refine Yh (uI I hg hm ?_ gF)
 refine PySem.W.callWith_K (h₀:=X.base) I.ok.mod.uD hk (aU (ha pos pins s σ H _ I h) fun us s1 ⟨vs,H1,I1,r,q⟩=>⟨I1.eL,?_⟩) he bX
 exact MN F hr hb hd hx I1 r q
structure Mk (K:PySem.W.Frag) (C f:Addr):Prop where
 makes:PySem.W.makesIn K C=true
 init:PySem.W.findIn K (.ref C) "__init__" = some (some (.ref f))
 fn:PySem.W.isFn K (.ref f)=true
 kp:PySem.W.keepIn K (.ref C)=true
end
structure ah (N P:List Str) (sc:Scope):Prop where
 kind:sc.kind=.function
 co:sc.isCoroutine=false
 gen:sc.isGenerator=false
 nd:N.Nodup
 pre:N.take P.length=P
 par:∀ x∈P,sc.names.lookup x=some .local\/sc.names.lookup x=some .cell
 qJ:∀ y∈sc.names,y.2 ≠ .free
def dz{P:List Str}(h:N.Nodup/\(∀ x∈P,sc.names.lookup x=some .local\/sc.names.lookup x=some .cell)/\∀ y∈sc.names,y.2 ≠ .free)(a:sc.kind=.function:=by rfl)(b:sc.isCoroutine=false:=by rfl)(c:sc.isGenerator=false:=by rfl)(d:N.take P.length=P:=by rfl):ah N P sc:=⟨a,b,c,h.1,d,h.2.1,h.2.2⟩
def ED:∀ {binds:List (Str×Value)} {m:Str->Option Value},(∀ v,(x,v) ∉ binds)->bindL kindOf binds m x=m x
 | [],_,_=>rfl
 | (n,v)::r,m,h=>by
  unfold bindL
  rw[ED fun w hw=>h w (Qh _ hw)]
  split
  ·have:x≠n:=by rintro rfl;exact h v Qk
   simp[this]
  ·rfl
def EE:∀ {binds:List (Str×Value)} {m:Str->Option Value},(∀ v,(x,v) ∉ binds)->bindC kindOf binds m x=m x
 | [],_,_=>rfl
 | (n,v)::r,m,h=>by
  unfold bindC
  rw[EE fun w hw=>h w (Qh _ hw)]
  split
  ·rfl
  ·have:x≠n:=by rintro rfl;exact h v Qk
   simp[this]
def EF:∀ {P:List Str} {vs:List Value} {i:Nat} {m:Str->Option Value},P.Nodup->P[i]? = some x->vs[i]? = some v->kindOf x=some .local->
  bindL kindOf (P.zip vs) m x=some v
 | [],_,_,_,_,h,_,_=>by simp at h
 | _::_,[],_,_,_,_,h,_=>by simp at h
 | p::P,w::vs,0,m,nd,h1,h2,hk=>by
  simp at h1 h2;subst h1;subst h2
  show bindL kindOf ((p,w)::P.zip vs) m p=_
  unfold bindL
  rw[ED fun v hv=>(Q9.mp nd).1 (YT hv).1,Qi hk]
  simp
 | p::P,w::vs,i+1,m,nd,h1,h2,hk=>by
  show bindL kindOf ((p,w)::P.zip vs) m x=_
  unfold bindL
  exact EF (i:=i) (Q9.mp nd).2 (by simpa using h1) (by simpa using h2) hk
def EG:∀ {P:List Str} {vs:List Value} {i:Nat} {m:Str->Option Value},P.Nodup->P[i]? = some x->vs[i]? = some v->kindOf x≠some .local->
  bindC kindOf (P.zip vs) m x=some v
 | [],_,_,_,_,h,_,_=>by simp at h
 | _::_,[],_,_,_,_,h,_=>by simp at h
 | p::P,w::vs,0,m,nd,h1,h2,hk=>by
  simp at h1 h2;subst h1;subst h2
  show bindC kindOf ((p,w)::P.zip vs) m p=_
  unfold bindC
  rw[EE fun v hv=>(Q9.mp nd).1 (YT hv).1,Qj hk]
  simp
 | p::P,w::vs,i+1,m,nd,h1,h2,hk=>by
  show bindC kindOf ((p,w)::P.zip vs) m x=_
  unfold bindC
  exact EG (i:=i) (Q9.mp nd).2 (by simpa using h1) (by simpa using h2) hk
def start (N:List Str)(vs:List V):St:=vs.map some++List.replicate (N.length-vs.length) none
def k_ (CX:lR)(P:Program)(w:World)(K:PySem.W.Frag)(mg:Str->Option Value)(base:Heap)(N:List Str)(qual:Str)(scope:Scope)(f:Addr)(cd:Value)(A:Around)(outer:List Env)(s:Shared)(H:Hp)(E:XK):Cx where
 prog:=P
 w:=w
 K:=K
 mg:=mg
 base:=base
 A:=A.deeper (envOfC qual scope s.heap.objs.size f cd)
 N:=N
 av:=s
 br:=H
 env:=envOfC qual scope s.heap.objs.size f cd
 outer:=outer
 stack:=envOfC qual scope s.heap.objs.size f cd::outer
 ex:=[]
 calm:=true
 fn:=fun _=>true
 pn:=[]
 xe:=fun e s'=>wpAny (model P w) (A.deeper (envOfC qual scope s.heap.objs.size f cd)) (leaving (envOfC qual scope s.heap.objs.size f cd) e) (fun _ nr=>CX outer H s E e nr) (fun e' nr=>CX outer H s E e' nr) s'
def EH(h:sc.names.lookup x=some .cell):∃ c,(cellsFrom n sc.names []).lookup x=some c:=by
 have q:=Jy sc.names n [] (.inl h)
 exact Jq.mp q
def MO{CX:lR}{f:Addr}{cd:Value}{outer:List Env}{s1:Shared}{H:Hp}{E:XK}{vs:List V}
  (S:ah N ps scope) (hd:A.handled=none) (e0:n_ P w K mg base A outer s H) (hl:vs.length=ps.length) (r:aY vs us)
  (x:InCallC s s.heap.objs.size (bindL (envOfC qual scope s.heap.objs.size f cd).kindOf (ps.zip us) fun _=>none) (cellsFrom (s.heap.objs.size+1) scope.names []) (bindC (envOfC qual scope s.heap.objs.size f cd).kindOf (ps.zip us) fun _=>none) s1) :
  Inv (k_ CX P w K mg base N qual scope f cd A outer s H E) [] (start N vs) H s1:=by
 have bX:ps.length<=N.length:=by have:=Jb List.length S.pre;rw[Zm]at this;omega
 obtain⟨h1,tk,rfl,hk⟩:=x.done
 have uP:∀ b:Addr,b ∉ (k_ CX P w K mg base N qual scope f cd A outer s H E).ex:=fun b z=>absurd (show b∈([]:List Addr)from z) (by simp)
 refine⟨⟨e0.mod,S.kind,rfl,rfl,Qg _,fun y z c h1 h2=>?_,fun y hy=>?_,fun y c _ h=>?_,fun _=>hd,Around.frames_deeper e0.frames,.inr ⟨rfl,rfl⟩,fun b z=>absurd z (uP b),e0.bs,e0.lI,fun b _ _=>uP b,fun b z=>absurd z (uP b),e0.eK,e0.qA⟩,
  rfl,e0.bare,Un.kept hk,⟨_,x.toInCall.ns,fun i y v h1 h2 h3=>?_⟩,fun y c h=>⟨_,x.cell y c h⟩,e0.aw.fresh (Qg _),fun y c h=>?_,fun p hp=>absurd (show p∈([]:List (Addr×Obj))from hp) (by simp),e0.aw.kept hk,?_⟩
 ·exact name_of_addr x.apart (QY h1) (QY h2)
 ·have hy:scope.names.lookup y=some .cell\/scope.names.lookup y=some .free:=hy
  rcases hy with hy|hy
  ·exact EH hy
  ·exact absurd rfl (S.qJ _ (QY hy))
 ·exact ZN (x.above y c (QY h))
 ·have hi:i<vs.length:=by
   unfold start at h2
   by_cases hi:i<vs.length
   ·exact hi
   ·rw[Zt (by simpa using hi)]at h2
    rw[Z4]at h2
    split at h2<;>cases h2
  have ha:vs[i]? = some v:=by
   unfold start at h2
   rw[Q0 (by simpa using hi),Ql]at h2
   cases e:vs[i]? with
   | none=>rw[e]at h2;cases h2
   | some a=>rw[e]at h2;cases h2;rfl
  obtain⟨u,hu,rv⟩:=r.get ha
  have hp:ps[i]? = some y:=by
   rw[<- S.pre,Z0 (by omega)];exact h1
  have EI:ps.Nodup:=by rw[<- S.pre];exact S.nd.sublist (List.take_sublist _ _)
  refine⟨u,rv,?_⟩
  rcases S.par y (QB hp)with k|k
  ·exact .inl ⟨k,EF EI hp hu k⟩
  ·obtain⟨c,e⟩:=EH (n:=s.heap.objs.size+1) k
   refine .inr ⟨.inl k,c,e,?_⟩
   have q:=x.cell y c e
   rw[EG EI hp hu (by show scope.names.lookup y≠_;rw[k];decide)]at q
   exact q
 ·exact e0.aw.fresh (ZN (x.above y c (QY h)))
 ·unfold start
  show _=N.length
  rw[Qo,Qe,ZK]
  omega
def EJ{CX:lR}{k:Nat}{f:Addr}{name:Str}{params:Arguments}{dV kV doc pm bG ct oc:Value}{an od:Option Addr}
  {lS:Array (Option Value)}  {sp:Sp} (lk:K.lookup f=some ⟨oc,od,.func (PySem.W.fnOf name qual params body scope dV kV doc pm an bG ct),lS⟩) (gC:PySem.W.codeIn K bG qual=true) (S:ah N ps scope)
  (len:∀ vs H Q E,sp vs H Q E->vs.length=ps.length)
  (lT:∀ (A:Around) (outer:List Env) (s:Shared) (H:Hp) (vs:List V) (Q:VK) (E:XK),aQ k (A.deeper (envOfC qual scope s.heap.objs.size f bG))->sp vs H Q E->
    ∃ t,gB (k_ CX P w K mg base N qual scope f bG A outer s H E) body t/\t { nx:=fun _ H'=>Q .aK H',rt:=Q } (start N vs) H) :
  dU P w K mg base CX (k+1) f (PySem.W.fnOf name qual params body scope dV kV doc pm an bG ct) ps sp:=by
 refine⟨len,fun A outer s H args us vs Q E hr e0 hb r jy=>?_⟩
 have hl:=len _ _ _ _ jy
 have KX:K.In s.heap:=e0.mod.uD.keeps fun b o e=>(e0.bs b o e).1
 have lim:s.heap.NoLimit:=e0.mod.nolimit.keeps fun b o e=>(e0.bs b o e).1
 have uQ:∀ y∈ps.zip us,scope.names.lookup y.1=some .local\/(scope.names.lookup y.1=some .cell/\((cellsFrom (s.heap.objs.size+1) scope.names []).lookup y.1).isSome=true):=fun⟨n,v⟩ hy=>by
  rcases S.par n (YT hy).1 with q|q
  ·exact .inl q
  ·exact .inr ⟨q,Jy _ _ _ (.inl q)⟩
 refine codeAny_call_function hr.depth (KX _ _ lk) rfl S.co S.gen rfl (PySem.W.codeRec_of KX gC) (hb _ _ _ _ ?_)
 refine wpAny_newFunctionEnv_cells S.kind uQ fun env he s1 x=>?_
 subst he
 refine⟨lim.keeps x.toInCall.keep,codeAny_func ?_⟩
 obtain⟨t,ht,hq⟩:=lT A outer s H vs Q E (hr.deeper _) jy
 have I:Inv (k_ CX P w K mg base N qual scope f bG A outer s H E) [] (start N vs) H s1:=MO S hr.hd e0 hl r x
 refine ZB (ht [] s1 (start N vs) H _ I hq) (fun fl s' hs=>?_) fun e s' hs=>hs
 have fin:∀ {aF:St} {H':Hp} {v:V} {u:Value},Inv (k_ CX P w K mg base N qual scope f bG A outer s H E) [] aF H' s'->bw v u->Q v H'->CE outer P w H s Q u s':=
  fun {aF H' v u} J rv q=>⟨v,H',J.os,J.bare,J.base,J.aw,rv,q⟩
 cases fl with
 | ret u=>
  obtain⟨v,aF,H',J,rv,q⟩:=hs
  exact fin J rv q
 | next=>
  obtain⟨aF,H',J,q⟩:=hs
  exact fin (v:=V.aK) (u:=Value.none) J rfl q
 | brk=>
  obtain⟨_,_,_,q⟩:=hs
  exact False.elim q
 | cont=>
  obtain⟨_,_,_,q⟩:=hs
  exact False.elim q
section
variable {X:Cx}{x:Str}{p pos:Pos}{e:Expr}{es:List Expr}{t:TA}{id T:String}{r:List V->Hp->VK->Prop}
def xO (r:List V->Hp->VK->Prop)(t:TA):TE:=fun σ H Q=>t σ H fun vs H1=>r vs H1 Q
def nu(hc:iE X (.builtin id) r)(hg:Gl X x)(hm:X.mg x=none)(hv:bootBuiltins x=some (.builtin id))(ha:PA X (e::es) t)(hn:x ≠ "__name__":=by decide)(gF:(x==("__debug__":Str))=false:=by decide)
  (he:starEach (e::es) X.env=(false,eval e X.env)::starEach es X.env:=by rfl) (bX:(backTo pos (starEach es X.env)).any (·.1)=false:=by rfl):PE X (.Call (.Name x p) (e::es) [] pos) (xO r t):=by
 intro pins s σ H Q I h
 refine Yh (qC I hg hm hv ?_ hn gF)
 exact PyProof.Rows.callWith_builtin1 (aU (ha pos pins s σ H _ I h) fun us s1 ⟨vs,H1,I1,r1,q1⟩=>hc pins s1 σ H1 vs us Q I1 r1 q1) he bX
def qK(hc:iE X (.type T) r)(hg:Gl X x)(hm:X.mg x=none)(hv:bootBuiltins x=some (.type T))(ha:PA X (e::es) t)(hn:x ≠ "__name__":=by decide)(gF:(x==("__debug__":Str))=false:=by decide)
  (he:starEach (e::es) X.env=(false,eval e X.env)::starEach es X.env:=by rfl) (bX:(backTo pos (starEach es X.env)).any (·.1)=false:=by rfl):PE X (.Call (.Name x p) (e::es) [] pos) (xO r t):=by
 intro pins s σ H Q I h
 refine Yh (qC I hg hm hv ?_ hn gF)
 exact ZR (aU (ha pos pins s σ H _ I h) fun us s1 ⟨vs,H1,I1,r1,q1⟩=>hc pins s1 σ H1 vs us Q I1 r1 q1) he bX
end
end L2
namespace HT
open PySem PyProof.Rows
section
open PySem.SeqAt
open PySem.AutoSeq1 (wpAny_loadPart')
open PySem.MeetsSeq PySem.MeetsSeq2 PySem.MeetsSeq3
end
section
variable {prog:Program}{w:World}{A:Around}{E:Value->Shared->Prop}{s:Shared}
def jz (n d:Nat):Option Int->Nat
 | none=>d
 | some v=>if v<0 then(v+(n:Int)).toNat else min v.toNat n
end
end HT
namespace L2
open PySem PySem.Spec PyProof.Rows
variable {H:Hp}{i:Int}{n:Nat}{pins:List (Addr×Obj)}{r:R2}{s:Shared}{σ:St}
abbrev TO:=St->Hp->(Option Int->Hp->Prop)->Prop
section
variable {X:Cx}{e:Expr}{te:TE}{lo hi:Option Expr}{tl th:TO}{pos p2:Pos}
def MP (X:Cx)(r:V->Option Int->Option Int->Hp->VK->Prop):Prop:=
 ∀ (pins:List (Addr×Obj)) (s:Shared) (σ:St) (H:Hp) (x:V) (v vl vu:Value) (lo hi:Option Int) (sl:Addr) (Q:VK),Inv X pins σ H s->bw x v->s.heap.IsSliceOf sl vl vu .none->IsPart vl lo->IsPart vu hi->r x lo hi H Q->
  ∃ T id,typeLookup (.type T) "__getitem__" = pure (some (.builtin id))/\s.TypeIs v T/\wpAny (model X.prog X.w) X.A (getItem v (.ref sl)) (EP X pins σ Q) X.xe s
def xP (xs:List V)(lo hi:Option Int):List V:=(xs.drop (HT.jz xs.length 0 lo)).take (HT.jz xs.length xs.length hi-HT.jz xs.length 0 lo)
def MQ(xs:List V)(lo hi:Option Int):(xP xs lo hi).length<=xs.length:=by
 unfold xP
 rw[Zm,JX]
 omega
end
def iF (n:Nat)(i:Int):Option Nat:=if 0<=i then(if i<n then some i.toNat else none)else if -(n:Int)<=i then some (i+n).toNat else none
def dW {α:Type}(xs:List α)(i:Int):Option α:=(iF xs.length i).bind fun j=>xs[j]?
def Ao{j:Nat}(h:iF n i=some j):seqIndex? i n=some j/\j<n /\ -(n:Int)<=i/\i<n:=by
 unfold iF at h
 by_cases h0:0<=i
 ·rw[Qi h0]at h
  by_cases h1:i<n
  ·rw[Qi h1]at h
   have e:i.toNat=j:=QC h
   exact⟨by rw[seqIndex_of h0 h1,e],by omega,by omega,h1⟩
  ·rw[Qj h1]at h;cases h
 ·rw[Qj h0]at h
  by_cases h1:-(n:Int)<=i
  ·rw[Qi h1]at h
   have e:(i+n).toNat=j:=QC h
   exact⟨by rw[seqIndex_neg (by omega) h1,e],by omega,h1,by omega⟩
  ·rw[Qj h1]at h;cases h
def Ap{α:Type}{xs:List α}{v:α}(h:dW xs i=some v):∃ j,seqIndex? i xs.length=some j/\xs[j]? = some v/\j<xs.length /\ -(xs.length:Int)<=i/\i<xs.length:=by
 unfold dW at h
 cases e:iF xs.length i with
 | none=>rw[e]at h;cases h
 | some j=>
  rw[e]at h
  obtain⟨h1,h2,h3,h4⟩:=Ao e
  exact⟨j,h1,h,h2,h3,h4⟩
def uR (b:Expr):Prop:=∀ o i,subscripted b false o i=operate [o,i] (getItem o i)
def og (X:Cx)(r:R2):Prop:=
 ∀ (value slice:Expr) (pins:List (Addr×Obj)) (s:Shared) (σ:St) (H:Hp) (x y:V) (v u:Value) (Q:VK),Inv X pins σ H s->bw x v->bw y u->r x y H Q->
  subscripted slice false v u=operate [v,u] (getItem v u)->wpAny (model X.prog X.w) X.A (subscriptTail value slice v u) (EP X pins σ Q) X.xe s
def xQ (X:Cx)(id:String)(r:V->List V->Hp->VK->Prop):Prop:=
 ∀ (pins:List (Addr×Obj)) (s:Shared) (σ:St) (H:Hp) (x:V) (xs:List V) (v:Value) (us:List Value) (Q:VK),Inv X pins σ H s->bw x v->aY xs us->r x xs H Q->
  wpAny (model X.prog X.w) X.A (call (.builtin id) (v::us)) (EP X pins σ Q) X.xe s
section
variable {X:Cx}{a b:Expr}{ta tb:TE}{pos:Pos}
def og.or{r':R2}(h:og X r)(h':og X r'):og X (fun x y H Q=>r x y H Q\/r' x y H Q):=by
 intro value slice pins s σ H x y v u Q I rx ry q hs
 rcases q with q|q
 ·exact h value slice pins s σ H x y v u Q I rx ry q hs
 ·exact h' value slice pins s σ H x y v u Q I rx ry q hs
def xR(hr:og X r)(ha:PE X a ta)(hb:PE X b tb)(hs:uR b):PE X (.Subscript a b pos) (kH r ta tb):=by
 intro pins s σ H Q I h
 exact Subscript_ (Es ha hb I h fun v u s2 x y H2 I2 rx ry q=>hr a b pins s2 σ H2 x y v u Q I2 rx ry q (hs _ _))
def EK (K:PySem.W.Frag):R2:=fun x y H Q=>∃ p xs i v,x=.ref p/\y=.int i/\cn K H p xs/\dW xs i=some v/\Q v H
def EL (K:PySem.W.Frag):R2:=fun x y H Q=>∃ p xs i v,x=.ref p/\y=.int i/\dh K H p xs/\dW xs i=some v/\Q v H
def EM:R2:=fun x y H Q=>∃ z i c,x=.str z/\y=.int i/\z.length<=sizeLine/\dW z.cps.toList i=some c/\Q (.str ⟨#[c]⟩) H
def MR:og X (EK X.K):=by
 intro value slice pins s σ H x y v u Q I rx ry h hs
 obtain⟨p,xs,i,z,rfl,rfl,hq,he,q⟩:=h
 cases rx
 obtain⟨t,rfl⟩:=ry
 obtain⟨ao,r,pl,hz⟩:=I.list hq
 obtain⟨j,h1,h2,h3,h4,h5⟩:=Ap he
 obtain⟨w,ew,lU⟩:=r.get h2
 have hl:=r.length
 have hn:=tE
 have fin:EP X pins σ Q w s:=⟨z,H,I,lU,q⟩
 by_cases h0:0<=i
 ·have hj:i.toNat=j:=by
   rw[seqIndex_of h0 h5]at h1
   exact QC h1
  exact item_listR pl.isList h0 (by omega) (by rw[hj];simpa using ew) fin hs
 ·have hj:(i+(ao.toArray.size:Int)).toNat=j:=by
   rw[seqIndex_neg (by omega) h4]at h1
   rw[Qn,<- hl]
   exact QC h1
  exact subscriptTail_builtinR (x:=w) pl.isList.typeIs slot_list_getitem.lookup
   (wpAny_getItem_list_neg (Q:=fun r s'=>r=w/\EP X pins σ Q r s') pl.isList (by omega) (by rw[Qn]<;>omega) (by omega) (by rw[hj];simpa using ew) ⟨rfl,fin⟩) hs
def MS:og X (EL X.K):=by
 intro value slice pins s σ H x y v u Q I rx ry h hs
 obtain⟨p,xs,i,z,rfl,rfl,hq,he,q⟩:=h
 cases rx
 obtain⟨t,rfl⟩:=ry
 obtain⟨ao,r,pl,hz⟩:=I.tuple hq
 obtain⟨j,h1,h2,h3,h4,h5⟩:=Ap he
 obtain⟨w,ew,lU⟩:=r.get h2
 have hl:=r.length
 have hn:=tE
 have fin:EP X pins σ Q w s:=⟨z,H,I,lU,q⟩
 exact subscriptTail_builtinR (x:=w) pl.typeIs slot_tuple_getitem.lookup
  (getItem_tuple (j:=j) (Q:=fun r s'=>r=w/\EP X pins σ Q r s') pl (by omega) (by omega) (by rw[Qn,<- hl];exact h1) (by simpa using ew) ⟨rfl,fin⟩) hs
def MT:og X EM:=by
 intro value slice pins s σ H x y v u Q I rx ry h hs
 obtain⟨z,i,c,rfl,rfl,hz,he,q⟩:=h
 obtain⟨t,rfl⟩:=rx
 obtain⟨t',rfl⟩:=ry
 obtain⟨j,h1,h2,h3,h4,h5⟩:=Ap he
 have hl:z.cps.toList.length=z.length:=by simp[Str.length]
 rw[hl]at h1 h4 h5
 have hn:=tE
 exact tail_any (typeIs_str s z t) slot_str_getitem.lookup (getItem_str (c:=c) (by
  have e1:decide (i < -(2 ^ 63:Int))=false:=QW (by omega)
  have e2:decide (i ≥ 2 ^ 63)=false:=QW (by omega)
  rw[e1,e2,Bool.or_false]) (by rw[h1];simpa using h2) ⟨.str ⟨#[c]⟩,H,I.tok _,⟨_,rfl⟩,q⟩) hs
def MU (K:PySem.W.Frag):R2:=fun x y H Q=>EK K x y H Q\/EL K x y H Q\/EM x y H Q
def xS:og X (MU X.K):=MR.or (MS.or MT)
def MV(ao:List Value)(n j:Nat)(u:Value):Obj.mapSeq (·.setIfInBounds j u) { cls:=.type "list",data:=.seq ao.toArray n }={ cls:=.type "list",data:=.seq (ao.set j u).toArray n }:=by
 simp[Obj.mapSeq]
def Inv.lst{pins:List (Addr×Obj)}{σ:St}{H:Hp}{s:Shared}{p:Addr}{xs:List V}(I:Inv X pins σ H s)(h:H p=some (.lst xs)) :
  ∃ (ao:List Value) (n:Nat),aY xs ao/\s.heap.get? p=some { cls:=.type "list",data:=.seq ao.toArray n }/\xs.length<=sizeLine:=by
 obtain⟨z,ao,n,r,e⟩:=I.aw p _ h
 exact⟨ao,n,r,e,z⟩
def Inv.qL{p:Addr}{xs ys:List V}{ao its':List Value}{n n':Nat}{f:Obj->Obj}(I:Inv X pins σ H s)(h:H p=some (.lst xs))
  (ho:s.heap.get? p=some { cls:=.type "list",data:=.seq ao.toArray n }) (hf:f { cls:=.type "list",data:=.seq ao.toArray n }={ cls:=.type "list",data:=.seq its'.toArray n' }) (r:aY ys its') (hz:ys.length<=sizeLine) (t:Nat) :
  Inv X pins σ (upd H p (.lst ys)) { s with heap:=s.heap.update p f,toks:=t }:=by
 have e:(s.heap.update p f).get? p=some { cls:=.type "list",data:=.seq its'.toArray n' }:=by
  rw[Zk f ho (by rw[hf]<;>rfl),hf]
 refine I.write (x:=p) (e:=p) (by rw[h];trivial) (.inl rfl) (fun b u hb q=>(Zy _ _ (Jk hb)).trans q) ⟨_,e⟩ ?_
 exact⟨hz,its',n',r,e⟩
def MW:V->V->V->Hp->(Hp->Prop)->Prop:=fun o i v H Q=>∃ p xs k j,o=.ref p/\i=.int k/\H p=some (.lst xs)/\iF xs.length k=some j/\Q (upd H p (.lst (xs.set j v)))
def MX:Ek X MW:=by
 intro pins s σ H o i v ov iv u Q I ro ri rv h
 obtain⟨p,xs,k,j,rfl,rfl,hp,hj,q⟩:=h
 cases ro
 obtain⟨t,rfl⟩:=ri
 obtain⟨ao,n,r,ho,hz⟩:=I.lst hp
 obtain⟨h1,h2,h3,h4⟩:=Ao hj
 have hl:=r.length
 have hn:=tE
 have I':Inv X pins σ (upd H p (.lst (xs.set j v))) { s with heap:=s.heap.update p (Obj.mapSeq (·.setIfInBounds j u)) }:=
  I.qL hp ho (MV ao n j u) (r.set rv j) (by rw[QN];exact hz) s.toks
 by_cases h0:0<=k
 ·have hk:k.toNat=j:=by
   rw[seqIndex_of h0 h4]at h1
   exact QC h1
  exact PySem.W.ki_setAt ho h0 (by omega) (by rw[Qn,<- hl];exact h4) (by rw[hk];exact⟨_,I',q⟩)
 ·have hk:(k+(ao.toArray.size:Int)).toNat=j:=by
   rw[seqIndex_neg (by omega) h3]at h1
   rw[Qn,<- hl]
   exact QC h1
  exact PySem.W.ki_setBack ho (by omega) (by rw[Qn,<- hl];exact h3) (by omega) (by rw[hk];exact⟨_,I',q⟩)
def MY(lo hi:Option Int)(n:Nat):(sliceBounds lo hi none n).1=((HT.jz n 0 lo:Nat):Int)/\(sliceBounds lo hi none n).2.1=((HT.jz n n hi:Nat):Int)/\(sliceBounds lo hi none n).2.2=1:=by
 refine⟨?_,?_,rfl⟩
 ·cases lo with
  | none=>simp[sliceBounds,HT.jz]
  | some i=>
   simp only[sliceBounds,HT.jz,Option.getD_none,show(1:Int) > 0 by decide,ZD]
   by_cases h:i<0
   ·simp only[h,ZD]<;>omega
   ·simp only[h,Zp]<;>omega
 ·cases hi with
  | none=>simp[sliceBounds,HT.jz]
  | some i=>
   simp only[sliceBounds,HT.jz,Option.getD_none,show(1:Int) > 0 by decide,ZD]
   by_cases h:i<0
   ·simp only[h,ZD]<;>omega
   ·simp only[h,Zp]<;>omega
def MZ(ao:List Value)(lo hi:Option Int):slicePick ao.toArray lo hi none=((ao.drop (HT.jz ao.length 0 lo)).take (HT.jz ao.length ao.length hi-HT.jz ao.length 0 lo)).toArray:=by
 obtain⟨h1,h2,h3⟩:=MY lo hi ao.toArray.size
 unfold slicePick
 rw[h1,h2,h3]
 simp only[sliceRange_one,pick_run,Qn]<;>rfl
def M0 (K:PySem.W.Frag):V->Option Int->Option Int->Hp->VK->Prop:=fun x lo hi H Q=>∃ a xs,x=.ref a/\cn K H a xs/\∀ p,H p=none->Q (.ref p) (upd H p (.lst (xP xs lo hi)))
def j6d:MP X (M0 X.K):=by
 intro pins s σ H x v vl vu lo hi sl Q I rx hs pl pu h
 obtain⟨a,xs,rfl,hx,q⟩:=h
 cases rx
 obtain⟨ao,r,ht,hz⟩:=I.list hx
 have hlen:=r.length
 refine⟨"list",_,slot_list_getitem.lookup,ht.isList.typeIs,?_⟩
 refine wpAny_getItem_list_slice ht.isList hs pl pu .none (by simp) ?_ (by rw[Qn]<;>omega)
 rw[MZ,<- hlen]
 refine⟨.ref s.heap.objs.size,_,I.laid (t':=s.toks) (o:=.lst (xP xs lo hi)) (fun b ob q=>Qd _ q) (Qg _) ?_,rfl,q _ (I.aw.fresh (Qg _))⟩
 exact⟨QU (MQ xs lo hi) hz,_,0,(r.drop (HT.jz xs.length 0 lo)).take (HT.jz xs.length xs.length hi-HT.jz xs.length 0 lo),Qp _ rfl⟩
def EN:iE X (.builtin "len") (fun xs H Q=>∃ p ys,xs=[.ref p]/\(cn X.K H p ys\/dh X.K H p ys)/\Q (.int ys.length) H):=by
 intro pins s σ H xs us Q I r h
 obtain⟨p,ys,rfl,hq,q⟩:=h
 obtain⟨u,rfl,rx⟩:=jw r
 cases rx
 have hn:=tE
 rcases hq with hq|hq
 ·obtain⟨ao,r',pl,hz⟩:=I.list hq
  have hlen:=r'.length
  exact Calls.call_len_list pl.isList (by simp only[Qn]<;>omega) ⟨.int ys.length,H,I.tok _,⟨s.toks+1,by rw[Qn,hlen]⟩,q⟩
 ·obtain⟨ao,r',pl,hz⟩:=I.tuple hq
  have hlen:=r'.length
  exact len_tuple pl (by simp only[Qn]<;>omega) ⟨.int ys.length,H,I.tok _,⟨s.toks+1,by rw[Qn,hlen]⟩,q⟩
def M3:iE X (.type "list") (fun xs H Q=>∃ p ys,xs=[.ref p]/\(cn X.K H p ys\/dh X.K H p ys)/\∀ l,H l=none->Q (.ref l) (upd H l (.lst ys))):=by
 intro pins s σ H xs us Q I r h
 obtain⟨p,ys,rfl,hq,q⟩:=h
 obtain⟨u,rfl,rx⟩:=jw r
 cases rx
 have fin:∀ (ao:List Value),aY ys ao->ys.length<=sizeLine->∀ (h':Heap) (c':Nat),(∀ b o',s.heap.get? b=some o'->h'.get? b=some o')->
   h'.get? s.heap.objs.size=some { cls:=.type "list",dict:=none,data:=.seq ao.toArray c',slots:=#[] }->EP X pins σ Q (.ref s.heap.objs.size) { s with heap:=h' }:=fun ao r' hz h' c' kp e=>
  ⟨.ref s.heap.objs.size,_,I.laid (t':=s.toks) kp (Qg _) (show cR X.prog X.w _ h' _ (.lst ys)from⟨hz,ao,c',r',e⟩),rfl,q _ (I.aw.fresh (Qg _))⟩
 rcases hq with hq|hq
 ·obtain⟨ao,r',pl,hz⟩:=I.list hq
  have hlen:=r'.length
  obtain⟨o,ho,hc,n,hd⟩:=pl.isList
  exact call_list_seq p (.inl rfl) ho hc hd (fun h' c' kp e=>fin ao r' hz h' c' kp e) (by simp only[Qn]<;>omega)
 ·obtain⟨ao,r',pl,hz⟩:=I.tuple hq
  have hlen:=r'.length
  obtain⟨o,ho,hc,n,hd⟩:=pl
  exact call_list_seq p (.inr rfl) ho hc hd (fun h' c' kp e=>fin ao r' hz h' c' kp e) (by simp only[Qn]<;>omega)
def M4:iE X (.type "tuple") (fun xs H Q=>∃ p ys,xs=[.ref p]/\((cn X.K H p ys/\∀ l,H l=none->Q (.ref l) (upd H l (.tup ys)))\/(dh X.K H p ys/\Q (.ref p) H))):=by
 intro pins s σ H xs us Q I r h
 obtain⟨p,ys,rfl,h⟩:=h
 obtain⟨u,rfl,rx⟩:=jw r
 cases rx
 rcases h with⟨hq,q⟩|⟨hq,q⟩
 ·obtain⟨ao,r',pl,hz⟩:=I.list hq
  have hlen:=r'.length
  refine call_tuple_list pl.isList (fun h' kp=>?_) (by simp only[Qn]<;>omega)
  have I1:Inv X pins σ H { s with heap:=h' }:=I.kept (t':=s.toks) kp
  have I2:Inv X pins σ (upd H h'.objs.size (.tup ys)) { s with heap:=h'.push { cls:=.type "tuple",data:=.seq ao.toArray } }:=
   I1.laid (t':=s.toks) (fun b o e=>Qd _ e) (Qg _) (show cR X.prog X.w _ _ _ (.tup ys)from⟨hz,ao,r',lG.new _ _⟩)
  exact⟨.ref h'.objs.size,_,I2,rfl,q _ (I1.aw.fresh (Qg _))⟩
 ·obtain⟨ao,r',pl,hz⟩:=I.tuple hq
  exact call_tuple_same pl ⟨.ref p,H,I,rfl,q⟩
def EO (K:PySem.W.Frag)(T:String)(x:V)(H:Hp):Prop:=match x with
 | .str _=>T = "str"
 | .int _=>T = "int"
 | .ref p=>(T = "list" /\ ∃ xs,cn K H p xs)\/(T = "tuple" /\ ((∃ o,K.lookup p=some o/\o.cls=.type "tuple" /\ o.dict=none)\/∃ xs,H p=some (.tup xs))) \/
   (T = "dict" /\ ((∃ ai,H p=some (.dK ai))\/∃ ai,H p=some (.dT ai)))\/(T = "set" /\ ∃ S n,H p=some (.set S n))
 | _=>False
def M5{T:String}{x:V}{v:Value}(I:Inv X pins σ H s)(r:bw x v)(ty:EO X.K T x H) :
  s.TypeIs v T/\∀ a,v=.ref a->∃ ob,s.heap.get? a=some ob/\ob.dict=none:=by
 cases x with
 | str z=>
  obtain⟨t,rfl⟩:=r
  cases (show T = "str" from ty)
  exact⟨typeIs_str s z t,fun _ e=>nomatch e⟩
 | int i=>
  obtain⟨t,rfl⟩:=r
  cases (show T = "int" from ty)
  exact⟨VV s i t,fun _ e=>nomatch e⟩
 | ref p=>
  cases r
  rcases ty with⟨rfl,xs,hq⟩|⟨rfl,⟨o,hk,hc,hd⟩|⟨xs,hk⟩⟩|⟨rfl,hk⟩|⟨rfl,S,n,hk⟩
  ·obtain⟨ao,_,pl,_⟩:=I.list hq
   refine⟨pl.isList.typeIs,fun a e=>?_⟩
   cases e
   obtain⟨o,n,e,c,hd,_⟩:=pl
   exact⟨o,e,hd⟩
  ·refine⟨⟨o,I.eL p o hk,hc⟩,fun a e=>?_⟩
   cases e
   exact⟨o,I.eL _ o hk,hd⟩
  ·obtain⟨_,ao,_,o,e,c,_,hd⟩:=(show cR X.prog X.w H s.heap p (.tup xs)from I.aw p _ hk)
   refine⟨⟨o,e,c⟩,fun a e2=>?_⟩
   cases e2
   exact⟨o,e,hd⟩
  ·have z:∃ o,s.heap.get? p=some o/\o.ExactDict:=by
    rcases hk with⟨ai,hk⟩|⟨ai,hk⟩
    ·obtain⟨_,_,_,_,o,_,_,e,ex,_⟩:=I.aw p _ hk
     exact⟨o,e,ex⟩
    ·obtain⟨_,_,_,_,o,_,_,e,ex,_⟩:=I.aw p _ hk
     exact⟨o,e,ex⟩
   obtain⟨o,e,ex⟩:=z
   refine⟨⟨o,e,ex.1⟩,fun a e2=>?_⟩
   cases e2
   exact⟨o,e,ex.2.1⟩
  ·obtain⟨o,_,_,_,e,ex,_⟩:=I.aw p _ hk
   refine⟨⟨o,e,ex.1⟩,fun a e2=>?_⟩
   cases e2
   exact⟨o,e,ex.2.1⟩
 | _=>exact False.elim ty
def M6 (K:PySem.W.Frag)(T:String)(r:V->List V->Hp->VK->Prop)(to:TE)(t:TA):TE:=fun σ H Q=>to σ H fun x H1=>EO K T x H1/\t σ H1 fun xs H2=>r x xs H2 Q
variable {o e:Expr}{es:List Expr}{to:TE}{t:TA}{name:Str}{apos aq:Pos}{T id:String}{r:V->List V->Hp->VK->Prop}
def tG(pa:PlainAttrs T)(slot:Slot T name id)(oh:typeOf (.builtin id)=pure (.type "method_descriptor"))(hm:xQ X id r)(ho:PE X o to)(ha:PA X (e::es) t)
  (bR:attributeBase o name X.env (eval o X.env)=eval o X.env:=by rfl)
  (dk:((backTo aq (starEach (e::es) X.env)).all (fun x=>!x.1)&&(backToKw aq (keywordEach [] X.env)).all (fun x=>x.1.isSome)
    && decide ((e::es).length+([]:List Keyword).length+(if([]:List Keyword).isEmpty then 0 else 1)<30))=true:=by rfl)
  (bS:(apos.endLine==aq.line)=true:=by rfl) (hs:starEach (e::es) X.env=(false,eval e X.env)::starEach es X.env:=by rfl) (bN:(backTo aq (starEach es X.env)).any (·.1)=false:=by rfl) :
  PE X (.Call (.Attribute o name apos) (e::es) [] aq) (M6 X.K T r to t):=by
 intro pins s σ H Q I h
 refine wpAny_Call_method_late bR dk bS rfl (aU (ho pins s σ H _ I h) fun v s1 ag=>?_)
 obtain⟨x,H1,I1,r1,ty,q1⟩:=ag
 obtain⟨h1,h2⟩:=M5 I1 r1 ty
 refine⟨T,id,pa,slot,oh,h1,h2,?_⟩
 have hA:=ha aq pins s1 σ H1 _ I1 q1
 rw[hs]at hA ⊢
 refine Yo (by show(false||(backTo aq (starEach es X.env)).any (·.1))=false;rw[bN]<;>rfl) (JQ ?_)
 exact aU hA fun us s2 ⟨vs,H2,I2,r2,q2⟩=>hm pins s2 σ H2 x vs v us Q I2 r1 r2 q2
end
def Aq (X:Cx)(id:String)(r:V->List V->Hp->VK->Prop):Prop:=
 ∀ (pins:List (Addr×Obj)) (s:Shared) (σ:St) (H:Hp) (x:V) (xs:List V) (v:Value) (us:List Value) (Q:VK),Inv X pins σ H s->bw x v->aY xs us->r x xs H Q->
  wpAny (model X.prog X.w) X.A (call (.builtin id) (v::us)) (EP X pins σ Q) X.xe s
def aY.one:∀ {x:V} {us:List Value},aY [x] us->∃ u,us=[u]/\bw x u
 | _,_,.cons r .nil=>⟨_,rfl,r⟩
def aY.eraseIdx:∀ {xs:List V} {us:List Value} (i:Nat),aY xs us->aY (xs.eraseIdx i) (us.eraseIdx i)
 | _,_,_,.nil=>.nil
 | _,_,0,.cons _ t=>t
 | _,_,i+1,.cons r t=>.cons r (aY.eraseIdx i t)
def aY.rep{xs:List V}{us:List Value}(h:aY xs us):∀ k:Nat,aY (List.replicate k xs).flatten (List.replicate k us).flatten
 | 0=>.nil
 | k+1=>by
  rw[ZW,ZW,Jm,Jm]
  exact aY.append h (aY.rep h k)
def ER{α:Type}:∀ (l:List α) (i:Nat),(l.eraseIdx i).length<=l.length
 | [],_=>Qg _
 | _::_,0=>Jn _
 | _::r,i+1=>VJ (ER r i)
def Ar(ao:List Value):∀ (k:Nat) (acc:List Value),
  List.foldl (fun x1 x2=>x1++x2) acc.toArray (List.replicate k ao.toArray)=(acc++(List.replicate k ao).flatten).toArray
 | 0,acc=>by simp
 | k+1,acc=>by
  have e:acc.toArray++ao.toArray=(acc++ao).toArray:=by simp
  have e2:(acc++ao)++(List.replicate k ao).flatten=acc++(List.replicate (k+1) ao).flatten:=by
   rw[ZW,Jm,ZH]
  rw[<- e2,<- Ar ao k (acc++ao),<- e,ZW,V4]
section
variable {X:Cx}{pins:List (Addr×Obj)}{σ:St}{H:Hp}{s:Shared}{l b:Addr}{xs ys zs:List V}
def Inv.qM{ao its':List Value}{n:Nat}{f:Array Value->Array Value}{t':Nat}(I:Inv X pins σ H s)(hH:H l=some (.lst xs))
  (e:s.heap.get? l=some { cls:=.type "list",data:=.seq ao.toArray n }) (hf:f ao.toArray=its'.toArray) (hv:aY ys its') (hz:ys.length<=sizeLine) :
  Inv X pins σ (upd H l (.lst ys)) { s with heap:=s.heap.update l (Obj.mapSeq f),toks:=t' }:=by
 have q:=PySem.IsL.update e f
 rw[hf]at q
 refine I.write (x:=l) (e:=l) (by rw[hH];exact trivial) (.inl rfl) (fun b' u hb hu=>(Zy s.heap (Obj.mapSeq f) (Jk hb)).trans hu) ⟨_,q⟩ ?_
 exact⟨hz,its',_,hv,q⟩
def Inv.uS{ao:List Value}{t':Nat}(I:Inv X pins σ H s)(hv:aY ys ao)(hz:ys.length<=sizeLine) :
  Inv X pins σ (upd H s.heap.objs.size (.lst ys)) { s with heap:=s.heap.push { cls:=.type "list",data:=.seq ao.toArray },toks:=t' }:=
 I.laid (fun _ _ q=>Qd _ q) (Qg _) ⟨hz,ao,0,hv,Qp _ rfl⟩
def Inv.fresh(I:Inv X pins σ H s):H s.heap.objs.size=none:=I.aw.fresh (Qg _)
def Inv.lV(I:Inv X pins σ H s)(hH:H l=some (.lst xs)):xs.length<=sizeLine/\∃ (ao:List Value) (n:Nat),aY xs ao/\xs.length=ao.length/\s.heap.get? l=some { cls:=.type "list",data:=.seq ao.toArray n }:=by
 obtain⟨z,ao,n,r,e⟩:=I.aw l _ hH
 exact⟨z,ao,n,r,r.length,e⟩
def ES(h:n<=sizeLine):Builtin.List.listTooLong n=false:=by
 unfold Builtin.List.listTooLong
 exact QW (by omega)
end
section
variable {X:Cx}
def M7:V->List V->Hp->VK->Prop:=fun x vs H Q=>∃ l xs y,x=.ref l/\vs=[y]/\H l=some (.lst xs)/\xs.length<sizeLine/\Q .aK (upd H l (.lst (xs++[y])))
theorem M8:Aq X "list.append" M7:=by
 intro pins s σ H x vs v us Q I rx rv h
 obtain⟨l,xs,y,rfl,rfl,hH,hz,q⟩:=h
 cases rx
 obtain⟨u,rfl,ru⟩:=rv.one
 obtain⟨z,ao,n,r,hl,e⟩:=I.lV hH
 refine Jr F.slot_list_append ⟨_,e,rfl⟩ F.entry_list_append (F.args_list_append_2 _ _) (PySem.list_append l ao.toArray n u (by rw[Qn];omega)) ⟨e,?_⟩
 refine⟨.aK,_,I.qM (its':=ao++[u]) hH e (by simp) (r.append (.cons ru .nil)) ?_,rfl,q⟩
 rw[Qo,List.length_singleton]
 omega
def M9:V->List V->Hp->VK->Prop:=fun x vs H Q=>∃ l b xs zs,x=.ref l/\vs=[.ref b]/\H l=some (.lst xs)/\H b=some (.lst zs)/\xs.length+zs.length<=sizeLine/\Q .aK (upd H l (.lst (xs++zs)))
theorem M_:Aq X "list.extend" M9:=by
 intro pins s σ H x vs v us Q I rx rv h
 obtain⟨l,b,xs,zs,rfl,rfl,hH,hB,hz,q⟩:=h
 cases rx
 obtain⟨u,rfl,ru⟩:=rv.one
 cases ru
 obtain⟨z,ao,n,r,hl,e⟩:=I.lV hH
 obtain⟨z2,iS,n2,r2,hl2,e2⟩:=I.lV hB
 have hsz:ao.toArray.size+iS.toArray.size<=sizeLine:=by rw[Qn,Qn];omega
 have lW:¬ (!ao.toArray.isEmpty&&Builtin.List.listTooLong (ao.toArray.size+iS.toArray.size))=true:=by
  rw[ES hsz,Ue]
  exact Ze
 refine Jr F.slot_list_extend ⟨_,e,rfl⟩ F.entry_list_extend (F.args_list_extend_2 _ _)
  (AutoSeq1.list_extend_list_list_0 l ao.toArray n b iS.toArray n2 lW (by rw[Qn];omega) (by omega)) ⟨e,e2,?_⟩
 refine⟨.aK,_,I.qM (its':=ao++iS) hH e (by simp) (r.append r2) ?_,rfl,q⟩
 rw[Qo]
 omega
def Na:V->List V->Hp->VK->Prop:=fun x vs H Q=>∃ l xs i k y,x=.ref l/\vs=[.int i]/\H l=some (.lst xs) /\ -(2 ^ 63)<=i/\i<2 ^ 63/\seqIndex? i xs.length=some k/\xs[k]? = some y/\Q y (upd H l (.lst (xs.eraseIdx k)))
theorem Nb:Aq X "list.pop" Na:=by
 intro pins s σ H x vs v us Q I rx rv h
 obtain⟨l,xs,i,k,y,rfl,rfl,hH,h1,h2,hk,hy,q⟩:=h
 cases rx
 obtain⟨u,rfl,ru⟩:=rv.one
 obtain⟨t,rfl⟩:=ru
 obtain⟨z,ao,n,r,hl,e⟩:=I.lV hH
 obtain⟨w,hw,lU⟩:=r.get hy
 refine Jr F.slot_list_pop ⟨_,e,rfl⟩ F.entry_list_pop (F.args_list_pop_2 _ _)
  (MeetsSeq.list_pop_at l ao.toArray n i t k w (fitsIndex_both h1 h2) (by rw[Qn,<- hl];exact hk) (by rw[<- QV];exact hw) (by rw[Qn];omega)) ⟨e,?_⟩
 refine⟨y,_,I.qM (its':=ao.eraseIdx k) hH e ?_ (r.eraseIdx k) ?_,lU,q⟩
 ·show ao.toArray.eraseIdxIfInBounds k=(ao.eraseIdx k).toArray
  rw[List.eraseIdxIfInBounds_toArray]
 ·have:=ER xs k
  omega
def Nc:R2:=fun x y H Q=>∃ l k xs,x=.ref l/\y=.int k/\H l=some (.lst xs) /\ -(2 ^ 63)<=k/\k<2 ^ 63/\xs.length*k.toNat<=sizeLine /\
 ∀ p,H p=none->Q (.ref p) (upd H p (.lst (List.replicate k.toNat xs).flatten))
def As{α:Type}(xs:List α)(k:Nat):(List.replicate k xs).flatten.length=k*xs.length:=by
 induction k with
 | zero=>simp
 | succ k ih=>rw[ZW,Jm,Qo,ih,Nat.succ_mul,Nat.add_comm]
theorem Nd:ef X (binaryOp .Mult) Nc:=by
 intro pins s σ H x y v u Q I rx ry h
 obtain⟨l,k,xs,rfl,rfl,hH,h1,h2,hz,q⟩:=h
 cases rx
 obtain⟨t,rfl⟩:=ry
 obtain⟨z,ao,n,r,hl,e⟩:=I.lV hH
 have hlen:ao.toArray.size*k.toNat<=sizeLine:=by rw[Qn,<- hl];exact hz
 have Au:¬ ao.toArray.size*k.toNat > (2 ^ 63-1) / 8:=by
  have:(sizeLine:Nat)<=(2 ^ 63-1) / 8:=by decide
  omega
 have Av:¬ (!Builtin.List.listFitsIndex k)=true:=by
  rw[fitsIndex_both h1 h2]
  exact Ze
 have lW:¬ Builtin.List.listTooLong (ao.toArray.size*k.toNat)=true:=by
  rw[ES hlen]
  exact Ze
 have Aw:List.foldl (fun x1 x2=>x1++x2) #[] (List.replicate (if ao.toArray.isEmpty=true then 0 else k.toNat) ao.toArray)=(List.replicate k.toNat ao).flatten.toArray:=by
  have f0:∀ m:Nat,List.foldl (fun x1 x2=>x1++x2) #[] (List.replicate m ao.toArray)=(List.replicate m ao).flatten.toArray:=fun m=>by
   have:=Ar ao m []
   rw[List.nil_append]at this
   exact this
  rw[f0]
  cases ao with
  | nil=>simp
  | cons a r'=>rw[Qj (by simp)]
 refine Vw (T:="list") (U:="int") (by decide) ⟨_,e,rfl⟩ (fun s'=>VV s' k t) noFill_list_mul F.fills_int_mul YU repeat_list F.slot_int_index.lookup
  (Jr YU (VV s k t) F.entry_int_rmul (F.args_int_rmul_2 _ _) (int___rmul___int_list k t l ao.toArray n)
    ⟨e,rfl,⟨_,e,rfl⟩,Jr F.slot_list_mul ⟨_,e,rfl⟩ F.entry_list_mul (F.args_list_mul_2 _ _) (AutoListH.list___mul___list_int_3 l ao.toArray n k t Av Au lW) ⟨e,?_⟩⟩)
 rw[Aw]
 exact⟨.ref _,_,I.uS (t':=s.toks) (r.rep k.toNat) (by rw[As,Y9];exact hz),rfl,q _ I.fresh⟩
end
end L2
namespace ET
open PySem PySem.W PySem.Calls PyProof.Rows
variable {P:Params}{h:Heap}{l:OpenLaw}{n:Nat}
def Nf:∀ (ns:List Int) (vs:List Value),WellAll P h vs (ns.map WData.int)->IntsAre vs ns:=by
 intro ns
 induction ns with
 | nil=>
  intro vs w
  rw[List.map_nil]at w
  cases w
  exact .nil
 | cons n ns ih=>
  intro vs w
  rw[QK]at w
  cases w with
  | cons a b=>
   cases a
   exact .cons _ _ (ih _ b)
def Ng(hn:l.most=some n){args:List WData}{vals:List Value}
  (oi:l.row.toRowW.claim.pre args=true) (tH:WellAll P h vals args) :
  ∃ a vs ns,vals=[Value.ref a]/\args=[WData.list (ns.map WData.int)]/\h.get? a=some { cls:=.type "list",data:=.seq vs.toArray }/\IntsAre vs ns/\ns.length<=n:=by
 have Nh:WShape.hasAll [] args [.list .int]=true:=(pre_splitW oi).1
 have hc:l.pre.holds [] { args:=args }=true:=(pre_splitW oi).2
 obtain⟨d,r,rfl,h1,h2⟩:=hasAllW_cons Nh
 obtain rfl:=hasAllW_nil h2
 obtain⟨xs,rfl,h3⟩:=hasW_list h1
 obtain⟨ns,rfl⟩:=items_int h3
 have hlen:ns.length<=n:=by
  unfold OpenLaw.pre at hc
  have h4:(WTm.not (.lt (.lit (.int (n:Int))) (.len (.arg 0)))).holds [] { args:=[.list (ns.map .int)] }=true:=by
   have h4:=(holds_andW hc).1
   rw[hn]at h4
   exact h4
  have h5:=condW_of h4 (w_not (w_lt w_lit (w_len_list (w_arg rfl))))
  rw[Qe]at h5
  refine Nat.le_of_not_lt fun q=>?_
  have q':(n:Int)<((ns.length:Nat):Int):=by omega
  first
   | (rw[Qy q']at h5;exact absurd h5 (by decide))
   | (simp at h5;omega)
 cases tH with
 | cons w1 w2=>
  cases w2
  cases w1 with
  | list ho dF=>exact⟨_,_,ns,rfl,rfl,ho,Nf ns _ dF,hlen⟩
def Ni(l:OpenLaw)(args:List WData):l.row.toRowW.claim.post args (.bool true) args=true:=
 postW_of (r:=l.row.toRowW) (X:=(true==true))
  (show WShape.has [] (.bool true) .bool=true by first|rfl|decide|simp[WShape.has,WShape.arms,WShape.armsAll])
  (show(WTm.eq .res (.lit (.bool true))).value [] { args:=args,res:=some (.bool true),after:=args }=some (.bool (true==true))from w_eq_bool (w_res rfl) w_lit) rfl
def Nj{q:Program}{loose:List Str}{XP:(Str->Option Value)->Heap->Prop}{YP:World->Heap->Prop}{d:DefRec}
  (hn:l.most=some n) (uT:d.params.defaults=[])
  (call:∀ (w:World) (av aM:Shared) (mg mb:Str->Option Value) (fa:Addr) (o:Obj) (pm cd doc:Value) (a:Addr) (vs:List Value) (ns:List Int),
    Ground q loose [] XP w av mg mb aM.heap->YP w aM.heap->
    aM.heap.get? fa=some o->o.data=.func (docDef d.name d.params d.body d.scope pm cd doc)->aM.heap.CodeRec cd d.name->mg d.name=some (.ref fa)->
    aM.heap.get? a=some { cls:=.type "list",data:=.seq vs.toArray }->IntsAre vs ns->ns.length<=n->aM.gens = #[]->
    codeAny (model l.prog w) callerA (.call (.ref fa) ⟨[.ref a],[]⟩) (fun r s'=>r=.ok (.ret (.bool true))/\OldK aM.heap s'.heap/\s'.os=aM.os/\AllBare s'.gens) aM) :
  WalkO q loose XP YP l.row.toRowW d [] (fun f vs=>PySem.call f vs):=by
 intro w av aM mg mb G Y fa o pm cd doc dV kV ho hd gC hD hmg hg args vals as oi Nk hrd tH hlo
 obtain rfl:dV=.none:=Dflts.none hD uT
 obtain rfl:kV=.none:=Dflts.noKw hD
 obtain⟨a,vs,ns,rfl,rfl,qN,hints,hlen⟩:=Ng hn oi tH
 refine enter_call (Jl (call w av aM mg mb fa o pm cd doc a vs ns G Y ho (fd_plain hd) gC hmg qN hints hlen hg) fun r s' hq=>?_)
 obtain⟨rfl,h2,h3,h4⟩:=hq
 exact⟨.inl ⟨.bool true,.bool true,[],rfl,fun _=>rfl,.bool true,Ni l _,fun _=>⟨List.Pairwise.nil,fun _ hm=>(nomatch hm)⟩⟩,h2,h3,h4⟩
end ET
namespace L2
open PySem PySem.Spec PyProof.Rows
def uU:∀ {vs:List Value} {ns:List Int},IntsAre vs ns->aY (ns.map V.int) vs
 | _,_,.nil=>.nil
 | _,_,.cons n t h=>.cons ⟨t,rfl⟩ (uU h)
def Ax (H:Hp):Prop:=∀ b,H b=none\/∃ o xs,H b=some (.d8 o (.lst xs))
def Nl{P:Program}{w:World}{K:PySem.W.Frag}{mg mb:Str->Option Value}{CX:lR}{k:Nat}{fa a:Addr}{fd:FuncData}{x:Str}{sp:Sp}{aM:Shared}{vs:List Value}{ns:List Int}
  (KX:K.In aM.heap) (nv:aM.heap.Ns mainGlobals mg) (hb:aM.heap.Ns builtinsNs mb) (xT:∀ x:Str,x ≠ "__name__"->mb x=bootBuiltins x) (Ay:aM.heap.NoLimit) (hg:aM.gens = #[])
  (ha:aM.heap.get? a=some { cls:=.type "list",data:=.seq vs.toArray }) (hi:IntsAre vs ns) (hl:ns.length<=sizeLine) (hr:aQ k callerA)
  (F:∀ base:Heap,K.In base->base.Ns mainGlobals mg->dU P w K mg base CX k fa fd [x] sp) (uV:∀ (s:Shared) (u:Value),BindsTo s fd ⟨[u],[]⟩ [(x,u)])
  (jy:∀ H:Hp,Ax H->cn K H a (ns.map V.int)->sp [.ref a] H (fun v _=>v=.bl true) fun _ _ _=>False)
  (Nm:∀ H e s',CX [] H aM (fun _ _ _=>False) e s'->False) :
  codeAny (model P w) callerA (.call (.ref fa) ⟨[.ref a],[]⟩) (fun r s'=>r=.ok (.ret (.bool true))/\OldK aM.heap s'.heap/\s'.os=aM.os/\AllBare s'.gens) aM:=by
 have rv:=uU hi
 have Az:=hi.length
 have core:∀ H:Hp,Ax H->cn K H a (ns.map V.int)->cP P w H aM.heap->(∀ b,H b≠none->b=a)->(H a≠none->K.lookup a=none)->
   codeAny (model P w) callerA (.call (.ref fa) ⟨[.ref a],[]⟩) (fun r s'=>r=.ok (.ret (.bool true))/\OldK aM.heap s'.heap/\s'.os=aM.os/\AllBare s'.gens) aM:=by
  intro H hO hS aw hA hK
  have jX:∀ {b:Addr} {o:Obj},aM.heap.get? b=some o->H b=none->(n4 aM.heap H).get? b=some o:=fun e n=>Li e n
  have uP:∀ {b:Addr} {o:Obj} {es:Array DictEntry} {ep:Nat},aM.heap.get? b=some o->o.data=.dict es ep->H b=none:=fun {b o es ep} e d=>by
   cases q:H b with
   | none=>rfl
   | some u=>
    have e':b=a:=hA b (by rw[q];simp)
    subst e'
    rw[ha]at e;cases e
    have d':Data.seq vs.toArray _=Data.dict es ep:=d
    cases d'
  have xU:∀ {b:Addr} {m:Str->Option Value},aM.heap.Ns b m->(n4 aM.heap H).Ns b m:=fun {b m} ⟨o,es,ep,e,d,r⟩=>⟨o,es,ep,jX e (uP e d),d,r⟩
  have EU:K.In (n4 aM.heap H):=fun b o e=>jX (KX b o e) (by
   cases q:H b with
   | none=>rfl
   | some u=>
    have e':b=a:=hA b (by rw[q];simp)
    subst e'
    rw[hK (by rw[q];simp)]at e;cases e)
  have hM:Mod K mg (n4 aM.heap H):=⟨EU,xU nv,⟨mb,xU hb,xT⟩,let ⟨mc,h1,h2⟩:=Ay;⟨mc,xU h1,h2⟩⟩
  have e0:n_ P w K mg (n4 aM.heap H) callerA [] aM H:=⟨rfl,hM,fun b o e=>Lj e,Nat.le_of_eq (Lh _ _),trivial,fun b hb=>absurd (show b∈([]:List Addr)from hb) (by simp),aw,.of_eq hg⟩
  refine Jl ((F _ EU (xU nv)).run callerA [] aM H ⟨[.ref a],[]⟩ [.ref a] [.ref a] _ _ hr e0 (uV aM (.ref a)) (.cons rfl .nil) (jy H hO hS)) fun r s' h=>?_
  cases r with
  | error e=>exact(Nm H e s' h).elim
  | ok fl=>
   cases fl with
   | next=>exact False.elim h
   | brk=>exact False.elim h
   | cont=>exact False.elim h
   | ret u=>
    obtain⟨v,H',os,bare,un,qO,r',q⟩:=h
    have q':v=.bl true:=q
    subst q'
    obtain rfl:u=Value.bool true:=r'
    refine⟨rfl,OldK.of_keep fun b o e=>?_,os,bare⟩
    cases q:H b with
    | none=>exact un.keep b o e q (by intro z;exact absurd (show b∈([]:List Addr)from z) (by simp)) (by simp)
    | some u=>
     rcases hO b with z|⟨ob,xs,z⟩
     ·rw[q]at z;cases z
     ·have z2:=un.dE b ob _ z
      obtain⟨e1,_⟩:=aw b _ z
      obtain⟨e2,_⟩:=qO b _ z2
      rw[e]at e1;cases e1
      exact e2
 cases hk:K.lookup a with
 | some o=>
  have e:=KX a o hk
  rw[ha]at e
  cases e
  refine core (fun _=>none) (fun _=>.inl rfl) (.inr ⟨_,vs.toArray,_,hk,rfl,rfl,rfl,by rw[Qn,Az];exact hl,by simpa using rv⟩) (fun b u z=>by have z':(none:Option HO)=some u:=z;cases z') (fun b z=>absurd rfl z) fun z=>absurd rfl z
 | none=>
  refine core (fun b=>if b=a then some (.d8 { cls:=.type "list",data:=.seq vs.toArray } (.lst (ns.map V.int)))else none) (fun b=>?_) (.inl (.inr ⟨{ cls:=.type "list",data:=.seq vs.toArray },Qi rfl⟩)) (fun b u z=>?_) (fun b z=>?_) fun _=>hk
  ·by_cases hb:b=a
   ·exact .inr ⟨_,_,Qi hb⟩
   ·exact .inl (Qj hb)
  ·by_cases hb:b=a
   ·have z':=(Qi hb).symm.trans z
    cases z'
    subst hb
    exact⟨ha,by rw[Qe];exact hl,vs,_,rv,ha⟩
   ·have z':=(Qj hb).symm.trans z
    cases z'
  ·by_cases hb:b=a
   ·exact hb
   ·exact absurd (Qj hb) z
end L2
namespace L2
open PySem PySem.Spec PyProof.Rows
end L2
namespace L2
open PySem PySem.Spec PyProof.Rows
variable {A:Around}{C a b c f:Addr}{H H':Hp}{N' ps:List Str}{P prog:Program}{Q:Value->Shared->Prop}{X:Cx}{cells:List (Str×Addr)}{elt iter:Expr}{env:Env}{fd:FuncData}{h h':Heap}{i lo n:Nat}{ifs:List Expr}{ai:List (List Key×V)}{o:Option V}{pins:List (Addr×Obj)}{pos:Pos}{qual x y:Str}{s:Shared}{scope:Scope}{st:Stmt}{u:Value}{v:V}{w:World}{xs:List (List Key×Addr×Value)}{σ:St}
def pD (s:Stmt):Arguments:=match s with
 | .FunctionDef _ a _ _ _ _ _ _ _ _=>a
 | _=>{ posonlyargs:=[],args:=[],vararg:=none,kwonlyargs:=[],kw_defaults:=[],kwarg:=none,defaults:=[] }
def jg (s:Stmt):List Stmt:=match s with
 | .FunctionDef _ _ b _ _ _ _ _ _ _=>b
 | _=>[]
def bj (s:Stmt):Scope:=match s with
 | .FunctionDef _ _ _ _ _ _ sc _ _ _=>sc
 | _=>{ kind:=.function,names:=[],isGenerator:=false,isCoroutine:=false }
abbrev jh:lR:=fun _ _ _ _ _ _=>False
abbrev E0:XK:=fun _ _ _=>False
def EV:xN jh X E0:=fun _ _ _ _ _ _ _ h=>h.elim
structure lX (K:PySem.W.Frag) (x qual:Str) (st:Stmt) (f:Addr) (fd:FuncData):Prop where
 ex:∃ (oc:Value) (od:Option Addr) (kV doc pm:Value) (an:Option Addr) (bG ct:Value) (lS:Array (Option Value)),
  fd=PySem.W.fnOf x qual (pD st) (jg st) (bj st) .none kV doc pm an bG ct/\K.lookup f=some ⟨oc,od,.func fd,lS⟩/\PySem.W.codeIn K bG qual=true
 kp:PySem.W.keepIn K (.ref f)=true
section
variable {P:Program}{w:World}{K:PySem.W.Frag}{mg:Str->Option Value}{base:Heap}
theorem lX.ok{N:List Str}{k:Nat}{sp:Sp}(F:lX K x qual st f fd)(S:ah N ps (bj st))(len:∀ vs H Q E,sp vs H Q E->vs.length=ps.length)
  (lT:∀ (bG:Value) (A:Around) (outer:List Env) (s:Shared) (H:Hp) (vs:List V) (Q:VK) (E:XK),aQ k (A.deeper (envOfC qual (bj st) s.heap.objs.size f bG))->sp vs H Q E->
    ∃ t,gB (k_ jh P w K mg base N qual (bj st) f bG A outer s H E).iR (jg st) t/\t { nx:=fun _ H'=>Q .aK H',rt:=Q } (start N vs) H):dU P w K mg base jh (k+1) f fd ps sp:=by
 obtain⟨oc,od,kV,doc,pm,an,bG,ct,lS,rfl,lk,gC⟩:=F.ex
 refine EJ lk gC S len fun A outer s H vs Q E hr jy=>?_
 obtain⟨t,h,q⟩:=lT bG A outer s H vs Q E hr jy
 exact⟨t,h.iR,q⟩
theorem lX.binds(F:lX K x qual st f fd)
  (h:∀ (kV doc pm:Value) (an:Option Addr) (bG ct:Value) (us:List Value),us.length=ps.length->bindArgs (PySem.W.fnOf x qual (pD st) (jg st) (bj st) .none kV doc pm an bG ct) ⟨us,[]⟩=pure (ps.zip us)):oa K fd ps []:=by
 obtain⟨oc,od,kV,doc,pm,an,bG,ct,lS,rfl,lk,gC⟩:=F.ex
 exact .all (h kV doc pm an bG ct)
def EW{oc:Value}{od an:Option Addr}{lS:Array (Option Value)}{kV doc pm bG ct:Value}(l:K.lookup f=some ⟨oc,od,.func (PySem.W.fnOf x qual (pD st) (jg st) (bj st) .none kV doc pm an bG ct),lS⟩)
  (c:PySem.W.codeIn K bG qual=true) (k:PySem.W.keepIn K (.ref f)=true):lX K x qual st f (PySem.W.fnOf x qual (pD st) (jg st) (bj st) .none kV doc pm an bG ct):=⟨⟨oc,od,kV,doc,pm,an,bG,ct,lS,rfl,l,c⟩,k⟩
end
def uW{k:Nat}(hr:aQ k A):A.units+1<cLine:=ZP (Nat.add_le_add_left (by decide:1<=64) _) hr.units
def kI(h:n<=1000):n<sizeLine:=ZP h (by decide)
section
variable {X:Cx}
def pv(i:Nat){pos:Pos}(hN:X.N[i]? = some x:=by rfl)(hv:tm X.env.scope x:=by first|exact Or.inl rfl|exact Or.inr (Or.inl rfl)|exact Or.inr (Or.inr rfl))(hd:(x==("__debug__":Str))=false:=by decide)
  (gC:(x==("__classdict__":Str))=false:=by decide):PE X (.Name x pos) (fK i):=Lm hN hv hd gC
end
section
variable {κ:Type}[DecidableEq κ]
def f_ (ai:List (κ×V))(k:κ):Option V:=(ai.find? fun kv=>decide (kv.1=k)).map (·.2)
def gh (ai:List (κ×V))(k:κ)(v:V):List (κ×V):=
 if(ai.any fun kv=>decide (kv.1=k))=true then ai.map (fun kv=>if kv.1=k then(kv.1,v)else kv)else ai++[(k,v)]
def xV{p:κ×V}{r:List (κ×V)}{k:κ}(e:p.1=k):f_ (p::r) k=some p.2:=by simp[f_,JE,e]
def xW{p:κ×V}{r:List (κ×V)}{k:κ}(e:¬ p.1=k):f_ (p::r) k=f_ r k:=by simp[f_,JE,e]
def AA(k:κ):∀ ai:List (κ×V),(ai.any fun kv=>decide (kv.1=k))=(f_ ai k).isSome
 | []=>rfl
 | p::r=>by
  rw[JH]
  by_cases e:p.1=k
  ·simp only[xV e,Qy e,Bool.true_or,Option.isSome_some]
  ·rw[xW e,QW e,Bool.false_or];exact AA k r
def AB(ai:List (κ×V))(k:κ)(v:V):(gh ai k v).length<=ai.length+1:=by
 unfold gh
 split
 ·rw[Qe];omega
 ·rw[Qo,Zh,Jj];omega
def Np{ai:List (κ×V)}{k:κ}(v:V)(h:f_ ai k=none):gh ai k v=ai++[(k,v)]:=by
 unfold gh
 rw[AA,h]
 exact Qj (by decide)
def lF.eO{u:Option Value}(r:lF o u):o.isSome=u.isSome:=by
 cases o with
 | none=>cases u with
  | none=>rfl
  | some _=>exact(show False from r).elim
 | some _=>cases u with
  | none=>exact(show False from r).elim
  | some _=>rfl
def KV.val{ai:List (κ×V)}{vs:List (κ×Value)}(r:KV ai vs)(k:κ):lF (f_ ai k) (valueAt vs k):=by
 unfold KV at r
 induction r with
 | nil=>exact True.intro
 | @cons p q ps qs h t ih=>
  obtain⟨h1,h2⟩:=h
  by_cases e:p.1=k
  ·have e':q.1=k:=h1.symm.trans e
   have b:valueAt (q::qs) k=some q.2:=by simp[valueAt,JE,e']
   rw[xV e,b];exact h2
  ·have e':¬ q.1=k:=fun z=>e (h1.trans z)
   have b:valueAt (q::qs) k=valueAt qs k:=by simp[valueAt,JE,e']
   rw[xW e,b];exact ih
def KV.any{ai:List (κ×V)}{vs:List (κ×Value)}(r:KV ai vs)(k:κ):(ai.any fun kv=>decide (kv.1=k))=vs.any fun kv=>decide (kv.1=k):=by
 unfold KV at r
 induction r with
 | nil=>rfl
 | cons h t ih=>rw[JH,JH,ih,h.1]
def KV.qP{ai:List (κ×V)}{vs:List (κ×Value)}(r:KV ai vs)(k:κ){y:V}(ry:bw y u) :
  KV (ai.map fun kv=>if kv.1=k then(kv.1,y)else kv) (vs.map fun kv=>if kv.1=k then(kv.1,u)else kv):=by
 unfold KV at r ⊢
 induction r with
 | nil=>exact .nil
 | @cons p q ps qs h t ih=>
  rw[QK,QK]
  refine .cons ?_ ih
  obtain⟨h1,h2⟩:=h
  by_cases e:p.1=k
  ·rw[Qi e,Qi (h1.symm.trans e)];exact⟨h1,ry⟩
  ·rw[Qj e,Qj (fun z=>e (h1.trans z))];exact⟨h1,h2⟩
def KV.put{ai:List (κ×V)}{vs:List (κ×Value)}(r:KV ai vs)(k:κ){y:V}(ry:bw y u):KV (gh ai k y) (stored vs k u):=by
 unfold gh stored
 rw[r.any k]
 by_cases e:(vs.any fun kv=>decide (kv.1=k))=true
 ·rw[Qi e,Qi e];exact r.qP k ry
 ·rw[Qj e,Qj e];exact Paired.snoc r ⟨rfl,ry⟩
def KV.length{ai:List (κ×V)}{vs:List (κ×Value)}(r:KV ai vs):ai.length=vs.length:=Jp r
end
def xX{k:Key}(r:bw (kV k) u):(jc P w).is k u=true:=by
 cases k with
 | inl i=>obtain⟨t,e⟩:=(show ∃ t,u=Value.int i t from r);subst e;exact Le P w i t
 | inr x=>obtain⟨t,e⟩:=(show ∃ t,u=Value.str x t from r);subst e;exact Lf P w x t
def EX:∀ {ks:List Key} {us:List Value},aY (ks.map kV) us->ItemsAre (jc P w) ks us
 | [],_,r=>by rw[List.map_nil]at r;cases r;exact .nil
 | k::ks,_,r=>by
  rw[QK]at r
  cases r with
  | cons h t=>exact .cons (xX h) (EX t)
abbrev KT (H:Hp):List (List Key×V)->List (List Key×Addr×Value)->Prop:=Paired fun p q=>p.1=q.1/\H q.2.1=some (.tup (p.1.map kV))/\bw p.2 q.2.2
def KT.val(r:KT H ai xs)(k:List Key):lF (f_ ai k) ((atKey xs k).map (·.2)):=by
 induction r with
 | nil=>exact True.intro
 | @cons p q ps qs h t ih=>
  obtain⟨h1,_,h2⟩:=h
  by_cases e:p.1=k
  ·have e':q.1=k:=h1.symm.trans e
   have b:atKey (q::qs) k=some q.2:=by simp[atKey,JE,e']
   rw[xV e,b];exact h2
  ·have e':¬ q.1=k:=fun z=>e (h1.trans z)
   have b:atKey (q::qs) k=atKey qs k:=by simp[atKey,JE,e']
   rw[xW e,b];exact ih
def KT.qP(r:KT H ai xs)(k:List Key){y:V}(ry:bw y u) :
  KT H (ai.map fun kv=>if kv.1=k then(kv.1,y)else kv) (xs.map (putAt k u)):=by
 induction r with
 | nil=>exact .nil
 | @cons p q ps qs h t ih=>
  rw[QK,QK]
  refine .cons ?_ ih
  obtain⟨h1,h2,h3⟩:=h
  unfold putAt
  by_cases e:p.1=k
  ·rw[Qi e,Qi (h1.symm.trans e)];exact⟨h1,h2,ry⟩
  ·rw[Qj e,Qj (fun z=>e (h1.trans z))];exact⟨h1,h2,h3⟩
def KT.put(r:KT H ai xs)(k:List Key){y:V}(hb:H b=some (.tup (k.map kV)))(ry:bw y u) :
  KT H (gh ai k y) (storedH xs k b u):=by
 have e:(ai.any fun kv=>decide (kv.1=k))=(atKey xs k).isSome:=by
  rw[AA,(r.val k).eO,Option.isSome_map]
 unfold gh storedH
 rw[e]
 by_cases q:(atKey xs k).isSome=true
 ·rw[Qi q,Qi q];exact r.qP k ry
 ·rw[Qj q,Qj q];exact Paired.snoc r ⟨rfl,hb,ry⟩
def KT.keeps(r:KT H ai xs)(ht:∀ b ys,H b=some (.tup ys)->H' b=some (.tup ys)):KT H' ai xs:=
 Paired.qy r fun _ _ z=>⟨z.1,ht _ _ z.2.1,z.2.2⟩
section
variable {P:Program}{w:World}{H:Hp}{h:Heap}{a:Addr}
def EY{u:HO}(ok:cP P w H h)(e:Rd H a u):cR P w H h a u:=e.ok ok
def uX{ai:List (Key×V)}(ok:cP P w H h)(e:Rd H a (.dK ai)):ai.length<=sizeLine/\(a==sysModules)=false/\∃ vs,KV ai vs/\h.DictOf (jc P w) a vs:=
 show cR P w H h a (.dK ai)from EY ok e
def Nq{ai:List (Key×V)}(ok:cP P w H h)(e:H a=some (.dK ai)):ai.length<=sizeLine/\(a==sysModules)=false/\∃ vs,KV ai vs/\h.DictOf (jc P w) a vs:=uX ok (.inl e)
def uY{ks:List Key}(ok:cP P w H h)(e:H a=some (.tup (ks.map kV))):(tupleKind (jc P w)).is h ks a:=by
 obtain⟨_,ao,r,o,h1,h2,⟨n,h3⟩,_⟩:=(show cR P w H h a (.tup (ks.map kV))from ok a _ e)
 exact⟨o,ao.toArray,n,h1,h2,h3,by simpa using EX r⟩
def uZ(ok:cP P w H h)(e:Rd H a (.dT ai)):ai.length<=sizeLine/\(a==sysModules)=false /\
  ∃ xs,KT H ai xs/\h.DictOfH (tupleKind (jc P w)) a xs:=by
 obtain⟨z,y,xs,r,o,es,ep,h1,h2,h3,h4,h5⟩:=(show cR P w H h a (.dT ai)from EY ok e)
 refine⟨z,y,xs,r,o,es,ep,h1,h2,h3,h4,fun x hx=>?_,h5⟩
 have all:∀ {l:List (List Key×V)} {m:List (List Key×Addr×Value)},KT H l m->∀ x∈m,(tupleKind (jc P w)).is h x.1 x.2.1:=by
  intro l m q
  induction q with
  | nil=>intro x hx;exact nomatch hx
  | @cons p q ps qs hq t ih=>
   intro x hx
   rcases Qt.mp hx with e|hx
   ·subst e
    exact uY ok (by rw[<- hq.1];exact hq.2.1)
   ·exact ih x hx
 exact all r x hx
def tI(ok:cP P w H h)(e:H a=some (.dT ai)):ai.length<=sizeLine/\(a==sysModules)=false /\
  ∃ xs,KT H ai xs/\h.DictOfH (tupleKind (jc P w)) a xs:=uZ ok (.inl e)
end
def la (H:Hp)(a:Addr)(y:V)(r:Option V):Prop:=
 (∃ ai k,Rd H a (.dK ai)/\y=kV k/\r=f_ ai k)\/∃ ai k b,Rd H a (.dT ai)/\y=.ref b/\H b=some (.tup (k.map kV))/\r=f_ ai k
def oq (H:Hp)(a:Addr)(y v:V)(H':Hp):Prop:=
 (∃ ai k,H a=some (.dK ai)/\y=kV k/\ai.length<sizeLine/\H'=upd H a (.dK (gh ai k v))) \/
 ∃ ai k b,H a=some (.dT ai)/\y=.ref b/\H b=some (.tup (k.map kV))/\ai.length<sizeLine/\H'=upd H a (.dT (gh ai k v))
def la.k{ai:List (Key×V)}{k:Key}(e:H a=some (.dK ai)):la H a (kV k) (f_ ai k):=.inl ⟨ai,k,.inl e,rfl,rfl⟩
def la.t{k:List Key}(e:H a=some (.dT ai))(eb:H b=some (.tup (k.map kV))):la H a (.ref b) (f_ ai k):=.inr ⟨ai,k,b,.inl e,rfl,eb,rfl⟩
def oq.k{ai:List (Key×V)}{k:Key}(e:H a=some (.dK ai))(hl:ai.length<sizeLine):oq H a (kV k) v (upd H a (.dK (gh ai k v))):=.inl ⟨ai,k,e,rfl,hl,rfl⟩
def oq.t{k:List Key}(e:H a=some (.dT ai))(eb:H b=some (.tup (k.map kV)))(hl:ai.length<sizeLine) :
  oq H a (.ref b) v (upd H a (.dT (gh ai k v))):=.inr ⟨ai,k,b,e,rfl,eb,hl,rfl⟩
section
variable {X:Cx}{pins:List (Addr×Obj)}{σ:St}{H:Hp}{s:Shared}{a:Addr}{y v:V}{u r:Value}{o:Option V}{A:Around}{E:Value->Shared->Prop}
def Inv.Nr(I:Inv X pins σ H s):sysModules<s.heap.objs.size:=by
 have h:mainGlobals<s.heap.objs.size:=(I.mod.glob.keeps I.bk).lt
 exact Va (by decide) h
def Nt(hu:A.units+1<cLine)(I:Inv X pins σ H s)(g:la H a y (some v))(ry:bw y u)(h:∀ w' s',Inv X pins σ H s'->bw v w'->Q w' s') :
  wpAny (model X.prog X.w) A (getItem (.ref a) u) Q E s:=by
 rcases g with⟨ai,k,e,ey,l⟩|⟨ai,k,b,e,ey,eb,l⟩
 ·subst ey
  obtain⟨z,hd,vs,rel,dd⟩:=uX I.aw e
  obtain⟨w',hw,lU⟩:=lF.some_of (v:=v) (o:=valueAt vs k) (by rw[l];exact rel.val k)
  exact wpAny_getItem_of (xX ry) dd.mapOf hw (h w' _ (I.tok _) lU)
 ·subst ey
  cases (show u=Value.ref b from ry)
  obtain⟨z,hd,xs,rel,dd⟩:=uZ I.aw e
  obtain⟨w',hw,lU⟩:=lF.some_of (v:=v) (o:=(atKey xs k).map (·.2)) (by rw[l];exact rel.val k)
  obtain⟨p,hp,Nu⟩:=Qw.mp hw
  refine wpAny_getItem_heap (Jz hu) (uY I.aw eb) dd hp ?_
  rw[Nu]
  exact h w' _ (I.tok _) lU
def Nv(hu:A.units+1<cLine)(I:Inv X pins σ H s)(g:la H a y o)(ry:bw y u)(h:∀ s',Inv X pins σ H s'->Q (.bool (!o.isSome)) s') :
  wpAny (model X.prog X.w) A (compareOp .NotIn u (.ref a)) Q E s:=by
 rcases g with⟨ai,k,e,ey,l⟩|⟨ai,k,b,e,ey,eb,l⟩
 ·subst ey
  obtain⟨z,hd,vs,rel,dd⟩:=uX I.aw e
  refine wpAny_notIn_of (xX ry) hd dd.mapOf ?_
  rw[<- (rel.val k).eO,<- l]
  exact h _ (I.tok _)
 ·subst ey
  cases (show u=Value.ref b from ry)
  obtain⟨z,hd,xs,rel,dd⟩:=uZ I.aw e
  refine wpAny_notIn_heap (Jz hu) (uY I.aw eb) hd dd ?_
  have q:=(rel.val k).eO
  rw[Option.isSome_map]at q
  rw[<- q,<- l]
  exact h _ (I.tok _)
def xY{t':Nat}{ob:HO}(I:Inv X pins σ H s)(mu:uB (H a))(hs:Heap.SameBut a s.heap h')(he:∃ q,h'.get? a=some q)(new:cR X.prog X.w (upd H a ob) h' a ob) :
  Inv X pins σ (upd H a ob) { s with heap:=h',toks:=t' }:=
 I.write (x:=a) (e:=a) mu (.inl rfl) (fun b q hb z=>(hs.2 b hb).trans z) he new
def Nw{ai:List (Key×V)}{vs:List (Key×Value)}(z:ai.length<=sizeLine)(hd:(a==sysModules)=false)(rel:KV ai vs)(dd:h'.DictOf (jc P w) a vs) :
  cR P w H' h' a (.dK ai):=⟨z,hd,vs,rel,dd⟩
def Nx{Q:Unit->Shared->Prop}(hu:A.units+1<cLine)(I:Inv X pins σ H s)(g:oq H a y v H')(ry:bw y u)(rv:bw v r)(h:∀ s',Inv X pins σ H' s'->Q () s') :
  wpAny (model X.prog X.w) A (setItem (.ref a) u r) Q E s:=by
 rcases g with⟨ai,k,e,ey,l,eH⟩|⟨ai,k,b,e,ey,eb,l,eH⟩
 ·subst ey eH
  obtain⟨z,hd,vs,rel,dd⟩:=Nq I.aw e
  have hz:vs.length<=sizeLine:=by rw[<- rel.length];exact z
  have hl:(gh ai k v).length<=sizeLine:=by have:=AB ai k v;omega
  refine wpAny_setItem_pairs (hsz:=hz) (xX ry) dd fun h' pE hs=>h _ ?_
  have he:∃ q,h'.get? a=some q:=let ⟨q,_,_,hq,_⟩:=pE;⟨q,hq⟩
  exact xY I (by rw[e];exact True.intro) hs he (Nw hl hd (rel.put k rv) pE)
 ·subst ey eH
  cases (show u=Value.ref b from ry)
  obtain⟨z,hd,xs,rel,dd⟩:=tI I.aw e
  have hz:xs.length<=sizeLine:=by rw[<- Jp rel];exact z
  have hl:(gh ai k v).length<=sizeLine:=by have:=AB ai k v;omega
  refine wpAny_setItem_heap (hsz:=hz) (Jz hu) (uY I.aw eb) dd fun h' pE hs=>h _ ?_
  obtain⟨q,es,ep,hq,h2,h3,h4,_,h5⟩:=pE
  refine xY I (by rw[e];exact True.intro) hs ⟨q,hq⟩ ⟨hl,hd,_,(rel.put k eb rv).keeps fun c ys ec=>?_,q,es,ep,hq,h2,h3,h4,h5⟩
  rw[a0 (zT ec e (fun z=>nomatch z))]
  exact ec
end
def AD (i:Expr):Prop:=∀ ov iv,subscripted i false ov iv=operate [ov,iv] (getItem ov iv)
def Ny{E:Value->Shared->Prop}{value slice:Expr}{T id:String}
  (hl:typeLookup (.type T) "__getitem__" = pure (some (.builtin id))) (hs:AD slice)
  (h:wpAny (model prog w) A (eval value env) (fun o aM=>wpAny (model prog w) A (eval slice env) (fun i eN=>eN.TypeIs o T/\wpAny (model prog w) A (getItem o i) Q E eN) E aM) E s) :
  wpAny (model prog w) A (eval (.Subscript value slice pos) env) Q E s:=by
 refine Subscript_ (ZB h (fun o aM ot=>ZB ot (fun i eN lY=>?_) fun _ _ x=>x) fun _ _ x=>x)
 obtain⟨hT,lY⟩:=lY
 unfold subscriptTail
 refine Qa ?_
 rw[getitemInPython_of_ne hT.not_modules]
 refine Qa (YV hT hl ?_)
 have fin:wpAny (model prog w) A (subscripted slice false o i) (fun r gG=>wpAny (model prog w) A (letTemporaryGo value o r >>= fun _=>pure r) Q E gG) E eN:=by
  rw[hs o i]
  exact wpAny_operating (ZB lY (fun r gG ou=>Qa (wpAny_letTemporaryGo (Qc ou))) fun _ _ x=>x)
 first
  | exact Qc (Qa fin)
  | exact Qa (Qc (Qa fin))
  | exact Qa fin
def Nz{y:V}(I:Inv X pins σ H s)(g:la H a y o):s.TypeIs (.ref a) "dict":=by
 rcases g with⟨ai,k,e,_,_⟩|⟨ai,k,b,e,_,_,_⟩
 ·obtain⟨_,_,vs,_,dd⟩:=uX I.aw e
  exact dd.typeIs
 ·obtain⟨_,_,xs,_,dd⟩:=uZ I.aw e
  exact dd.typeIs
def NA (td ty:TE):TE:=fun σ H Q=>td σ H fun x H1=>ty σ H1 fun y H2=>∃ a v,x=.ref a/\la H2 a y (some v)/\Q v H2
def NB (ty td:TE):TE:=fun σ H Q=>ty σ H fun y H1=>td σ H1 fun x H2=>∃ a o,x=.ref a/\la H2 a y o/\Q (.bl (!o.isSome)) H2
def NC (td ty tv:TE):TS:=fun D σ H=>tv σ H fun v H1=>td σ H1 fun x H2=>ty σ H2 fun y H3=>∃ a H4,x=.ref a/\oq H3 a y v H4/\D.nx σ H4
section
variable {X:Cx}{o i e value:Expr}{pos pos' lZ:Pos}{td ty tv:TE}
def ND(hu:X.A.units+1<cLine)(ho:PE X o td)(hi:PE X i ty)(hs:AD i):PE X (.Subscript o i pos) (NA td ty):=by
 intro pins s σ H Q I h
 refine Ny PySem.F.slot_dict_getitem.lookup hs (aU (ho pins s σ H _ I h) fun u s1 ⟨x,H1,I1,rx,q1⟩=>aU (hi pins s1 σ H1 _ I1 q1) fun iv s2 ag=>?_)
 obtain⟨y,H2,I2,ry,a,v,ex,g,q2⟩:=ag
 subst ex
 obtain rfl:u=Value.ref a:=rx
 exact⟨Nz I2 g,Nt hu I2 g ry fun w' s3 I3 lU=>⟨v,H2,I3,lU,q2⟩⟩
def NF(hu:X.A.units+1<cLine)(hi:PE X i ty)(ho:PE X o td):PC X .NotIn i o (NB ty td):=by
 intro pins s σ H Q I h
 refine aU (hi pins s σ H _ I h) fun iv s1 ⟨y,H1,I1,ry,q1⟩=>aU (ho pins s1 σ H1 _ I1 q1) fun u s2 ag=>?_
 obtain⟨x,H2,I2,rx,a,ov,ex,g,q2⟩:=ag
 subst ex
 obtain rfl:u=Value.ref a:=rx
 exact Nv hu I2 g ry fun s3 I3=>⟨.bl (!ov.isSome),H2,I3,rfl,q2⟩
def NH(hu:X.A.units+1<cLine)(ho:PE X o td)(hi:PE X i ty)(hv:PE X value tv)(hs:swapsWith value (some (.Subscript o i pos')) pos.line X.env=pure false) :
  PS X (.Assign [.Subscript o i pos'] value pos) (NC td ty tv):=by
 intro pins s σ H D I h
 refine wpAny_Assign_Subscript (aU (hv pins s σ H _ I h) fun r s1 ⟨v,H1,I1,rv,q1⟩=>aU (ho pins s1 σ H1 _ I1 q1) fun u s2 ⟨x,H2,I2,rx,q2⟩=>aU (hi pins s2 σ H2 _ I2 q2) fun iv s3 ⟨y,H3,I3,ry,a,H4,ex,g,q3⟩=>?_) hs
 subst ex
 obtain rfl:u=Value.ref a:=rx
 exact Nx hu I3 g ry rv fun s4 I4=>⟨σ,H4,I4,q3⟩
end
def NI(h:Heap)(hb:sysModules<h.objs.size):cR P w H (h.push { cls:=.type "dict",data:=.dict #[] }) h.objs.size (.dT []):=
 ⟨QS _,Z8.mpr (Jk (Qz hb)),[],.nil,_,#[],0,Qp _ rfl,⟨rfl,rfl,rfl⟩,rfl,rfl,JR⟩
def NJ:TE:=fun _ H Q=>∀ p,H p=none->Q (.ref p) (upd H p (.dT []))
section
variable {X:Cx}{pos:Pos}
def NK:PE X (.Dict [] [] pos) NJ:=fun pins s σ H Q I h=>
 wpAny_Dict_empty ⟨.ref s.heap.objs.size,_,I.laid (a:=s.heap.objs.size) (o:=.dT []) (t':=s.toks) (fun _ _ q=>Qd _ q) (Qg _) (NI s.heap I.Nr),rfl,h _ (I.aw.fresh (Qg _))⟩
end
structure M1 (X:Cx) (o:Expr) (m:Str) (apos:Pos) (e:Expr) (aq:Pos):Prop where
 base:attributeBase o m X.env (eval o X.env)=eval o X.env
 dO:((backTo aq (starEach [e] X.env)).all (fun x=>!x.1)&&(backToKw aq (keywordEach [] X.env)).all (fun x=>x.1.isSome)
  && decide (([e]:List Expr).length+([]:List Keyword).length+(if([]:List Keyword).isEmpty then 0 else 1)<30))=true
 line:(apos.endLine==aq.line)=true
 trees:backTo aq (starEach [e] X.env)=[(false,eval e X.env)]
structure M2 (X:Cx) (o:Expr) (m:Str) (apos:Pos) (e f:Expr) (aq:Pos):Prop where
 base:attributeBase o m X.env (eval o X.env)=eval o X.env
 dO:((backTo aq (starEach [e,f] X.env)).all (fun x=>!x.1)&&(backToKw aq (keywordEach [] X.env)).all (fun x=>x.1.isSome)
  && decide (([e,f]:List Expr).length+([]:List Keyword).length+(if([]:List Keyword).isEmpty then 0 else 1)<30))=true
 line:(apos.endLine==aq.line)=true
 trees:backTo aq (starEach [e,f] X.env)=[(false,eval e X.env),(false,eval f X.env)]
def u4 (H:Hp)(a:Addr):Prop:=(∃ ai,Rd H a (.dK ai))\/∃ ai,Rd H a (.dT ai)
def EZ(I:Inv X pins σ H s)(d:u4 H a) :
  s.TypeIs (.ref a) "dict" /\ (∀ b,Value.ref a=.ref b->∃ ob,s.heap.get? b=some ob/\ob.dict=none)/\(a==sysModules)=false:=by
 rcases d with⟨ai,e⟩|⟨ai,e⟩
 ·obtain⟨_,hd,vs,_,dd⟩:=uX I.aw e
  refine⟨dd.typeIs,fun b q=>?_,hd⟩
  cases q
  obtain⟨ob,_,_,h1,h2,_⟩:=dd
  exact⟨ob,h1,h2.2.1⟩
 ·obtain⟨_,hd,xs,_,dd⟩:=uZ I.aw e
  refine⟨dd.typeIs,fun b q=>?_,hd⟩
  cases q
  obtain⟨ob,_,_,h1,h2,_⟩:=dd
  exact⟨ob,h1,h2.2.1⟩
def NL{R:Result->Shared->Prop}{target:Expr}{it acc:Value}(I:Nat->Shared->Prop)
  (turn:∀ n s,I n s->wpAny (model prog w) A (pyNext it) (fun r aM=>match r with
    | none=>R (.ok .next) aM
    | some v=>wpAny (model prog w) A (letOwnedTupleGo target it v) (fun _ pF=>wpAny (model prog w) A (assign target env v) (fun _ eN=>
      wpAny (model prog w) A (forIn ifs true fun c r=>if r=true then do let ok <- isTrue c env (eval c env);pure (ForInStep.yield ok)else pure (ForInStep.yield r)) (fun ok gG=>
       if ok=true then wpAny (model prog w) A (eval elt env) (fun x oy=>
        wpAny (model prog w) A (call (.builtin "list.append") [acc,x]) (fun _ u5=>∃ m,m<n/\I m u5) (fun _ _=>False) oy) (fun _ _=>False) gG
       else ∃ m,m<n/\I m gG) (fun _ _=>False) eN) (fun _ _=>False) pF) (fun _ _=>False) aM) (fun _ _=>False) s)
  (n:Nat) (h:I n s):codeAny (model prog w) A (.compLoop (.ListComp elt [⟨target,iter,ifs,0⟩] scope pos) 0 it acc env) R s:=by
 refine codeAny_loop rfl I (fun n s hI=>?_) n h
 show wpAny _ A ((compTurn (.ListComp elt [⟨target,iter,ifs,0⟩] scope pos) 0 it acc env).onRaise (fun x=>do noteFrame x env;theTreesLotGoes x)) _ _ s
 refine wpAny_noted ?_
 rw[compTurn_list]
 refine Qa (wpAny_standAt (Qa (ZB (turn n s hI) (fun r aM ot=>?_) fun _ _ h'=>h'.elim)))
 cases r with
 | none=>exact Qc ot
 | some v=>
  refine Qa (ZB ot (fun _ pF u6=>?_) fun _ _ h'=>h'.elim)
  refine Qa (ZB u6 (fun _ eN lY=>Qa (ZB lY (fun ok gG ou=>?_) fun _ _ h'=>h'.elim)) fun _ _ h'=>h'.elim)
  cases ok with
  | false=>exact Qc ⟨rfl,ou⟩
  | true=>
   exact Qa (Qa (ZB ou (fun x oy u7=>Qa (ZB u7 (fun _ u5 u9=>Qc (Qc ⟨rfl,u9⟩)) fun _ _ h'=>h'.elim)) fun _ _ h'=>h'.elim))
def NM{M:Model}{A:Around}{E:Value->Shared->Prop}{globals:Addr}{cl:List (Str×Addr)}{outer:Env}{Q:Env->Shared->Prop}
  (hQ:Q (newEnv scope s.heap.objs.size globals (cellsFrom (s.heap.objs.size+1) scope.names cl) qual none .none (some outer) builtinsNs)
    { s with heap:=pushCells (s.heap.push { cls:=.type "dict",data:=.dict #[] }) scope.names }) :
  wpAny M A (newFunctionEnv scope globals cl [] qual none .none (some outer)) Q E s:=by
 simp only[newFunctionEnv,Option.isSome_some,ZD]
 refine Qa (wpAny_alloc ?_)
 refine Qa (wpAny_layCells _ (fun name kind cells=>by cases NN:kind==NameKind.cell<;>simp[NN]) _ _ _ _ ?_)
 rw[show({ s with heap:=s.heap.push { cls:=.type "dict",data:=.dict #[] } }:Shared).heap.objs.size=s.heap.objs.size+1 from ZM ..]
 refine Qa ?_
 rw[List.forIn_nil]
 exact Qc (Qc hQ)
def gX (cells:List (Str×Addr)):List (Str×NameKind)->List (Str×Addr)->List (Str×Addr)
 | [],acc=>acc
 | (n,k)::r,acc=>if k == .free then(match cells.lookup n with
   | some c=>gX cells r ((n,c)::acc)
   | none=>gX cells r acc)else gX cells r acc
def E1(h:∀ y∈scope.names,y.2=.free->∃ c,env.cells.lookup y.1=some c):closureFor scope env=pure (gX env.cells scope.names []):=by
 unfold closureFor
 have key:∀ (names:List (Str×NameKind)) (acc:List (Str×Addr)),(∀ y∈names,y.2=.free->∃ c,env.cells.lookup y.1=some c)->
   (forIn names acc (fun(x:Str×NameKind) (r:List (Str×Addr))=>(match x with
     | (name,kind)=>if(kind==NameKind.free)=true then do
       let c <- cellOf env name
       pure (ForInStep.yield ((name,c)::r))
      else pure (ForInStep.yield r):Sem (ForInStep (List (Str×Addr))))))=(pure (gX env.cells names acc):Sem (List (Str×Addr))):=by
  intro names
  induction names with
  | nil=>intro acc _;rfl
  | cons y r ih=>
   intro acc hh
   obtain⟨n,kd⟩:=y
   rw[List.forIn_cons]
   unfold gX
   by_cases hk:(kd==NameKind.free)=true
   ·obtain⟨c,hc⟩:=hh (n,kd) Qk (by simpa using hk)
    have nj:env.cells.lookup n=some c:=hc
    simp only[hk,ZD,nj]
    have e:cellOf env n=pure c:=by unfold cellOf;rw[nj]
    rw[e]
    exact ih ((n,c)::acc) fun z hz=>hh z (Qh _ hz)
   ·simp only[hk]
    exact ih acc fun z hz=>hh z (Qh _ hz)
 exact(Jb (fun m=>m >>= fun cs=>(pure cs:Sem (List (Str×Addr)))) (key scope.names [] h)).trans rfl
def xZ:∀ {names:List (Str×NameKind)} {acc:List (Str×Addr)},(∀ y c,(y,c)∈acc->cells.lookup y=some c)->∀ y c,(y,c)∈gX cells names acc->cells.lookup y=some c
 | [],_,h,y,c,m=>h y c m
 | (n,k)::r,acc,h,y,c,m=>by
  unfold gX at m
  split at m
  ·split at m
   next c' e=>
    refine xZ (acc:=(n,c')::acc) (fun z d hz=>?_) y c m
    rcases Qt.mp hz with q|q
    ·cases q;exact e
    ·exact h z d q
   ·exact xZ h y c m
  ·exact xZ h y c m
def x6:∀ {names:List (Str×NameKind)} {acc:List (Str×Addr)} {y:Str},(acc.lookup y).isSome=true->((gX cells names acc).lookup y).isSome=true
 | [],_,_,h=>h
 | (n,k)::r,acc,y,h=>by
  unfold gX
  split
  ·split
   ·refine x6 ?_
    rw[Zu]
    split
    ·rfl
    ·exact h
   ·exact x6 h
  ·exact x6 h
def u_(hc:cells.lookup y=some c):∀ {names:List (Str×NameKind)} {acc:List (Str×Addr)},(y,NameKind.free)∈names->((gX cells names acc).lookup y).isSome=true
 | (n,k)::r,acc,h=>by
  unfold gX
  rcases Qt.mp h with q|q
  ·cases q
   simp only[hc]
   rw[Qi (by rfl)]
   refine x6 ?_
   rw[Zu,Ja]
   rfl
  ·split
   ·split
    ·exact u_ hc q
    ·exact u_ hc q
   ·exact u_ hc q
def AE:∀ {names:List (Str×NameKind)} {h:Heap} {acc:List (Str×Addr)} {y:Str} {c:Addr},(y,c)∈cellsFrom h.objs.size names acc->(y,c)∈acc\/(h.objs.size<=c/\(pushCells h names).IsCell c none)
 | [],_,_,_,_,m=>.inl m
 | (n,k)::r,h,acc,y,c,m=>by
  unfold cellsFrom at m
  unfold pushCells
  split at m
  next hk=>
   rw[Qi hk]
   have m':(y,c)∈cellsFrom (h.push { cls:=.type "cell",data:=.cell none }).objs.size r ((n,h.objs.size)::acc):=by rw[ZM];exact m
   rcases AE m' with q|⟨q1,q2⟩
   ·rcases Qt.mp q with e|q
    ·cases e
     refine .inr ⟨Qg _,_,Ye _ _ _ _ (Qp _ rfl),rfl⟩
    ·exact .inl q
   ·rw[ZM]at q1
    exact .inr ⟨by omega,q2⟩
  next hk=>
   rw[Qj hk]
   exact AE m
def AF:∀ {names:List (Str×NameKind)} {n:Nat} {acc:List (Str×Addr)},(∀ y c,(y,c)∈acc->c<n)->(∀ x y c,(x,c)∈acc->(y,c)∈acc->x=y)->∀ x y c,(x,c)∈cellsFrom n names acc->(y,c)∈cellsFrom n names acc->x=y
 | [],_,_,_,h=>h
 | (nm,k)::r,n,acc,bL,h=>by
  unfold cellsFrom
  split
  ·refine AF (n:=n+1) (acc:=(nm,n)::acc) (fun y c m=>?_) (fun x y c m1 m2=>?_)
   ·rcases Qt.mp m with e|m
    ·cases e;exact Zn _
    ·exact Zi (bL y c m)
   ·rcases Qt.mp m1 with e1|m1<;>rcases Qt.mp m2 with e2|m2
    ·cases e1;cases e2;rfl
    ·cases e1;exact absurd (bL y _ m2) (Q6 _)
    ·cases e2;exact absurd (bL x _ m1) (Q6 _)
    ·exact h x y c m1 m2
  ·exact AF bL h
def AG:∀ {names:List (Str×NameKind)} {n:Nat} {acc:List (Str×Addr)},lo<=n->(∀ c,acc.lookup y=some c->lo<=c)->∀ c,(cellsFrom n names acc).lookup y=some c->lo<=c
 | [],_,_,_,h=>h
 | (nm,k)::r,n,acc,hn,h=>by
  unfold cellsFrom
  split
  ·refine AG (n:=n+1) (by omega) fun c e=>?_
   rw[Zu]at e
   split at e
   ·cases e;exact hn
   ·exact h c e
  ·exact AG hn h
def AH:∀ {names:List (Str×NameKind)} {n:Nat} {acc:List (Str×Addr)},lo<=n->(y,NameKind.cell)∈names->∀ c,(cellsFrom n names acc).lookup y=some c->lo<=c
 | (nm,k)::r,n,acc,hn,h=>by
  unfold cellsFrom
  rcases Qt.mp h with q|q
  ·cases q
   rw[Qi (by rfl)]
   refine AG (n:=n+1) (by omega) fun c e=>?_
   rw[Zu,Ja]at e
   cases e;exact hn
  ·split
   ·exact AH (n:=n+1) (by omega) q
   ·exact AH hn q
def AI:∀ {names:List (Str×NameKind)} {n:Nat} {acc:List (Str×Addr)},(y,NameKind.cell) ∉ names->(cellsFrom n names acc).lookup y=acc.lookup y
 | [],_,_,_=>rfl
 | (nm,k)::r,n,acc,h=>by
  unfold cellsFrom
  split
  next hk=>
   rw[AI (fun z=>h (Qh _ z)),Zu]
   have bH:(y==nm)=false:=by
    cases e:y==nm with
    | false=>rfl
    | true=>
     have e1:y=nm:=ZE.mp e
     have e2:k=NameKind.cell:=by simpa using hk
     exact absurd (by rw[e1,<- e2];exact Qk) h
   rw[bH]
  ·exact AI fun z=>h (Qh _ z)
def pG (env:Env)(y:Str)(k:NameKind):NameKind:=if(k==NameKind.free&&env.scope.kind == .function&&env.kindOf y==some .cell)then .cell else k
def AJ{env:Env}{y:Str}:∀ (names:List (Str×NameKind)),(names.map fun(n,k)=>if(k==NameKind.free&&env.scope.kind == .function&&env.kindOf n==some .cell)then(n,NameKind.cell)else(n,k)).lookup y=(names.lookup y).map (pG env y)
 | []=>rfl
 | (n,k)::r=>by
  have ih:=AJ (env:=env) (y:=y) r
  show List.lookup y ((if(k==NameKind.free&&env.scope.kind == .function&&env.kindOf n==some .cell)=true then(n,NameKind.cell)else(n,k))::_)=_
  cases hx:y==n with
  | true=>
   have e:=ZE.mp hx
   subst e
   rw[Zu,Zu]
   by_cases hc:(k==NameKind.free&&env.scope.kind == .function&&env.kindOf y==some .cell)=true
   ·simp only[pG,hc,ZD,Ja,JF]
   ·simp only[pG,hc,Ja,JF]
    simp
  | false=>
   by_cases hc:(k==NameKind.free&&env.scope.kind == .function&&env.kindOf n==some .cell)=true
   ·rw[Qi hc,Zu,Zu];simp only[hx];exact ih
   ·rw[Qj hc,Zu,Zu];simp only[hx];exact ih
def E2{l:List (Str×NameKind)}(hn:(l.map (·.1)).Nodup){k:NameKind}(h:(y,k)∈l):l.lookup y=some k:=by
 induction l with
 | nil=>cases h
 | cons p r ih=>
  rw[Zu]
  rcases Qt.mp h with e|h
  ·rw[<- e,Ja]
  ·have bH:y≠p.1:=fun e=>by
    have:=(Q9.mp hn).1
    exact this (by show p.1∈_;rw[<- e];exact Qx.mpr ⟨(y,k),h,rfl⟩)
   have:(y==p.1)=false:=by simpa using bH
   rw[this]
   exact ih (Q9.mp hn).2 h
def E3 (scope:Scope)(env:Env)(C:Addr):Env:=
 { newEnv scope C env.globals (cellsFrom (C+1) scope.names (gX env.cells scope.names [])) env.qual none .none (some env) builtinsNs with scope:=relabel scope env }
def fP (X:Cx)(N':List Str)(scope:Scope)(C:Addr)(s:Shared)(H:Hp)(fp:List Addr):Cx where
 prog:=X.prog
 w:=X.w
 K:=X.K
 mg:=X.mg
 base:=X.base
 A:=X.A
 N:=N'
 av:=s
 br:=H
 env:=E3 scope X.env C
 outer:=X.stack
 stack:=X.stack
 ex:=fp
 fn:=fun y=>scope.names.lookup y==some .cell
 calm:=X.calm
 pn:=[]
 xe:=fun _ _=>False
structure bY (X:Cx) (k:Nat) (N':List Str) (scope:Scope):Prop where
 kind:scope.kind=.function
 names:(scope.names.map (·.1)).Nodup
 len:N'.length=X.N.length+k
 frees:(scope.names.all fun y=>y.2 != .free||X.env.kindOf y.1==some .cell||X.env.kindOf y.1==some .free)=true
 outs:((N'.zip X.N).all fun p=>(p.1==p.2&&scope.names.lookup p.1==some .free)||scope.names.lookup p.1==none||scope.names.lookup p.1==some .globalImplicit)=true
def bY.free{k:Nat}(S:bY X k N' scope)(h:(y,NameKind.free)∈scope.names):X.env.kindOf y=some .cell\/X.env.kindOf y=some .free:=by
 have:=YA.mp S.frees (y,NameKind.free) h
 simp only[V5,bne_iff_ne,ne_eq,ZE]at this
 rcases this with(h1|h1)|h1
 ·exact absurd trivial h1
 ·exact .inl h1
 ·exact .inr h1
def bY.out{k:Nat}(S:bY X k N' scope)(cS:i<X.N.length)(h:N'[i]? = some y)(hv:tm (relabel scope X.env) y):X.N[i]? = some y/\scope.names.lookup y=some .free:=by
 have e2:X.N[i]? = some X.N[i]:=by simp[cS]
 have m:(y,X.N[i])∈N'.zip X.N:=QB (i:=i) (by rw[List.getElem?_zip_eq_some];exact⟨h,e2⟩)
 have:=YA.mp S.outs _ m
 simp only[V5,ZY,ZE]at this
 have hl:(relabel scope X.env).names.lookup y=(scope.names.lookup y).map (pG X.env y):=AJ _
 rcases this with(⟨h1,h2⟩|h1)|h1
 ·exact⟨by rw[e2,<- h1],h2⟩
 ·rw[h1]at hl
  rcases hv with z|z|z<;>(rw[hl]at z;cases z)
 ·rw[h1]at hl
  have hr:pG X.env y .globalImplicit=.globalImplicit:=rfl
  rw[JF,hr]at hl
  rcases hv with z|z|z<;>(rw[hl]at z;cases z)
def Un.qQ{fs ex:List Addr}{D:Addr}{o:HO}(u:Un fs ex H H' h h')(aw:cP P w H h)(hD:h.objs.size<=D):Un fs ex H (upd H' D o) h h':=by
 have ne:∀ b ob,h.get? b=some ob->b≠D:=fun b ob e z=>absurd (Qs (Qm e) hD) (by rw[z];exact Q6 _)
 have ne':∀ b x,H b=some x->b≠D:=fun b x e z=>absurd (Qs (aw.lt e) hD) (by rw[z];exact Q6 _)
 refine⟨u.keep,u.slot,fun b ob e n hx=>?_,u.there,fun b xs e=>?_,fun b ob x e=>?_,fun b ps e=>?_⟩
 ·rw[a0 (ne b ob e)];exact u.free b ob e n hx
 ·rw[a0 (ne' b _ e)];exact u.dR b xs e
 ·rw[a0 (ne' b _ e)];exact u.dE b ob x e
 ·rw[a0 (ne' b _ e)];exact u.dS b ps e
def cP.add{D:Addr}{o:HO}(x:cP P w H h)(hn:H D=none)(new:cR P w (upd H D o) h D o):cP P w (upd H D o) h:=fun b u e=>by
 by_cases hb:b=D
 ·subst hb;rw[fO]at e;cases e;exact new
 ·rw[a0 hb]at e
  exact(x b u e).fA (fun c v _ q=>q) (fun c q=>by rw[a0 (iC q hn)];exact q) fun c xs q=>by rw[a0 (iC q hn)];exact q
def tJ (X:Cx)(ifs:List Expr)(t:TT):Prop:=
 ∀ (pins:List (Addr×Obj)) (s:Shared) (σ:St) (H:Hp) (Q:Bool->Hp->Prop),Inv X pins σ H s->t σ H Q->
  wpAny (model X.prog X.w) X.A (forIn ifs true fun c r=>if r=true then do let ok <- isTrue c X.env (eval c X.env);pure (ForInStep.yield ok)else pure (ForInStep.yield r)) (TP X pins σ Q) X.xe s
def NO:TT:=fun _ H Q=>Q true H
def NP:tJ X [] NO:=fun pins s σ H Q I h=>wpAny_tests_nil ⟨H,I,h⟩
def NQ{c:Expr}{t:TT}(h:PT X c t):tJ X [c] t:=fun pins s σ H Q I q=>wpAny_tests_one (h pins s σ H Q I q)
def E4 (k:Nat)(g:TG)(tt:TT)(te:TE)(σ:St)(J:It)(H:Hp)(Fin:List V->Hp->Prop):Prop:=
 ∃ W:Nat->Nat->List V->Hp->Prop,(∃ m,W 0 m [] H)/\∀ i m ys H2,W i m ys H2->ys.length<=sizeLine /\
  ((J.stop i H2/\Fin ys H2)\/(J.go i H2/\ys.length<sizeLine/\∀ x H3,J.qE i H2 x H3->g x (σ++List.replicate k none) H3 fun tK H4=>(∃ τ,tK=σ++τ/\τ.length=k) /\
    tt tK H4 fun b H5=>if b=true then te tK H5 fun v H6=>∃ m',m'<m/\W (i+1) m' (ys++[v]) H6 else ∃ m',m'<m/\W (i+1) m' ys H5))
def x8 (k:Nat)(wi:TI)(g:TG)(tt:TT)(te:TE):TE:=fun σ H Q=>wi σ H fun J H1=>E4 k g tt te σ J H1 fun ys H2=>∀ p,H2 p=none->Q (.ref p) (upd H2 p (.lst ys))
def gH (us:List Value)(n:Nat):Obj:={ cls:=.type "list",data:=.seq us.toArray n }
def E5{τ:St}(I:Inv X pins (σ++τ) H s):Inv X pins (σ++List.replicate τ.length none) H s:=
 I.weak (by simp) fun i v e=>by
  by_cases hi:i<σ.length
  ·rw[Q0 hi]at e ⊢
   exact e
  ·rw[Zt (by omega),Z4]at e
   split at e<;>cases e
section
variable {X:Cx}{k:Nat}{N':List Str}{scope:Scope}{pins:List (Addr×Obj)}{σ:St}{H2:Hp}{s2:Shared}{fp:List Addr}
abbrev va (scope:Scope)(s2:Shared):Heap:=pushCells ((s2.heap.push (gH [] 0)).push { cls:=.type "dict",data:=.dict #[] }) scope.names
def NR(S:bY X k N' scope)(I2:Inv X pins σ H2 s2)(f2:∀ b∈fp,lN X pins H2 b)(qR:∀ b∈fp,b<s2.heap.objs.size) :
  Inv (fP X N' scope (s2.heap.objs.size+1) s2 H2 fp) [(s2.heap.objs.size,gH [] 0)] (σ++List.replicate k none) H2 { s2 with heap:=va scope s2 }:=by
 have e1:(s2.heap.push (gH [] 0)).objs.size=s2.heap.objs.size+1:=ZM ..
 have e2:((s2.heap.push (gH [] 0)).push { cls:=.type "dict",data:=.dict #[] }).objs.size=s2.heap.objs.size+1+1:=by rw[ZM,e1]
 have keep:∀ b o,s2.heap.get? b=some o->(va scope s2).get? b=some o:=fun b o e=>Ye _ _ b o (Qd _ (Qd _ e))
 have bO:∀ y c,(y,c)∈gX X.env.cells scope.names []->X.env.cells.lookup y=some c:=xZ (fun _ _ m=>nomatch m)
 have qS:∀ y c,(y,c)∈cellsFrom (s2.heap.objs.size+1+1) scope.names (gX X.env.cells scope.names [])->X.env.cells.lookup y=some c\/(s2.heap.objs.size+1+1<=c/\(va scope s2).IsCell c none):=fun y c m=>by
  have m':(y,c)∈cellsFrom ((s2.heap.push (gH [] 0)).push { cls:=.type "dict",data:=.dict #[] }).objs.size scope.names (gX X.env.cells scope.names []):=by rw[e2];exact m
  rcases AE m' with q|⟨q1,q2⟩
  ·exact .inl (bO y c q)
  ·rw[e2]at q1;exact .inr ⟨q1,q2⟩
 have NS:∀ y c,X.env.cells.lookup y=some c->c<s2.heap.objs.size:=fun y c e=>by obtain⟨v,z⟩:=I2.cell y c e;exact z.lt
 have hl:∀ y,(relabel scope X.env).names.lookup y=(scope.names.lookup y).map (pG X.env y):=fun y=>AJ _
 have ok:(fP X N' scope (s2.heap.objs.size+1) s2 H2 fp).Ok:=by
  refine⟨I2.ok.mod,S.kind,I2.ok.glob,I2.ok.blt,Jn _,fun x y c h1 h2=>?_,fun x hx=>?_,fun x c hf h=>?_,I2.ok.hd,I2.ok.frames,.inl rfl,fun b hb=>⟨?_,fun x c h z=>?_⟩,I2.bs,QU I2.ok.lI I2.sz,fun b o e hb=>?_,fun b hb z=>?_,I2.stack,I2.d9⟩
  ·refine AF (n:=s2.heap.objs.size+1+1) (names:=scope.names) (acc:=gX X.env.cells scope.names []) (fun y c m=>?_) (fun x y c m1 m2=>?_) x y c (QY h1) (QY h2)
   ·exact Qs (NS y c (bO y c m)) (by omega)
   ·exact I2.ok.inj x y c (bO x c m1) (bO y c m2)
  ·have vb:(relabel scope X.env).names.lookup x=some .cell\/(relabel scope X.env).names.lookup x=some .free:=hx
   rw[hl x]at vb
   have:scope.names.lookup x=some .cell\/scope.names.lookup x=some .free:=by
    cases e:scope.names.lookup x with
    | none=>rw[e]at vb;rcases vb with z|z<;>cases z
    | some kd=>
     rw[e,JF]at vb
     cases kd<;>first
      | exact .inl rfl
      | exact .inr rfl
      | (rcases vb with z|z<;>(have z':=QC z;unfold pG at z';simp at z'))
   rcases this with q|q
   ·exact Jq.mp (Jy scope.names (s2.heap.objs.size+1+1) _ (.inl q))
   ·have qm:=QY q
    have hk:=S.free qm
    obtain⟨c,hc⟩:=I2.ok.has x hk
    exact Jq.mp (Jy scope.names (s2.heap.objs.size+1+1) _ (.inr (u_ hc qm)))
  ·have NT:(scope.names.lookup x==some .cell)=true:=hf
   have:=AH (lo:=s2.heap.objs.size) (n:=s2.heap.objs.size+1+1) (acc:=gX X.env.cells scope.names []) (by omega) (QY (ZE.mp NT)) c h
   exact this
  ·have:=qR b hb
   show b≠s2.heap.objs.size+1
   exact Qz (Qs this (Jn _))
  ·have q:=qR b hb
   rcases qS x c (QY h)with w|⟨w,_⟩
   ·exact(f2 b hb).2.2.2.2.1 x c w z
   ·subst z;exact absurd (Qs q (QU (by omega) w)) (Q6 _)
  ·rcases(f2 b hb).2.2.2.1 with z|z
   ·exact I2.ok.kB b o e z
   ·have:=Qm e
    have:=I2.ok.lI
    exact absurd (Qs (Qm e) (QU I2.ok.lI z)) (Q6 _)
  ·rcases Qt.mp (I2.hZ b z)with q|q
   ·exact(f2 b hb).2.1 q
   ·exact(f2 b hb).2.2.1 q
 obtain⟨m,hn,AK⟩:=id I2.loc
 refine⟨ok,rfl,I2.bare,Un.kept keep,⟨fun _=>none,?_,fun i y v h1 h2 h3=>?_⟩,fun y c h=>?_,I2.aw.fresh (Jn _),fun y c h=>?_,fun p hp=>?_,I2.aw.kept keep,?_⟩
 ·have:=(Heap.Ns.new (s2.heap.push (gH [] 0)) (.type "dict")).keeps (Ye scope.names _)
  rw[e1]at this
  exact this
 ·by_cases hi:i<σ.length
  ·have NU:tm (relabel scope X.env) y:=h3
   obtain⟨o1,o2⟩:=S.out (by rw[<- I2.len];exact hi) h1 NU
   have hk:=S.free (QY o2)
   have hs:σ[i]? = some (some v):=by
    rw[Q0 hi]at h2
    exact h2
   obtain⟨u,r,l⟩:=AK i y v o1 hs (.inr hk)
   refine⟨u,r,?_⟩
   rcases l with⟨l,_⟩|⟨_,c,hc,jW⟩
   ·rcases hk with z|z<;>(rw[l]at z;cases z)
   ·refine .inr ⟨?_,c,?_,jW.keeps keep⟩
    ·show(relabel scope X.env).names.lookup y=some .cell\/(relabel scope X.env).names.lookup y=some .free
     rw[hl y,o2,JF]
     unfold pG
     split
     ·exact .inl rfl
     ·exact .inr rfl
    ·show(cellsFrom (s2.heap.objs.size+1+1) scope.names (gX X.env.cells scope.names [])).lookup y=some c
     rw[AI (fun z=>by have:=E2 S.names z;rw[o2]at this;cases this)]
     obtain⟨c',nj⟩:=Jq.mp (u_ (acc:=[]) hc (QY o2))
     have:=bO y c' (QY nj)
     rw[hc]at this;cases this
     exact nj
  ·rw[Zt (by omega),Z4]at h2
   split at h2<;>cases h2
 ·rcases qS y c (QY h)with w|⟨_,w⟩
  ·obtain⟨v,z⟩:=I2.cell y c w
   exact⟨v,z.keeps keep⟩
  ·exact⟨_,w⟩
 ·rcases qS y c (QY h)with w|⟨w,_⟩
  ·exact I2.cD y c w
  ·exact I2.aw.fresh (by omega)
 ·have e:p=(s2.heap.objs.size,gH [] 0):=by
   have:p ∈ [(s2.heap.objs.size,gH [] 0)]:=hp
   simpa using this
  subst e
  refine⟨Ye _ _ _ _ (Qd _ (Qp _ rfl)),I2.aw.fresh (Qg _),?_,fun z=>?_,fun v z=>nomatch z⟩
  ·show s2.heap.objs.size≠s2.heap.objs.size+1
   omega
  ·have z':s2.heap.objs.size∈cQ X.stack:=z
   rcases Qt.mp (I2.hZ _ z')with q|q
   ·exact absurd I2.lt (by rw[<- q];exact Q6 _)
   ·exact I2.uF (Qg _) q
 ·rw[Qo,ZK,I2.len]
  exact S.len.symm
def NV{us:List Value}{ys:List V}{s':Shared}{aF:St}(I2:Inv X pins σ H2 s2)(f2:∀ b∈fp,lN X pins H2 b)
  (I3:Inv (fP X N' scope C s2 H2 fp) [(s2.heap.objs.size,gH us n)] aF H' s') (r:aY ys us) (hz:ys.length<=sizeLine):Inv X pins σ (upd H' s2.heap.objs.size (.lst ys)) s':=by
 obtain⟨e,hn,_⟩:=I3.pin (s2.heap.objs.size,gH us n) (Qq _ (Qv.mpr rfl))
 have u:Un (cQ X.stack) fp H2 H' s2.heap s'.heap:=I3.base
 exact I2.lK (ch:=fp) I3.os (u.qQ I2.aw (Qg _)) (I3.aw.add hn ⟨hz,us,n,r,e⟩) I3.bare fun b hb=>⟨(f2 b hb).2.2.2.1,(f2 b hb).2.1,(f2 b hb).2.2.2.2⟩
end
def E6{k:Nat}{H2:Hp}{s2:Shared}{fp:List Addr}{tg:Expr}{it:Addr}{tn:Nat->Heap->Prop}{J:It}{g:TG}{tt:TT}{te:TE}{Fin:List V->Hp->Prop}{E:Value->Shared->Prop}{RR:Value->Addr->Result->Shared->Prop}
  (hc:X.calm=true) (S:bY X k N' scope) (hg:∀ C s H fp,PG (fP X N' scope C s H fp) tg g) (ht:∀ C s H fp,tJ (fP X N' scope C s H fp) ifs tt) (he:∀ C s H fp,PE (fP X N' scope C s H fp) elt te)
  (I2:Inv X pins σ H2 s2) (T:Turn X.prog X.w X.K tg J fp it tn) (pB:tn 0 s2.heap) (f2:∀ b∈fp,lN X pins H2 b) (R:E4 k g tt te σ J H2 Fin)
  (NW:∀ C ys H' s' m',Inv X pins σ (upd H' s2.heap.objs.size (.lst ys)) s'->s'.heap.Ns C m'->H' s2.heap.objs.size=none->upd H' s2.heap.objs.size (.lst ys) C=none->C≠X.env.locals->X.av.heap.objs.size<=C->s2.heap.objs.size<C->
    Fin ys H'->RR (.ref s2.heap.objs.size) C (.ok .next) s') :
  wpAny (model X.prog X.w) X.A (newList []) (fun acc gG=>wpAny (model X.prog X.w) X.A (newFunctionEnv scope X.env.globals (gX X.env.cells scope.names []) [] X.env.qual none .none (some X.env)) (fun vc oy=>
   codeAny (model X.prog X.w) X.A (.compStart (.ListComp elt [⟨tg,iter,ifs,0⟩] scope pos) 0 (.ref it) acc { vc with scope:=relabel scope X.env }) (RR acc vc.locals) oy) E gG) E s2:=by
 refine Zd (NM ?_)
 have e1:(s2.heap.push (gH [] 0)).objs.size=s2.heap.objs.size+1:=ZM ..
 have qR:∀ b∈fp,b<s2.heap.objs.size:=fun b hb=>by obtain⟨o,e,_⟩:=T.obj _ _ pB b hb;exact Qm e
 obtain⟨W,⟨m0,w0⟩,turn⟩:=R
 have I3:=NR S I2 f2 qR
 have uJ:tn 0 (va scope s2):=T.keep _ _ _ pB fun b hb o e=>Ye _ _ b o (Qd _ (Qd _ e))
 have NX:s2.heap.objs.size≠s2.heap.objs.size+1:=by omega
 have jv:∀ {H':Hp} {us:List Value} {n:Nat},(∀ b∈fp,H' b=none)->∀ b∈fp,lN (fP X N' scope (s2.heap.objs.size+1) s2 H2 fp) [(s2.heap.objs.size,gH us n)] H' b:=fun {H' us n} hn b hb=>by
  have q:=I3.ok.xD b hb
  refine⟨hn b hb,q.1,I3.ok.kC b hb,.inl hb,q.2,fun p hp z=>?_⟩
  have jA:p ∈ [(s2.heap.objs.size,gH us n)]:=hp
  have e:p=(s2.heap.objs.size,gH us n):=by simpa using jA
  subst e
  have:=qR b hb
  have z':s2.heap.objs.size=b:=z
  exact absurd this (by rw[z'];exact Q6 _)
 have loop:∀ E7,E7=Value.ref it->codeAny (model X.prog X.w) X.A (.compLoop (.ListComp elt [⟨tg,iter,ifs,0⟩] scope pos) 0 E7 (.ref s2.heap.objs.size) (E3 scope X.env (s2.heap.objs.size+1))) (RR (.ref s2.heap.objs.size) (s2.heap.objs.size+1)) { s2 with heap:=va scope s2 }:=by
  rintro _ rfl
  refine NL (fun n s'=>∃ i ys us cnt H',Inv (fP X N' scope (s2.heap.objs.size+1) s2 H2 fp) [(s2.heap.objs.size,gH us cnt)] (σ++List.replicate k none) H' s'/\tn i s'.heap/\(∀ b∈fp,H' b=none)/\aY ys us/\W i n ys H') ?_ m0
   ⟨0,[],[],0,H2,I3,uJ,fun b hb=>(f2 b hb).1,.nil,w0⟩
  rintro n s3 ⟨i,ys,us,cnt,H3,J3,st,fr,r3,w3⟩
  obtain⟨hz,hw⟩:=turn i n ys H3 w3
  rcases hw with⟨stop,fin⟩|⟨go,bL,step⟩
  ·refine aU (T.done (fP X N' scope (s2.heap.objs.size+1) s2 H2 fp) rfl rfl rfl hc i _ s3 _ H3 _ J3 (jv fr) st stop) fun rr s4 ⟨hr,I4⟩=>?_
   subst hr
   obtain⟨m',n6,_⟩:=id I4.loc
   obtain⟨eD,nD,_⟩:=I4.pin (s2.heap.objs.size,gH us cnt) (Qq _ (Qv.mpr rfl))
   refine NW (s2.heap.objs.size+1) ys H3 s4 m' (NV I2 f2 I4 r3 hz) n6 nD ?_ ?_ ?_ (Zn _) fin
   ·rw[a0 (Jk NX)];exact I4.free
   ·exact Jk (Qz (Qs I2.lt (Jn _)))
   ·have:=I2.sz;omega
  ·refine aU (T.item (fP X N' scope (s2.heap.objs.size+1) s2 H2 fp) rfl rfl rfl hc i _ s3 _ H3 _ J3 (jv fr) st go) fun rr s4 ⟨u,hr,h4⟩=>?_
   subst hr
   refine aU h4 fun _ s5 ag=>?_
   obtain⟨x,H5,I5,r5,y5,qF,Ag⟩:=ag
   have Ah:=I5.pinned (jv Ag) (T.obj _ _ qF)
   refine aU (hg _ _ _ _ _ s5 _ H5 x u _ Ah r5 (step x H5 y5)) fun _ s6 ⟨Er,H6,I6,⟨τ,e6,l6⟩,q6⟩=>?_
   subst e6
   refine aU (ht _ _ _ _ _ s6 _ H6 _ I6 q6) fun ok s7 ag=>?_
   obtain⟨H7,I7,q7⟩:=ag
   have kept:∀ {s':Shared} {H':Hp} {aF:St},Inv (fP X N' scope (s2.heap.objs.size+1) s2 H2 fp) ([(s2.heap.objs.size,gH us cnt)]++pA fp s5.heap) aF H' s'->tn (i+1) s'.heap/\∀ b∈fp,H' b=none:=fun {s' H' aF} I'=>by
    refine⟨T.keep _ _ _ qF fun b hb o e=>(I'.pin (b,o) (Qq _ (Qq _ (xI hb e)))).1,fun b hb=>?_⟩
    obtain⟨o,e,d⟩:=T.obj _ _ qF b hb
    exact(I'.pin (b,o) (Qq _ (Qq _ (xI hb e)))).2.1
   cases ok with
   | false=>
    rw[Qj (by decide)]at q7 ⊢
    obtain⟨m',hm,w7⟩:=q7
    have:=E5 I7.d_
    rw[l6]at this
    exact⟨m',hm,i+1,ys,us,cnt,H7,this,(kept I7).1,(kept I7).2,r3,w7⟩
   | true=>
    rw[Qi rfl]at q7 ⊢
    refine aU (he _ _ _ _ _ s7 _ H7 _ I7 q7) fun u8 s8 ag=>?_
    obtain⟨v,H8,I8,r8,m',hm,w8⟩:=ag
    obtain⟨eD,nD,E8,NY,dD⟩:=I8.pin (s2.heap.objs.size,gH us cnt) (Qq _ (QA _ (Qv.mpr rfl)))
    refine append_at eD (fun h9 E9 NZ=>?_) (hsz:=by rw[Qn,<- r3.length];exact ZN bL)
    have Ia:=I8.fJ (pins':=pA fp s5.heap) fun p hp=>I8.pin p (Qq _ (Qq _ hp))
    have N0:∀ p∈pA fp s5.heap,p.1≠s2.heap.objs.size:=fun p hp z=>by
     have:=qR p.1 (Eo hp).1
     exact absurd this (by rw[z];exact Q6 _)
    have Ib:=Ia.turned (h':=h9) (t':=s8.toks) (it:=s2.heap.objs.size) (fun b o hb e=>E9.extBut b o hb e) nD E8 (.inr (Qg _)) (fun y c h z=>by
      obtain⟨vv,o,ho,hd⟩:=I8.cell y c h
      rw[z,eD]at ho
      cases ho
      cases hd) (fun p hp=>N0 p (by
      have jA:p ∈ []++pA fp s5.heap:=hp
      simpa using jA))
    have Ic:=Ib.fJ (pins':=[(s2.heap.objs.size,gH (us++[u8]) (cnt+1))]) fun p hp=>by
     have e:p=(s2.heap.objs.size,gH (us++[u8]) (cnt+1)):=by simpa using hp
     subst e
     refine⟨?_,nD,E8,NY,fun v z=>nomatch z⟩
     show h9.get? s2.heap.objs.size=_
     rw[NZ]
     unfold gH
     simp
    have Id:=E5 Ic
    rw[l6]at Id
    have kp:=kept I8
    refine⟨m',hm,i+1,ys++[v],us++[u8],cnt+1,H8,Id,T.keep _ _ _ kp.1 fun b hb o e=>E9.extBut b o (fun z=>by
     have:=qR b hb
     have z':b=s2.heap.objs.size:=z
     exact absurd this (by rw[z'];exact Q6 _)) e,kp.2,aY.append r3 (.cons r8 .nil),w8⟩
 have hC:(s2.heap.push { cls:=.type "list",dict:=none,data:=.seq ([]:List Value).toArray }).objs.size=s2.heap.objs.size+1:=ZM ..
 have fin:=codeAny_compStart_list (loop _ rfl) (T.self X.A 0 _ _ _ uJ (loop _ rfl))
 dsimp only at fin ⊢
 rw[hC]
 exact fin
def bY.locs{k:Nat}(S:bY X k N' scope):∀ y∈scope.names,y.2=.local->scope.names.lookup y.1=some .local:=fun y hy e=>by
 obtain⟨n,kd⟩:=y
 have e':kd=.local:=e
 subst e'
 exact E2 S.names hy
def AL{m:Str->Option Value}{v:Option Value}(hn:h.Ns C m)(hc:h.IsCell c v):c≠C:=fun z=>by
 obtain⟨o,es,ep,ho,hd,_⟩:=hn
 obtain⟨o',e_,gV⟩:=hc
 rw[z,ho]at e_
 cases e_
 rw[hd]at gV
 cases gV
section
variable {X:Cx}{k:Nat}{N':List Str}{scope:Scope}{elt tg iter:Expr}{ifs:List Expr}{pos:Pos}{wi:TI}{g:TG}{tt:TT}{te:TE}
def N1(hc:X.calm=true)(S:bY X k N' scope)(hi:PI X tg iter wi)(hg:∀ C s H fp,PG (fP X N' scope C s H fp) tg g)(ht:∀ C s H fp,tJ (fP X N' scope C s H fp) ifs tt)(he:∀ C s H fp,PE (fP X N' scope C s H fp) elt te)
  (hs:∀ x,foldedSetIterable iter X.env x=pure x:=by intro _;rfl):PE X (.ListComp elt [⟨tg,iter,ifs,0⟩] scope pos) (x8 k wi g tt te):=by
 intro pins s σ H Q I h
 rw[eval_ListComp]
 refine wpAny_comprehension_free (use:=none) rfl hs (E1 fun y hy e=>?_) S.kind S.locs (aU (hi pins s σ H _ I h) fun v s1 h1=>aU h1 fun xH s2 h2=>?_)
 ·obtain⟨n,kd⟩:=y
  have e':kd=.free:=e
  subst e'
  exact I.ok.has n (S.free hy)
 ·obtain⟨it,fp,tn,J,H2,e,I2,T,pB,f2,R⟩:=h2
  subst e
  refine E6 hc S hg ht he I2 T pB f2 R ?_
  intro C ys H' s' m' I' hn hD AM x9 AN AO fin
  refine⟨m',hn,fun h' lg=>⟨.ref s2.heap.objs.size,_,I'.turned (h':=h') (t':=s'.toks) (it:=C) (fun b o hb e=>lg.extBut b o hb e) AM x9 (.inr AN) (fun x c h=>?_) (fun p hp z=>?_),rfl,fin _ hD⟩⟩
  ·obtain⟨v,q⟩:=I'.cell x c h
   exact AL hn q
  ·have:=Qm (I2.pin p hp).1
   exact absurd (Va this AO) (by rw[z];exact Q6 _)
def N2{py iT:Pos}(hN:X.N.Nodup)(hy:X.N[i]? = some y)(hx:Loc X.env.scope y)(qT:swapsWith (.ListComp elt [⟨tg,iter,ifs,0⟩] scope pos) (some (.Name y py)) iT.line X.env=pure true)
  (hc:X.calm=true) (S:bY X k N' scope) (hi:PI X tg iter wi) (hg:∀ C s H fp,PG (fP X N' scope C s H fp) tg g) (ht:∀ C s H fp,tJ (fP X N' scope C s H fp) ifs tt) (he:∀ C s H fp,PE (fP X N' scope C s H fp) elt te)
  (hs:∀ x,foldedSetIterable iter X.env x=pure x:=by intro _;rfl) (hf:X.fn y=true\/X.env.scope.names.lookup y=some .local:=by first|exact .inl rfl|exact .inr rfl|assumption) :
  PS X (.Assign [.Name y py] (.ListComp elt [⟨tg,iter,ifs,0⟩] scope pos) iT) (Ab (x8 k wi g tt te) (Aa i)):=by
 intro pins s σ H D I h
 rw[exec_Assign_Name_used _ _ _ _ qT]
 refine Qa (wpAny_standAt (Qa ?_))
 show wpAny _ X.A (do let _ <- comprehension (.ListComp elt [⟨tg,iter,ifs,0⟩] scope pos) scope X.env _ (newList []) false (eval iter X.env) (some (assign (.Name y py) X.env))) _ _ s
 refine Qa (ZB (wpAny_comprehension_free (use:=some (assign (.Name y py) X.env)) (Q:=fun _ s'=>SP X pins D .next s') rfl hs (E1 fun z hz e=>?_) S.kind S.locs
  (aU (hi pins s σ H _ I h) fun v s1 h1=>aU h1 fun xH s2 h2=>?_)) (fun _ s' hq=>Qc (Qc hq)) fun _ _ e=>e)
 ·obtain⟨n,kd⟩:=z
  have e':kd=.free:=e
  subst e'
  exact I.ok.has n (S.free hz)
 ·obtain⟨it,fp,tn,J,H2,e,I2,T,pB,f2,R⟩:=h2
  subst e
  refine E6 hc S hg ht he I2 T pB f2 R ?_
  intro C ys H' s' m' I' hn hD AM x9 AN AO fin
  show wpAny _ X.A (assign (.Name y py) X.env (.ref s2.heap.objs.size)) _ _ _
  refine wpAny_assign_Name (Ec I' hN hy hx (v:=.ref s2.heap.objs.size) rfl (fun nr E_ ⟨a,sb,ha⟩=>?_) hf)
  have N3:C≠a:=fun z=>by
   rcases ha with q|q
   ·exact x9 (z.trans q)
   ·obtain⟨v,w⟩:=I'.cell y a q
    exact AL hn w z.symm
  have x_:=hn.sameBut sb N3
  refine⟨m',x_,fun h' lg=>⟨_,_,E_.turned (h':=h') (t':=nr.toks) (it:=C) (fun b o hb e=>lg.extBut b o hb e) AM x9 (.inr AN) (fun x c h=>?_) (fun p hp z=>?_),fin _ hD⟩⟩
  ·obtain⟨v,q⟩:=E_.cell x c h
   exact AL x_ q
  ·have:=Qm (I2.pin p hp).1
   exact absurd (Va this AO) (by rw[z];exact Q6 _)
end
end L2
namespace L3
open PySem PySem.Spec PyProof.Rows PySem.W L2
variable {M:Model}{Q:Value->Shared->Prop}{R:Result->Shared->Prop}{T:String}{h:Heap}
section
variable {prog:Program}{w:World}{A:Around}{E:Value->Shared->Prop}{s:Shared}{K:Frag}{x C:Addr}{ox:Obj}
structure ji (h:Heap) (x:Addr) (ox:Obj) (C:Addr):Prop where
 at_:h.get? x=some ox
 cls:ox.cls=.ref C
def ji.type(I:ji h x ox C):Looks M h (typeOf (.ref x)) (.ref C):=I.cls ▸ (Looks.ld I.at_).andThen .now
structure eP (K:Frag) (C:Addr):Prop where
 ci:(clsIn K C).isSome=true
 ga:findIn K (.ref C) "__getattribute__" = some (some (.builtin "BaseException.__getattribute__"))
 gt:findIn K (.ref C) "__getattr__" = some none
 cl:findIn K (.ref C) "__class__" = some (some (.builtin "object.__class__"))
 cg:specialIn K (.builtin "object.__class__") "__get__" = some (some (.builtin "getset_descriptor.__get__"))
 ct:takesIn K (.builtin "object.__class__")=some true
 mo:mroIn K C (.type "object")=some true
 mb:mroIn K C (.type "BaseException")=some true
def N4(X:K.In h)(I:ji h x ox C)(XC:eP K C):Looks M h (Builtin.ObjectAttr.find (.ref x) (.ref C) "__class__") (.bind (.builtin "getset_descriptor.__get__") (.builtin "object.__class__")):=by
 have L1:=looks_findIn (M:=M) X XC.cl
 have L2:Looks M h (Builtin.ObjectAttr.getOf (some (.builtin "object.__class__"))) _:=looks_specialIn (M:=M) X XC.cg
 have L3:=looks_takesIn (M:=M) X XC.ct
 exact L1.andThen (L2.andThen ((show Looks M h (Builtin.ObjectAttr.dataDescriptor? (some (.builtin "object.__class__")) (some (.builtin "getset_descriptor.__get__"))) (some ((.builtin "getset_descriptor.__get__"),(.builtin "object.__class__")))from L3.andThen .now).andThen (Looks.tag .now)))
def N5{tp:Value}(X:K.In s.heap)(I:ji s.heap x ox C)(hm:mroIn K C (.type "object")=some true)
  (h:R (.ok (.ret (.ref C))) s):codeAny (model prog w) A (.call (.builtin "getset_descriptor.__get__") ⟨[.builtin "object.__class__",.ref x,tp],[]⟩) R s:=by
 obtain⟨hh,g,dr,t,os⟩:=s
 have L0:=I.type (M:=model prog w)
 have L1:=looks_mroIn (M:=model prog w) X hm
 refine Z2 KF.slot_gs.plain KF.entry_gs (KF.slot_gs.check _ _ _ _ _ _ _ _ KF.type_class (KF.args_gs _ _ _) ?_)
 unfold Builtin.«getset_descriptor.__get__» Builtin.Getset_descriptor.descrGet
 rw[dga_obj]
 refine Qa (Qc ?_)
 unfold Builtin.Getset_descriptor.descrGetter Builtin.Getset_descriptor.descrCheckInstance Builtin.Getset_descriptor.descrNameAndClass isInstance
 simp only[KF.owner_class]
 repeat lk
 refine⟨Yi _ (by decide +kernel),ZA KF.entry_class ?_⟩
 unfold Builtin.«object.__class__» shownTypeOf
 repeat lk
 exact h
def N6{pH:Value}{Q:Unit->Shared->Prop}(X:K.In s.heap)(I:ji s.heap x ox C)(XC:eP K C)(hq:Q () s):wpAny M A (checkBuiltinCall "BaseException.__getattribute__" ⟨[.ref x,pH],[]⟩) Q E s:=by
 obtain⟨hh,g,d,t,os⟩:=s
 have L0:=I.type (M:=M)
 have L1:=looks_mroIn (M:=M) X XC.mb
 have hk:builtinKind "BaseException.__getattribute__" = some .slot:=by decide +kernel
 have qU:splitId "BaseException.__getattribute__" = some ("BaseException","__getattribute__"):=by decide +kernel
 have ha:=PySem.F.args_bexc_ga (.ref x) pH
 simp only[checkBuiltinCall,hk,qU]
 unfold isInstance
 repeat lk
 exact hq
def N7{tk:Tok}(X:K.In s.heap)(I:ji s.heap x ox C)(XC:eP K C)(h:R (.ok (.ret (.ref C))) s) :
  codeAny (model prog w) A (.call (.builtin "BaseException.__getattribute__") ⟨[.ref x,.str "__class__" tk],[]⟩) R s:=by
 refine Z2 Vf.ga.plain PySem.F.entry_bexc_ga (N6 X I XC ?_)
 obtain⟨hh,g,d,t,os⟩:=s
 have L0:=I.type (M:=model prog w)
 have L1:=N4 (M:=model prog w) X I XC
 show wpAny _ _ (Builtin.«object.__getattribute__» ⟨[.ref x,.str "__class__" tk],[]⟩) _ _ _
 refine Qa (Qc ?_)
 refine Qa (Qc ?_)
 refine Qa (L0.at (Qa (L1.at ?_)))
 show wpAny _ _ (holding [.builtin "object.__class__"] (call (.builtin "getset_descriptor.__get__") [.builtin "object.__class__",.ref x,.ref C]) >>= ret) _ _ _
 exact Qa (QZ (Ve (N5 X I XC.mo (Qc h))))
def N8{Q:Option Value->Shared->Prop}(X:K.In s.heap)(I:ji s.heap x ox C)(XC:eP K C)(h:Q (some (.ref C)) { s with toks:=s.toks+1 }):wpAny (model prog w) A (getAttr? (.ref x) "__class__") Q E s:=by
 obtain⟨hh,g,d,t,os⟩:=s
 have L0:=I.type (M:=model prog w)
 have L1:=looks_findIn (M:=model prog w) X XC.ga
 have L2:=looks_findIn (M:=model prog w) X XC.gt
 have f3:=Vf.ga.bind (.ref x)
 unfold getAttr? getAttrBy? getAttrBy
 refine Qa (wpAny_mkText (Qa (Js (QZ (Qa (L0.at (Qa (L1.at ?_))))))))
 show wpAny _ _ (getAttrByItsOwn _ _ _ _ _ _) _ _ _
 unfold getAttrByItsOwn
 refine Qa (L2.at ?_)
 refine Qa (Js (QZ ?_))
 show wpAny _ _ (boundAndCalled _ _ _) _ _ _
 unfold boundAndCalled
 rw[f3]
 refine Qa (Qc ?_)
 show wpAny _ _ (call (.builtin "BaseException.__getattribute__") [.ref x,.str "__class__" t]) _ _ _
 refine Ve (N7 (s:=⟨hh,g,d,t+1,os⟩) X I XC ?_)
 exact handed_on rfl (Qc h)
def AQ{D:Addr}(X:K.In h)(e:(clsIn K D).isSome=true):Looks M h (isType (.ref D)) true:=by
 unfold clsIn at e
 split at e
 next c' d' cd' ni ho=>
  intro A' Q' E' s' k q
  unfold isType loadHead
  exact Qa (wpAny_loadPart (k _ _ (X _ _ ho)) (Qc q))
 ·cases e
def Fb{c:Value}{jY:Int}{tk:Tok}{Q:Fin->Shared->Prop}(X:K.In s.heap)(I:ji s.heap x ox C)(XC:eP K C)(oh:Looks (model prog w) s.heap (typeOf c) (.type "type"))(gJ:Looks (model prog w) s.heap (isType c) true)
  (bH:(Value.ref C==c)=false) (bO:Looks (model prog w) s.heap (isSubtype (.ref C) c) false) (h:Q (.done (.ret (.bool false))) { s with toks:=s.toks+1 }) :
  wpAny (model prog w) A (Builtin.«isinstance.nested» ⟨[.ref x,c,.int jY tk],[]⟩) Q E s:=by
 have AR:=AQ (M:=model prog w) X XC.ci
 obtain⟨h0,g,d,tt,os⟩:=s
 have L0:=I.type (M:=model prog w)
 have LI:Looks (model prog w) h0 (isInstance (.ref x) c) false:=L0.andThen bO
 unfold Builtin.«isinstance.nested»
 refine Qa (L0.at ?_)
 rw[Qj (fun q=>by rw[bH]at q;exact Bool.noConfusion q)]
 refine Qa (oh.at ?_)
 rw[Qi (by decide)]
 k_delta "plainIsInstance"
 refine Qa (Qa (gJ.at ?_))
 simp only[ZS,Qu,Zp]
 refine Qa (LI.at ?_)
 simp only[Qu,Zp]
 refine Qa (N8 X I XC ?_)
 refine Qa (AR.at ?_)
 simp only[ZS,Qu,Zp]
 refine Qa (YB ?_)
 refine bO.at ?_
 first
  | exact Qc h
  | exact Qc (Qc h)
  | exact Qa (Qc (Qc h))
def N9{D:Addr}(X:K.In s.heap)(I:ji s.heap x ox C)(XC:eP K C)(e:kin_not K C D=true)(h:Q (.bool false) { s with toks:=s.toks+1 }):wpAny (model prog w) A (call (.builtin "isinstance") [.ref x,.ref D]) Q E s:=by
 unfold kin_not at e
 rw[ZY,ZY,ZY]at e
 obtain⟨⟨⟨e0,e1⟩,e2⟩,e3⟩:=e
 have bH:(Value.ref C==Value.ref D)=false:=Bool.eq_false_iff.mpr fun q=>Q8 e0 (Value.ref.inj (ZE.mp q))
 exact V6 (S:=fun _ R s=>(K.In s.heap/\ji s.heap x ox C)/\R (.ok (.ret (.bool false))) { s with toks:=s.toks+1 })
  (fun _ _ _ _ _ hs=>VL (Fb hs.1.1 hs.1.2 XC (looks_typeIn hs.1.1 (ZE.mp e2)) (AQ hs.1.1 e1) bH (Uf hs.1.1 (ZE.mp e3)) hs.2) (by intro q;cases q)) ⟨⟨X,I⟩,h⟩
def N_{D:Addr}(X:K.In s.heap)(I:ji s.heap x ox C)(e:isIn K (.ref C) D=true)(h:Q (.bool true) s):wpAny (model prog w) A (call (.builtin "isinstance") [.ref x,.ref D]) Q E s:=
 isi_call X (fun M=>I.type) e (by intro q;cases q) h
def Oa(X:K.In s.heap)(I:ji s.heap x ox C)(oh:typeOf (.type T)=pure (.type "type"))(e:subIn K (.ref C) (.type T)=some true)(h:Q (.bool true) s):wpAny (model prog w) A (call (.builtin "isinstance") [.ref x,.type T]) Q E s:=
 V6 (S:=fun _ R s=>(K.In s.heap/\ji s.heap x ox C)/\R (.ok (.ret (.bool true))) s) (fun prog w A R s hs=>VL (by
  obtain⟨⟨X,I⟩,h⟩:=hs
  obtain⟨h0,g,d,tt,os⟩:=s
  have L0:=I.type (M:=model prog w)
  have LI:Looks (model prog w) h0 (isInstance (.ref x) (.type T)) true:=L0.andThen (Uf X e)
  have hT:Looks (model prog w) h0 (typeOf (.type T)) (.type "type"):=YJ oh
  have hI:Looks (model prog w) h0 (isType (.type T)) true:=YJ rfl
  unfold Builtin.«isinstance.nested»
  refine Qa (L0.at ?_)
  rw[Qj (fun q=>by cases ZE.mp q)]
  refine Qa (hT.at ?_)
  rw[Qi (by decide)]
  k_delta "plainIsInstance"
  refine Qa (Qa (hI.at ?_))
  simp only[ZS,Qu,Zp]
  refine Qa (LI.at ?_)
  simp only[ZD]
  exact Qc (Qc h)) (by intro q;cases q)) ⟨⟨X,I⟩,h⟩
def Ob(X:K.In s.heap)(I:ji s.heap x ox C)(XC:eP K C)(oh:typeOf (.type T)=pure (.type "type"))(e:subIn K (.ref C) (.type T)=some false)(h:Q (.bool false) { s with toks:=s.toks+1 }):wpAny (model prog w) A (call (.builtin "isinstance") [.ref x,.type T]) Q E s:=
 V6 (S:=fun _ R s=>(K.In s.heap/\ji s.heap x ox C)/\R (.ok (.ret (.bool false))) { s with toks:=s.toks+1 })
  (fun _ _ _ _ _ hs=>VL (Fb hs.1.1 hs.1.2 XC (YJ oh) (YJ rfl) (Bool.eq_false_iff.mpr fun q=>by cases ZE.mp q) (Uf hs.1.1 e) hs.2) (by intro q;cases q)) ⟨⟨X,I⟩,h⟩
end
def AS:List Value:=[.type "ValueError",.type "Exception",.type "BaseException",.type "object"]
structure iU (K:Frag) (nm:Str) (C:Addr):Prop where
 ns:nsIn K mainGlobals nm=some (some (.ref C))
 xc:eP K C
 ex:excIn K C AS "ValueError.__new__" = true
 ve:subIn K (.ref C) (.type "ValueError")=some true
 no:∀ T ∈ ["int","bool","tuple","list","str"],subIn K (.ref C) (.type T)=some false
def XO (K:Frag)(nm:Str)(ob:Obj):Prop:=∃ C,ob.cls=.ref C/\iU K nm C
end L3
namespace L3
open PySem PySem.Spec PyProof.Rows L2
variable {A:Around}{E:XK}{F:List Addr}{H H' H1 H2:Hp}{K:PySem.W.Frag}{N ps:List Str}{X:Cx}{a p:Addr}{b c:Int}{deep:Bool}{es:List Expr}{fd:FuncData}{h:Int->Int->V}{i n t':Nat}{r:R2}{te:TE}{tg:Expr}{u:Tok}{v:V}{vs xs:List V}{x:HO}{y:Option HO}
def ya:Slot "function" "__getattribute__" "object.__getattribute__" :=
 .of (owner:="object") (n:="__getattribute__") (by rw[YW,JI];kernel_rfl) (by decide +kernel) (by decide +kernel) (by decide +kernel)
  (by first|exact .inl (by decide +kernel)|exact .inr (by decide +kernel)) (by rw[Yp];kernel_rfl)
def Oc:typeLookup (.type "function") "__class__" = pure (some (.builtin "object.__class__")):=by rw[YW,JI];kernel_rfl
def Od:isSubtype (.type "function") (.type (".".intercalate ("object.__class__".cutAt '.').dropLast))=pure true:=by
 rw[PySem.F.owner_object_class,Yp];kernel_rfl
def Oe:entryFor table "object.__getattribute__" = some Builtin.«object.__getattribute__»:=entryFor_of_tree (by kernel_rfl)
def Of(a b:Value):argsOk "object.__getattribute__" ⟨[a,b],[]⟩:=by unfold argsOk;kernel_rfl
section
variable {prog:Program}{w:World}{A:Around}{E:Value->Shared->Prop}{s:Shared}{a:Addr}
def Og{R:Result->Shared->Prop}(hT:s.TypeIs (.ref a) "function")(hq:R (.ok (.ret (.type "function"))) s) :
  codeAny (model prog w) A (.call (.builtin "getset_descriptor.__get__") ⟨[.builtin "object.__class__",.ref a,.type "function"],[]⟩) R s:=by
 obtain⟨h,g,d,t,os⟩:=s
 have h5:(⟨h,g,d,t,os⟩:Shared).TypeIs (.builtin "object.__class__") "getset_descriptor":=JL
 have f8:=Od
 refine Z2 Y6.plain PySem.F.entry_gs_get (Y6.check _ _ _ _ _ _ _ _ h5 (PySem.F.args_gs_get _ _ _) ?_)
 repeat (any_goals (first|assumption|wp_step))
 refine⟨Yi _ (by decide +kernel),ZA PySem.F.entry_object_class ?_⟩
 repeat (any_goals (first|assumption|wp_step))
def Oh{Q:Option Value->Shared->Prop}(hT:s.TypeIs (.ref a) "function")(hq:Q (some (.type "function")) { s with toks:=s.toks+1 }):wpAny (model prog w) A (getAttr? (.ref a) "__class__") Q E s:=by
 obtain⟨h,g,d,t,os⟩:=s
 have Fc:∀ t',(⟨h,g,d,t',os⟩:Shared).TypeIs (.ref a) "function":=fun _=>hT
 have en:∀ {tk:Tok} {t':Nat} {Q:Fin->Shared->Prop} {E:Value->Shared->Prop} {A:Around},Q (.done (.ret (.type "function"))) ⟨h,g,d,t',os⟩->
   wpAny (model prog w) A (Builtin.«object.__getattribute__» ⟨[.ref a,.str "__class__" tk],[]⟩) Q E ⟨h,g,d,t',os⟩:=by
  intro tk t' Q E A hq
  have hT:=Fc t'
  have h5:(⟨h,g,d,t',os⟩:Shared).TypeIs (.builtin "object.__class__") "getset_descriptor":=JL
  have f4:=Oc
  have f5:=JL
  have f6:=Y6.lookup
  have f7:=PySem.F.slot_gs_set.lookup
  repeat (any_goals (first|assumption|wp_step))
  refine Og hT ?_
  repeat (any_goals (first|assumption|wp_step))
 have Oi:∀ {tk:Tok} {t':Nat} {Q:Value->Shared->Prop} {E:Value->Shared->Prop} {A:Around},Q (.type "function") ⟨h,g,d,t',os⟩->wpAny (model prog w) A (getAttrBy (.ref a) (.str "__class__" tk) false) Q E ⟨h,g,d,t',os⟩:=by
  intro tk t' Q E A hq
  have hT:=Fc t'
  have f2:=ya.lookup
  have f3:=ya.bind (.ref a)
  repeat (any_goals (first|assumption|wp_step))
  refine Z2 ya.plain Oe (ya.check _ _ _ _ _ _ _ _ hT (Of _ _) (en ?_))
  repeat (any_goals (first|assumption|wp_step))
 unfold getAttr? getAttrBy?
 repeat (any_goals (first|assumption|with_reducible apply Oi | wp_step))
def Oj:PySem.W.KitX K (.ref a) (.type "function") (PySem.W.KitAt a "function"):=PySem.W.kitx_of PySem.W.kitAt_ty (fun {_ _ _ _ _ s} p k=>Oh (by obtain⟨o,h1,h2⟩:=p;exact⟨o,h1,h2⟩) k)
end
def nM{α:Type}{P:α->Prop}(a:α)(z:a∈([]:List α)):P a:=nomatch z
inductive MK where
 | t (ks:List (List Key))
 | k (ks:List Key)
 | i (C:Addr) (fs:List Str)
def MK.len:MK->Nat
 | .t ks=>ks.length
 | .k ks=>ks.length
 | .i _ fs=>fs.length
inductive D where
 | aK|bl (b:Bool)|int (i:Int)|str (x:Str)|tup (ds:List D)|lst (ds:List D)
 | jZ (ks:List Str) (ds:List D)
 | exc (nm:Str)
 | ob (f:Addr) (fo:Obj) (vs:List V) (ds:List D)
 | mp (k:MK) (ds:List D)
abbrev St:=L2.St
inductive Ow where
 | s (i:Nat)|t (i:Nat)|f
 deriving DecidableEq
abbrev Wn:=Addr->Option Ow
def KL (K:PySem.W.Frag)(a:Addr)(xs:List V):Prop:=
 ∃ (o:Obj) (ao:Array Value) (n:Nat),K.lookup a=some o/\o.cls=.type "list" /\ o.dict=none/\o.data=.seq ao n/\ao.size<=sizeLine/\aY xs ao.toList
def cn.cases(h:cn K H a xs):Rd H a (.lst xs)\/KL K a xs:=h
def KL.sq(h:KL K a xs):cn K H a xs:=.inr h
def Ol (ks:List Str)(vs:List V):List (Key×V):=(ks.map fun x=>(Sum.inr x:Key)).zip vs
def kJ (fo:Obj)(c:Addr)(oc:Obj):Prop:=fo.cls=.type "function" /\ (∃ fd,fo.data=.func fd/\fd.code=.ref c)/\∃ fs q t,oc.data=.fields fs/\fs[1]? = some (.str q t)
structure AU (K:PySem.W.Frag) (C:Addr):Prop where
 cl:L2.xM K C
 ha:PySem.W.findIn K (.ref C) "__class__" = some (some (.builtin "object.__class__"))
 hn:PySem.W.specialIn K (.builtin "object.__class__") "__get__" = some (some (.builtin "getset_descriptor.__get__"))
 uK:PySem.W.takesIn K (.builtin "object.__class__")=some true
 hm:PySem.W.mroIn K C (.type "object")=some true
 no:∀ t∈(["bool","int","tuple","list","str"]:List String),PySem.W.kitOne K (.ref C) (.type t)=some false
def MK.Is (K:PySem.W.Frag):MK->List V->HO->Prop
 | .t ks,vs,x=>x=.dT (ks.zip vs)
 | .k ks,vs,x=>x=.dK (ks.zip vs)
 | .i C fs,vs,x=>∃ dx,x=.ins C dx (fs.zip vs)/\AU K C
mutual
inductive Rep (K:PySem.W.Frag) (H:Hp) (w:Wn) (o:Ow):Nat->D->V->List Addr->Prop
 | aK {q}:Rep K H w o q .aK .aK []
 | bl {q} (b:Bool):Rep K H w o q (.bl b) (.bl b) []
 | int {q} (i:Int):Rep K H w o q (.int i) (.int i) []
 | str {q} (x:Str):Rep K H w o q (.str x) (.str x) []
 | tup {q} {a:Addr} {vs:List V} {ds:List D}:H a=some (.tup vs)->af K H w o 0 ds vs []->Rep K H w o q (.tup ds) (.ref a) []
 | jZ {q} {a:Addr} {ks:List Str} {vs:List V} {ds:List D}:H a=some (.dK (Ol ks vs))->w a=none->af K H w o 0 ds vs []->Rep K H w o q (.jZ ks ds) (.ref a) []
 | exc {q} {a:Addr} {nm:Str} {ob:Obj} {u:HO}:H a=some (.d8 ob u)->XO K nm ob->(∀ xs,u ≠ .lst xs)->Rep K H w o q (.exc nm) (.ref a) []
 | ob {q} {f c:Addr} {fo oc:Obj} {u u':HO} {vs:List V} {ds:List D}:H f=some (.d8 fo u)->H c=some (.d8 oc u')->kJ fo c oc->af K H w o 0 ds vs []->Rep K H w o q (.ob f fo vs ds) (.ref f) []
 | kl {a:Addr} {vs:List V} {ds:List D}:KL K a vs->af K H w o 0 ds vs []->Rep K H w o 0 (.lst ds) (.ref a) []
 | shr {a:Addr} {vs:List V} {ds:List D}:Rd H a (.lst vs)->w a=none->af K H w o 0 ds vs []->Rep K H w o 0 (.lst ds) (.ref a) []
 | own {q} {a:Addr} {vs:List V} {ds:List D} {F:List Addr}:H a=some (.lst vs)->w a=some o->af K H w o q ds vs F->a ∉ F->Rep K H w o (q+1) (.lst ds) (.ref a) (a::F)
 | ny {a:Addr} {vs:List V} {ds:List D} {k:MK} {x:HO}:H a=some x->k.Is K vs x->w a=none->k.len=ds.length->af K H w o 0 ds vs []->Rep K H w o 0 (.mp k ds) (.ref a) []
 | kK {q} {a:Addr} {vs:List V} {ds:List D} {k:MK} {x:HO}:H a=some x->k.Is K vs x->w a=some o->k.len=ds.length->af K H w o 0 ds vs []->Rep K H w o (q+1) (.mp k ds) (.ref a) [a]
inductive af (K:PySem.W.Frag) (H:Hp) (w:Wn) (o:Ow):Nat->List D->List V->List Addr->Prop
 | nil {q}:af K H w o q [] [] []
 | cons {q} {d:D} {v:V} {ds:List D} {vs:List V} {F G:List Addr}:Rep K H w o q d v F->af K H w o q ds vs G->(∀ a∈F,a ∉ G)->af K H w o q (d::ds) (v::vs) (F++G)
end
def AV:HO->Bool
 | .lst _=>true
 | .dK _=>true
 | .dT _=>true
 | .ins _ _ _=>true
 | _=>false
inductive OX where
 | l (vs:List V)|t (ai:List (List Key×V))|k (ai:List (Key×V))|i (C dx:Addr) (fs:List (Str×V))
def OX.ho:OX->HO
 | .l vs=>.lst vs
 | .t ai=>.dT ai
 | .k ai=>.dK ai
 | .i C dx fs=>.ins C dx fs
def OX.is(v:OX):AV v.ho=true:=by cases v<;>rfl
def MK.ox{k:MK}(h:k.Is K vs x):∃ v:OX,x=v.ho:=by
 cases k with
 | t ks=>exact⟨.t _,h⟩
 | k ks=>exact⟨.k _,h⟩
 | i C fs=>obtain⟨dx,h,_⟩:=h;exact⟨.i _ _ _,h⟩
def oz:HO->Bool
 | .jd _=>true
 | _=>false
def Sm (x:HO)(y:Option HO):Prop:=match x with
 | .jd _=>∃ ps,y=some (.jd ps)
 | x=>y=some x
def sm(h:y=some x):Sm x y:=by cases x<;>first|exact h|exact⟨_,h⟩
def Sm.is(h:Sm x y):∃ z,y=some z/\oz z=oz x:=by
 cases x<;>first|exact⟨_,h,rfl⟩|(obtain⟨ps,e⟩:=h;exact⟨_,e,rfl⟩)
def Sm.eq(h:Sm x y)(n:oz x=false):y=some x:=by cases x<;>first|exact h|cases n
def tL:List Str:=["turned","chain_ladder","flat_ladder","paired","height_of","_law_high"]
structure TB (K:PySem.W.Frag) (H:Hp):Prop where
 tr:∀ P ps,H P=some (.jd ps)->PySem.TriplesOk ps.toList
 cd:∀ P ps,H P=some (.jd ps)->∀ pos cv,PySem.codeAmong pos ps.toList=some cv->∃ c oc u vs q t,cv=.ref c/\H c=some (.d8 oc u)/\oc.data=.fields vs/\vs[1]? = some (.str q t)/\∀ xs,u ≠ .lst xs
 is:∀ x∈tL,∀ c P,PySem.W.tabIn K x=some (c,P)->∃ ps,H P=some (.jd ps)
structure WL (K:PySem.W.Frag) (w:Wn) (H:Hp):Prop where
 own:∀ a o,w a=some o->∃ vs:OX,H a=some vs.ho
 tb:TB K H
instance {K:PySem.W.Frag} {w:Wn} {H:Hp}:CoeFun (WL K w H) (fun _=>∀ a o,w a=some o->∃ vs:OX,H a=some vs.ho):=⟨WL.own⟩
def TB.upd(t:TB K H)(hx:oz x=false)(hp:H p=none\/∃ vs:OX,H p=some vs.ho):TB K (L2.upd H p x):=by
 have ne:∀ a y,H a=some y->AV y=false->a≠p:=fun a y e h z=>by
  subst z
  rcases hp with q|⟨vs,q⟩
  ·rw[e]at q;cases q
  ·rw[e]at q
   rw[QC q,vs.is]at h
   cases h
 refine⟨fun P ps e=>?_,fun P ps e pos cv hc=>?_,fun x hx c P hP=>by
  obtain⟨ps,e⟩:=t.is x hx c P hP
  exact⟨ps,by rw[a0 (ne P _ e rfl)];exact e⟩⟩
 ·by_cases hP:P=p
  ·subst hP;rw[fO]at e;cases e;cases hx
  ·rw[a0 hP]at e;exact t.tr P ps e
 ·by_cases hP:P=p
  ·subst hP;rw[fO]at e;cases e;cases hx
  ·rw[a0 hP]at e
   obtain⟨c,oc,u,vs,q,tt,h1,h2,h3,h4,h5⟩:=t.cd P ps e pos cv hc
   exact⟨c,oc,u,vs,q,tt,h1,by rw[a0 (ne c _ h2 rfl)];exact h2,h3,h4,h5⟩
def c_ (H:Hp)(w:Wn)(H':Hp)(w':Wn):Prop:=∀ a x,H a=some x->w a=none->Sm x (H' a)/\w' a=none
def c_.trans{w w1 w2:Wn}(a:c_ H w H1 w1)(b:c_ H1 w1 H2 w2):c_ H w H2 w2:=fun c x h n=>by
 obtain⟨s1,n1⟩:=a c x h n
 cases ht:oz x with
 | false=>exact b c x (s1.eq ht) n1
 | true=>
  obtain⟨y,e,hy⟩:=s1.is
  obtain⟨s2,n2⟩:=b c y e n1
  refine⟨?_,n2⟩
  rw[ht]at hy
  cases x with
  | jd ps=>
   cases y with
   | jd ps'=>exact s2
   | _=>cases hy
  | _=>cases ht
def WL.tM{w:Wn}(wl:WL K w H)(e:H a=some x)(h:AV x=false):w a=none:=by
 cases q:w a with
 | none=>rfl
 | some o=>
  obtain⟨vs,e'⟩:=wl a o q
  rw[e]at e'
  rw[QC e',vs.is]at h
  cases h
def dh.go{w w':Wn}(wl:WL K w H)(st:c_ H w H' w')(h:dh K H a vs):dh K H' a vs:=by
 rcases h with(h|⟨o,h⟩)|h
 ·exact .inl (.inl (st a _ h (wl.tM h rfl)).1)
 ·exact .inl (.inr ⟨o,(st a _ h (wl.tM h rfl)).1⟩)
 ·exact .inr h
def yb.go{w w':Wn}(st:c_ H w H' w')(n:w a=none)(h:Rd H a (.lst vs)):Rd H' a (.lst vs)/\w' a=none:=by
 rcases h with h|⟨o,h⟩
 ·exact⟨.inl (st a _ h n).1,(st a _ h n).2⟩
 ·exact⟨.inr ⟨o,(st a _ h n).1⟩,(st a _ h n).2⟩
def Rep.go{w w':Wn}{o o':Ow}(wl:WL K w H)(st:c_ H w H' w'):∀ {q:Nat} {d:D} {v:V} {F:List Addr},Rep K H w o q d v F->(∀ a∈F,H' a=H a/\w' a=some o')->Rep K H' w' o' q d v F:=by
 intro q d v F r
 refine Rep.rec (motive_1:=fun q d v F _=>(∀ a∈F,H' a=H a/\w' a=some o')->Rep K H' w' o' q d v F) (motive_2:=fun q ds vs F _=>(∀ a∈F,H' a=H a/\w' a=some o')->af K H' w' o' q ds vs F) ?_ ?_ ?_ ?_ ?_ ?_ ?_ ?_ ?_ ?_ ?_ ?_ ?_ ?_ ?_ r
 ·intro q _;exact .aK
 ·intro q b _;exact .bl b
 ·intro q i _;exact .int i
 ·intro q x _;exact .str x
 ·intro q a vs ds h r ih _;exact .tup (st _ _ h (wl.tM h rfl)).1 (ih nM)
 ·intro q a ks vs ds h n r ih _;exact .jZ (st _ _ h n).1 (st _ _ h n).2 (ih nM)
 ·intro q a nm ob u h x n _;exact .exc (st _ _ h (wl.tM h rfl)).1 x n
 ·intro q f c fo oc u u' vs ds h1 h2 x r ih _;exact .ob (st _ _ h1 (wl.tM h1 rfl)).1 (st _ _ h2 (wl.tM h2 rfl)).1 x (ih nM)
 ·intro a vs ds h r ih _;exact .kl h (ih nM)
 ·intro a vs ds h n r ih _;exact .shr (yb.go st n h).1 (yb.go st n h).2 (ih nM)
 ·intro q a vs ds F h e r ne ih k;exact .own ((k _ Qk).1.trans h) (k _ Qk).2 (ih fun a m=>k a (Qh _ m)) ne
 ·intro a vs ds k x h i n l r ih _
  have nt:oz x=false:=by
   obtain⟨v,rfl⟩:=MK.ox i
   cases v<;>rfl
  exact .ny ((st _ _ h n).1.eq nt) i (st _ _ h n).2 l (ih nM)
 ·intro q a vs ds k x h i e l r ih kk;exact .kK ((kk _ Qk).1.trans h) i (kk _ Qk).2 l (ih nM)
 ·intro q _;exact .nil
 ·intro q d v ds vs F G r s ne l0 l3 k;exact .cons (l0 fun a m=>k a (QA _ m)) (l3 fun a m=>k a (Qq _ m)) ne
def af.go{w w':Wn}{o o':Ow}(wl:WL K w H)(st:c_ H w H' w'):∀ {q:Nat} {ds:List D} {vs:List V} {F:List Addr},af K H w o q ds vs F->(∀ a∈F,H' a=H a/\w' a=some o')->af K H' w' o' q ds vs F
 | _,_,_,_,.nil,_=>.nil
 | _,_,_,_,.cons r s ne,k=>.cons (Rep.go wl st r fun a m=>k a (QA _ m)) (af.go wl st s fun a m=>k a (Qq _ m)) ne
def Rep.freeze{w w':Wn}{o o':Ow}(n:∀ a,w a=none->w' a=none):∀ {q:Nat} {d:D} {v:V} {F:List Addr},Rep K H w o q d v F->(∀ a∈F,w' a=none)->Rep K H w' o' 0 d v []:=by
 intro q d v F r
 refine Rep.rec (motive_1:=fun q d v F _=>(∀ a∈F,w' a=none)->Rep K H w' o' 0 d v []) (motive_2:=fun q ds vs F _=>(∀ a∈F,w' a=none)->af K H w' o' 0 ds vs []) ?_ ?_ ?_ ?_ ?_ ?_ ?_ ?_ ?_ ?_ ?_ ?_ ?_ ?_ ?_ r
 ·intro q _;exact .aK
 ·intro q b _;exact .bl b
 ·intro q i _;exact .int i
 ·intro q x _;exact .str x
 ·intro q a vs ds h r ih _;exact .tup h (ih nM)
 ·intro q a ks vs ds h e r ih _;exact .jZ h (n _ e) (ih nM)
 ·intro q a nm ob u h x n _;exact .exc h x n
 ·intro q f c fo oc u u' vs ds h1 h2 x r ih _;exact .ob h1 h2 x (ih nM)
 ·intro a vs ds h r ih _;exact .kl h (ih nM)
 ·intro a vs ds h e r ih _;exact .shr h (n _ e) (ih nM)
 ·intro q a vs ds F h e r ne ih k;exact .shr (Rd.of h) (k _ Qk) (ih fun a m=>k a (Qh _ m))
 ·intro a vs ds k x h i e l r ih _;exact .ny h i (n _ e) l (ih nM)
 ·intro q a vs ds k x h i e l r ih kk;exact .ny h i (kk _ Qk) l (ih nM)
 ·intro q _;exact .nil
 ·intro q d v ds vs F G r s ne l0 l3 k;exact .cons (F:=[]) (G:=[]) (l0 fun a m=>k a (QA _ m)) (l3 fun a m=>k a (Qq _ m)) nM
def af.freeze{w w':Wn}{o o':Ow}(n:∀ a,w a=none->w' a=none):∀ {q:Nat} {ds:List D} {vs:List V} {F:List Addr},af K H w o q ds vs F->(∀ a∈F,w' a=none)->af K H w' o' 0 ds vs []
 | _,_,_,_,.nil,_=>.nil
 | _,_,_,_,.cons r s ne,k=>.cons (F:=[]) (G:=[]) (Rep.freeze n r fun a m=>k a (QA _ m)) (af.freeze n s fun a m=>k a (Qq _ m)) nM
def Rep.aC{w:Wn}{o:Ow}:∀ {q:Nat} {d:D} {v:V} {F:List Addr},Rep K H w o q d v F->∀ a∈F,w a=some o:=by
 intro q d v F r
 refine Rep.rec (motive_1:=fun q d v F _=>∀ a∈F,w a=some o) (motive_2:=fun q ds vs F _=>∀ a∈F,w a=some o) ?_ ?_ ?_ ?_ ?_ ?_ ?_ ?_ ?_ ?_ ?_ ?_ ?_ ?_ ?_ r
 ·intro q a m;exact(QG m).elim
 ·intro q b a m;exact(QG m).elim
 ·intro q i a m;exact(QG m).elim
 ·intro q x a m;exact(QG m).elim
 ·intro q a vs ds h r ih b m;exact(QG m).elim
 ·intro q a ks vs ds h e r ih b m;exact(QG m).elim
 ·intro q a nm ob u h x n b m;exact(QG m).elim
 ·intro q f c fo oc u u' vs ds h1 h2 x r ih b m;exact(QG m).elim
 ·intro a vs ds h r ih b m;exact(QG m).elim
 ·intro a vs ds h e r ih b m;exact(QG m).elim
 ·intro q a vs ds F h e r ne ih b m
  rcases Qt.mp m with z|z
  ·rw[z];exact e
  ·exact ih b z
 ·intro a vs ds k x h i e l r ih b m;exact(QG m).elim
 ·intro q a vs ds k x h i e l r ih b m
  rw[Qv.mp m];exact e
 ·intro q a m;exact(QG m).elim
 ·intro q d v ds vs F G r s ne l0 l3 a m
  rcases QF.mp m with z|z
  ·exact l0 a z
  ·exact l3 a z
def af.aC{w:Wn}{o:Ow}:∀ {q:Nat} {ds:List D} {vs:List V} {F:List Addr},af K H w o q ds vs F->∀ a∈F,w a=some o
 | _,_,_,_,.nil,a,m=>(QG m).elim
 | _,_,_,_,.cons r s ne,a,m=>(QF.mp m).elim (r.aC a) (s.aC a)
def D.cK:D->Bool
 | .lst _=>true
 | .mp _ _=>true
 | _=>false
@[simp] theorem D.yc:D.cK .aK=false:=rfl
@[simp] theorem D.AW(b:Bool):D.cK (.bl b)=false:=rfl
@[simp] theorem D.yd(i:Int):D.cK (.int i)=false:=rfl
@[simp] theorem D.ye(x:Str):D.cK (.str x)=false:=rfl
@[simp] theorem D.yf(ds:List D):D.cK (.tup ds)=false:=rfl
@[simp] theorem D.yg(ks:List Str)(ds:List D):D.cK (.jZ ks ds)=false:=rfl
@[simp] theorem D.yh(nm:Str):D.cK (.exc nm)=false:=rfl
@[simp] theorem D.AX(f:Addr)(fo:Obj)(vs:List V)(ds:List D):D.cK (.ob f fo vs ds)=false:=rfl
@[simp] theorem D.AY(k:MK)(ds:List D):D.cK (.mp k ds)=true:=rfl
@[simp] theorem D.yi(ds:List D):D.cK (.lst ds)=true:=rfl
def Rep.eQ{w:Wn}{o:Ow}{q:Nat}{d:D}(r:Rep K H w o q d v F)(h:d.cK=false):F=[]/\∀ q',Rep K H w o q' d v []:=by
 cases r with
 | aK=>exact⟨rfl,fun _=>.aK⟩
 | bl b=>exact⟨rfl,fun _=>.bl b⟩
 | int i=>exact⟨rfl,fun _=>.int i⟩
 | str x=>exact⟨rfl,fun _=>.str x⟩
 | tup h' r'=>exact⟨rfl,fun _=>.tup h' r'⟩
 | jZ h' e' r'=>exact⟨rfl,fun _=>.jZ h' e' r'⟩
 | exc h' x n=>exact⟨rfl,fun _=>.exc h' x n⟩
 | ob h1 h2 x r=>exact⟨rfl,fun _=>.ob h1 h2 x r⟩
 | kl=>cases h
 | shr=>cases h
 | own=>cases h
 | ny=>cases h
 | kK=>cases h
def Rep.zero{w:Wn}{o:Ow}{d:D}(r:Rep K H w o 0 d v F):F=[]:=by
 cases r<;>rfl
def af.zero{w:Wn}{o:Ow}:∀ {ds:List D} {vs:List V} {F:List Addr},af K H w o 0 ds vs F->F=[]
 | _,_,_,.nil=>rfl
 | _,_,_,.cons r s _=>by rw[r.zero,s.zero];rfl
def af.length{w:Wn}{o:Ow}{q:Nat}:∀ {ds:List D} {vs:List V} {F:List Addr},af K H w o q ds vs F->ds.length=vs.length
 | _,_,_,.nil=>rfl
 | _,_,_,.cons _ s _=>by simp[s.length]
def Rep.any{w:Wn}{o o':Ow}{q:Nat}{d:D}(r:Rep K H w o q d v [])(wl:WL K w H):Rep K H w o' q d v []:=
 Rep.go wl (fun a x h n=>⟨sm h,n⟩) r nM
def af.any{w:Wn}{o o':Ow}{q:Nat}{d:List D}{v:List V}(r:af K H w o q d v [])(wl:WL K w H):af K H w o' q d v []:=
 af.go wl (fun a x h n=>⟨sm h,n⟩) r nM
def af.get{w:Wn}{o:Ow}:∀ {ds:List D} {vs:List V} {i:Nat} {d:D},af K H w o 0 ds vs []->ds[i]? = some d->∃ v,vs[i]? = some v/\Rep K H w o 0 d v []
 | ds,vs,i,d,r,e=>by
  generalize hF:([]:List Addr)=F at r
  cases r with
  | nil=>simp at e
  | @cons _ d' v' cj fg F' G' r s _=>
   have h1:F'=[]:=r.zero
   have h2:G'=[]:=s.zero
   subst h1 h2
   cases i with
   | zero=>simp at e;subst e;exact⟨v',rfl,r⟩
   | succ j=>
    obtain⟨v,h1,h2⟩:=af.get (i:=j) (d:=d) s (by simpa using e)
    exact⟨v,by simpa using h1,h2⟩
def af.snoc{w:Wn}{o:Ow}{q:Nat}{d:D}{G:List Addr}(r':Rep K H w o q d v G):∀ {ds:List D} {vs:List V} {F:List Addr},af K H w o q ds vs F->(∀ a∈F,a ∉ G)->af K H w o q (ds++[d]) (vs++[v]) (F++G)
 | _,_,_,.nil,_=>by
  have:af K H w o q [d] [v] (G++[]):=.cons r' .nil (fun a _ z=>nomatch z)
  simpa using this
 | _,_,_,.cons (F:=F) (G:=F') r s ne,k=>by
  rw[ZH]
  refine .cons r (af.snoc r' s fun a m=>k a (Qq _ m)) fun a m z=>?_
  rcases QF.mp z with z|z
  ·exact ne a m z
  ·exact k a (QA _ m) z
abbrev OD:=Option (D×Nat)
abbrev aR:=List (OD)
structure Good (K:PySem.W.Frag) (ρ:aR) (σ:St) (H:Hp) (w:Wn) (t:Nat):Prop where
 wl:WL K w H
 ws:∀ a i,w a=some (.s i)->i<σ.length
 wt:∀ a i,w a=some (.t i)->i<t
 len:ρ.length=σ.length
 slot:∀ (i:Nat) d q,ρ[i]? = some (some (d,q))->∃ v F,σ[i]? = some (some v)/\Rep K H w (.s i) q d v F
structure Go (H:Hp) (w:Wn) (H':Hp) (w':Wn):Prop where
 bu:c_ H w H' w'
 keep:∀ a o,w a=some o->(∀ i,o ≠ .s i)->H' a=H a/\w' a=some o
def Go.refl{w:Wn}:Go H w H w:=⟨fun a x h n=>⟨sm h,n⟩,fun a o e _=>⟨rfl,e⟩⟩
def Go.trans{w w1 w2:Wn}(a:Go H w H1 w1)(b:Go H1 w1 H2 w2):Go H w H2 w2:=
 ⟨a.bu.trans b.bu,fun c o e h=>by
   obtain⟨h1,w1⟩:=a.keep c o e h
   obtain⟨h2,w2⟩:=b.keep c o w1 h
   exact⟨h2.trans h1,w2⟩⟩
def Rep.gone{w w':Wn}{q:Nat}{d:D}(r:Rep K H w (.t i) q d v F)(wl:WL K w H)(g:Go H w H' w'):Rep K H' w' (.t i) q d v F:=
 Rep.go wl g.bu r fun a m=>g.keep a _ (r.aC a m) (fun _ z=>nomatch z)
def af.gone{w w':Wn}{q:Nat}{d:List D}{v:List V}(r:af K H w (.t i) q d v F)(wl:WL K w H)(g:Go H w H' w'):af K H' w' (.t i) q d v F:=
 af.go wl g.bu r fun a m=>g.keep a _ (r.aC a m) (fun _ z=>nomatch z)
def bV (t:Nat)(w:Wn):Wn:=fun a=>match w a with
 | some (.t i)=>if t<=i then none else some (.t i)
 | x=>x
def yj{t:Nat}{w:Wn}(h:w a=none):bV t w a=none:=by unfold bV;rw[h]
def Om{t:Nat}{w:Wn}(h:w a=some (.s i)):bV t w a=some (.s i):=by unfold bV;rw[h]
def Oo{t:Nat}{w:Wn}(h:w a=some .f):bV t w a=some .f:=by unfold bV;rw[h]
def Oq{t:Nat}{w:Wn}(h:w a=some (.t i))(hi:i<t):bV t w a=some (.t i):=by unfold bV;rw[h];exact Qj (by omega)
def Ot{t:Nat}{w:Wn}(h:w a=some (.t i))(hi:t<=i):bV t w a=none:=by unfold bV;rw[h];exact Qi hi
def AZ{t:Nat}{w:Wn}{o:Ow}(h:bV t w a=some o):w a=some o/\∀ i,o=.t i->i<t:=by
 unfold bV at h
 cases e:w a with
 | none=>rw[e]at h;cases h
 | some o'=>
  rw[e]at h
  cases o' with
  | s i=>cases h;exact⟨rfl,fun i z=>nomatch z⟩
  | f=>cases h;exact⟨rfl,fun i z=>nomatch z⟩
  | t i=>
   dsimp only at h
   split at h
   ·cases h
   ·cases h;exact⟨rfl,fun j z=>by cases z;omega⟩
def Good.drop{ρ:aR}{σ:St}{w:Wn}{t:Nat}(g:Good K ρ σ H w t):Good K ρ σ H (bV t' w) t':=by
 refine⟨⟨fun a o e=>g.wl a o (AZ e).1,g.wl.tb⟩,fun a i e=>g.ws a i (AZ e).1,fun a i e=>(AZ e).2 i rfl,g.len,fun i d q e=>?_⟩
 obtain⟨v,F,h1,h2⟩:=g.slot i d q e
 exact⟨v,F,h1,Rep.go g.wl (fun a x h n=>⟨sm h,yj n⟩) h2 fun a m=>⟨rfl,Om (h2.aC a m)⟩⟩
def Go.drop{w w':Wn}{t:Nat}(g:Go H w H' w')(wt:∀ a i,w a=some (.t i)->i<t):Go H w H' (bV t w'):=
 ⟨fun a x h n=>⟨(g.bu a x h n).1,yj (g.bu a x h n).2⟩,fun a o e h=>by
   obtain⟨h1,h2⟩:=g.keep a o e h
   refine⟨h1,?_⟩
   cases o with
   | s i=>exact absurd rfl (h i)
   | f=>exact Oo h2
   | t i=>exact Oq h2 (wt a i e)⟩
def Rep.drop{w:Wn}{q:Nat}{d:D}{t:Nat}{o:Ow}(r:Rep K H w (.t t) q d v F)(h:t'<=t):Rep K H (bV t' w) o 0 d v []:=
 Rep.freeze (fun a n=>yj n) r fun a m=>Ot (r.aC a m) h
abbrev aB:=aR->Option (D×Nat×aR)
def tD (K:PySem.W.Frag)(f:aB):TE:=fun σ H Q=>∃ ρ w t r q ρ',Good K ρ σ H w t/\f ρ=some (r,q,ρ')/\∀ v H' w' F,Good K ρ' σ H' w' (t+1)->Go H w H' w'->Rep K H' w' (.t t) q r v F->Q v H'
def PE.imp{e:Expr}{t t':TE}(h:PE X e t)(i:∀ σ H Q,t' σ H Q->t σ H Q):PE X e t':=fun pins s σ H Q I q=>h pins s σ H Q I (i σ H Q q)
abbrev PD (X:Cx)(e:Expr)(f:aB):Prop:=PE X e (tD X.K f)
structure QD (X:Cx) (e:Expr) (f:aB):Prop where mk::o:PD X e f
def Good.up{ρ:aR}{σ:St}{w:Wn}{t:Nat}(g:Good K ρ σ H w t):Good K ρ σ H w (t+1):=⟨g.wl,g.ws,fun a i e=>Zi (g.wt a i e),g.len,g.slot⟩
@[simp] def h_ (d:D):Nat:=if d.cK then 0 else 9
def Rep.jY{w:Wn}{o:Ow}{d:D}(r:Rep K H w o 0 d v []):Rep K H w o (h_ d) d v []:=by
 unfold h_
 cases e:d.cK with
 | true=>exact r
 | false=>exact(r.eQ e).2 9
section
variable {K:PySem.W.Frag}{σ:St}{H:Hp}{ρ ρ' ρ1 ρ2:aR}{w:Wn}{t:Nat}{Q:VK}
def qV{fa fb:aB}{R:V->V->Hp->Prop}(g:Good K ρ σ H w t){d1 d2:D}{q1 q2:Nat}(e1:fa ρ=some (d1,q1,ρ1))(e2:fb ρ1=some (d2,q2,ρ2))
  (k:∀ x y H2 w2 F1 F2,Good K ρ2 σ H2 w2 (t+2)->Go H w H2 w2->Rep K H2 w2 (.t t) q1 d1 x F1->Rep K H2 w2 (.t (t+1)) q2 d2 y F2->R x y H2) :
  tD K fa σ H fun x H1=>tD K fb σ H1 fun y H2=>R x y H2:=
 ⟨ρ,w,t,d1,q1,ρ1,g,e1,fun x H1 w1 F1 g1 aD r1=>⟨ρ1,w1,t+1,d2,q2,ρ2,g1,e2,fun y H2 w2 F2 g2 bg r2=>k x y H2 w2 F1 F2 g2 (aD.trans bg) (r1.gone g1.wl bg) r2⟩⟩
def oA{r:D}{q:Nat}{w2:Wn}{t2:Nat}(k:∀ v H' w' F,Good K ρ' σ H' w' (t+1)->Go H w H' w'->Rep K H' w' (.t t) q r v F->Q v H')(g:Good K ρ σ H w t)(g2:Good K ρ' σ H2 w2 t2)(go:Go H w H2 w2)
  (rr:Rep K H2 (bV t w2) (.t t) q r v []):Q v H2:=k v H2 (bV t w2) [] g2.drop.up (go.drop g.wt) rr
def j0 (p:Addr)(o:Ow)(w:Wn):Wn:=fun a=>if a=p then some o else w a
def oB{o:Ow}{w:Wn}:j0 p o w p=some o:=Qi rfl
def ia{o:Ow}{w:Wn}(h:a≠p):j0 p o w a=w a:=Qj h
def l7{ds:List D}{w1:Wn}(g:Good K ρ σ H1 w1 t)(hp:H1 p=none)(r:af K H1 w1 .f 0 ds vs []) :
  Good K ρ σ (upd H1 p (.lst vs)) (j0 p (.t t) w1) (t+1)/\Go H1 w1 (upd H1 p (.lst vs)) (j0 p (.t t) w1)/\Rep K (upd H1 p (.lst vs)) (j0 p (.t t) w1) (.t t) 1 (.lst ds) (.ref p) [p]:=by
 have ne:∀ a x,H1 a=some x->a≠p:=fun a x e=>iC e hp
 have nw:∀ a o,w1 a=some o->a≠p:=fun a o e=>by obtain⟨vs,q⟩:=g.wl a o e;exact ne a _ q
 have st:c_ H1 w1 (upd H1 p (.lst vs)) (j0 p (.t t) w1):=fun a x e n=>⟨sm (by rw[a0 (ne a x e)];exact e),by rw[ia (ne a x e)];exact n⟩
 refine⟨⟨⟨fun a o e=>?_,g.wl.tb.upd rfl (.inl hp)⟩,fun a i e=>?_,fun a i e=>?_,g.len,fun i d q e=>?_⟩,⟨st,fun a o e _=>⟨a0 (nw a o e),(ia (nw a o e)).trans e⟩⟩,?_⟩
 ·by_cases h:a=p
  ·subst h;exact⟨.l vs,fO⟩
  ·rw[ia h]at e
   obtain⟨us,q⟩:=g.wl a o e
   exact⟨us,by rw[a0 h];exact q⟩
 ·by_cases h:a=p
  ·subst h;rw[oB]at e;cases e
  ·rw[ia h]at e;exact g.ws a i e
 ·by_cases h:a=p
  ·subst h;rw[oB]at e;cases e;exact Zn _
  ·rw[ia h]at e;exact Zi (g.wt a i e)
 ·obtain⟨v,F,h1,h2⟩:=g.slot i d q e
  exact⟨v,F,h1,Rep.go g.wl st h2 fun a m=>⟨a0 (nw a _ (h2.aC a m)),(ia (nw a _ (h2.aC a m))).trans (h2.aC a m)⟩⟩
 ·exact .own fO oB (af.go g.wl st r nM) (fun z=>nomatch z)
def yk{ds:List D}{w1:Wn}(g:Good K ρ σ H1 w1 t)(hp:H1 p=none)(r:af K H1 w1 .f 0 ds vs []) :
  Good K ρ σ (upd H1 p (.tup vs)) w1 (t+1)/\Go H1 w1 (upd H1 p (.tup vs)) w1/\Rep K (upd H1 p (.tup vs)) w1 (.t t) 9 (.tup ds) (.ref p) []:=by
 have ne:∀ a x,H1 a=some x->a≠p:=fun a x e=>iC e hp
 have nw:∀ a o,w1 a=some o->a≠p:=fun a o e=>by obtain⟨vs,q⟩:=g.wl a o e;exact ne a _ q
 have st:c_ H1 w1 (upd H1 p (.tup vs)) w1:=fun a x e n=>⟨sm (by rw[a0 (ne a x e)];exact e),n⟩
 refine⟨⟨⟨fun a o e=>?_,g.wl.tb.upd rfl (.inl hp)⟩,g.ws,fun a i e=>Zi (g.wt a i e),g.len,fun i d q e=>?_⟩,⟨st,fun a o e _=>⟨a0 (nw a o e),e⟩⟩,?_⟩
 ·obtain⟨us,q⟩:=g.wl a o e
  exact⟨us,by rw[a0 (nw a o e)];exact q⟩
 ·obtain⟨v,F,h1,h2⟩:=g.slot i d q e
  exact⟨v,F,h1,Rep.go g.wl st h2 fun a m=>⟨a0 (nw a _ (h2.aC a m)),h2.aC a m⟩⟩
 ·exact .tup fO (af.go g.wl st r nM)
end
@[simp] def eC (d:D):aB:=fun ρ=>some (d,9,ρ)
@[simp] def aa (i:Nat):aB:=fun ρ=>match ρ[i]? with
 | some (some (d,q))=>if d.cK=false then some (d,9,ρ)else if q=0 then some (d,0,ρ)else some (d,0,ρ.set i (some (d,0)))
 | _=>none
section
variable {X:Cx}{a b c e:Expr}{fa fb fc f:aB}{pos:Pos}
def yl{d:D}(h:PE X e (tC v))(r:∀ K H w o q,Rep K H w o q d v []):PD X e (eC d):=PE.imp h fun σ H Q ag=>by
 obtain⟨ρ,w,t,r',q,ρ',g,ee,k⟩:=ag
 cases ee
 exact k v H w [] g.up Go.refl (r _ _ _ _ _)
def a_{i j}:QD X (.Constant (.int i) j pos) (eC (.int i)):=⟨yl Ln fun _ _ _ _ _=>.int i⟩
def oC{i j}:QD X (.Constant (.bool i) j pos) (eC (.bl i)):=⟨yl Lo fun _ _ _ _ _=>.bl i⟩
def ym{j}:QD X (.Constant .none j pos) (eC .aK):=⟨yl Lp fun _ _ _ _ _=>.aK⟩
def l8{x j}:QD X (.Constant (.str x) j pos) (eC (.str x)):=⟨yl Ee fun _ _ _ _ _=>.str x⟩
def ib (i:Nat)(w:Wn):Wn:=fun a=>if w a=some (.s i)then none else w a
def vd{w:Wn}{a:Addr}(h:w a=none):ib i w a=none:=by unfold ib;rw[h];rfl
def Fd{w:Wn}{a:Addr}(h:w a=some (.s i)):ib i w a=none:=by unfold ib;rw[Qi h]
def tN{w:Wn}{a:Addr}{o:Ow}(h:w a=some o)(n:o ≠ .s i):ib i w a=some o:=by unfold ib;rw[Qj (by rw[h];exact fun z=>n (QC z))];exact h
def oD{w:Wn}{a:Addr}{o:Ow}(h:ib i w a=some o):w a=some o/\o ≠ .s i:=by
 unfold ib at h
 split at h
 ·cases h
 ·rename_i n;exact⟨h,fun z=>n (by rw[h,z])⟩
def Good.give{ρ:aR}{σ:St}{w:Wn}{t:Nat}{d:D}{q:Nat}(g:Good K ρ σ H w t)(e:ρ[i]? = some (some (d,q))):Good K (ρ.set i (some (d,0))) σ H (ib i w) t/\Go H w H (ib i w):=by
 have st:c_ H w H (ib i w):=fun a x h n=>⟨sm h,vd n⟩
 refine⟨⟨⟨fun a o h=>g.wl a o (oD h).1,g.wl.tb⟩,fun a j h=>g.ws a j (oD h).1,fun a j h=>g.wt a j (oD h).1,by rw[QN];exact g.len,fun j d' q' e'=>?_⟩,⟨st,fun a o h n=>⟨rfl,tN h (n i)⟩⟩⟩
 by_cases hj:i=j
 ·subst hj
  rw[QL (Qr.mp e).1]at e'
  cases e'
  obtain⟨v,F,h1,h2⟩:=g.slot i d q e
  exact⟨v,[],h1,Rep.freeze (fun a n=>vd n) h2 fun a m=>Fd (h2.aC a m)⟩
 ·rw[QM hj]at e'
  obtain⟨v,F,h1,h2⟩:=g.slot j d' q' e'
  exact⟨v,F,h1,Rep.go g.wl st h2 fun a m=>⟨rfl,tN (h2.aC a m) (fun z=>hj (by cases z;rfl))⟩⟩
def cy{x:Str}(h:QE X (.Name x pos) (fK i)):QD X (.Name x pos) (aa i):=⟨have h:=h.o;PE.imp h fun σ H Q ag=>by
 obtain⟨ρ,w,t,r',q,ρ',g,ee,k⟩:=ag
 unfold aa at ee
 split at ee
 next d q0 e0=>
  obtain⟨v,F,h1,h2⟩:=g.slot i d q0 e0
  refine⟨v,h1,?_⟩
  split at ee
  next hl=>
   cases ee
   obtain⟨hF,hr⟩:=h2.eQ hl
   exact k v H w [] g.up Go.refl ((hr 9).any g.wl)
  ·split at ee
   next hq=>
    subst hq
    cases ee
    have:=h2.zero
    subst this
    exact k v H w [] g.up Go.refl (h2.any g.wl)
   ·cases ee
    obtain⟨g',fQ⟩:=g.give e0
    refine k v H (ib i w) [] g'.up fQ ?_
    exact Rep.freeze (fun a n=>vd n) h2 fun a m=>Fd (h2.aC a m)
 ·cases ee⟩
def kL:D->Option V
 | .aK=>some .aK
 | .bl b=>some (.bl b)
 | .int i=>some (.int i)
 | .str x=>some (.str x)
 | _=>none
def yn{w:Wn}{o:Ow}{q:Nat}{d:D}(h:kL d=some v):Rep K H w o q d v []:=by
 cases d<;>cases h
 ·exact .aK
 ·exact .bl _
 ·exact .int _
 ·exact .str _
@[simp] def e2 (g:D->D->Option D)(fa fb:aB):aB:=fun ρ=>match fa ρ with
 | some (x,_,ρ1)=>match fb ρ1 with
  | some (y,_,ρ2)=>match g x y with
   | some d=>some (d,9,ρ2)
   | none=>none
  | none=>none
 | none=>none
def Ou{g:D->D->Option D}{ρ ρ':aR}{r:D}{q:Nat}(h:e2 g fa fb ρ=some (r,q,ρ')):∃ x q1 ρ1 y q2,fa ρ=some (x,q1,ρ1)/\fb ρ1=some (y,q2,ρ')/\g x y=some r/\q=9:=by
 unfold e2 at h
 split at h
 next x q1 ρ1 h1=>
  split at h
  next y q2 ρ2 h2=>
   split at h
   next d hd=>
    cases h
    exact⟨x,q1,ρ1,y,q2,h1,h2,hd,rfl⟩
   ·cases h
  ·cases h
 ·cases h
def tO{g:D->D->Option D}(hg:∀ x y d,g x y=some d->∃ v,kL d=some v/\∀ H w o o' q q' u u' F F',Rep K H w o q x u F->Rep K H w o' q' y u' F'->WL K w H->∀ Q:VK,Q v H->r u u' H Q) :
  ∀ σ H Q,tD K (e2 g fa fb) σ H Q->kH r (tD K fa) (tD K fb) σ H Q:=fun σ H Q ag=>by
 obtain⟨ρ,w,t,r',q,ρ',gd,ee,k⟩:=ag
 obtain⟨x,q1,ρ1,y,q2,h1,h2,h3,rfl⟩:=Ou ee
 obtain⟨v,hv,hr⟩:=hg x y r' h3
 exact qV gd h1 h2 fun u u' H2 w2 F1 F2 g2 go r1 r2=>hr H2 w2 _ _ _ _ u u' F1 F2 r1 r2 g2.wl Q (oA k gd g2 go (yn hv))
@[simp] def gI (f:Int->Int->Option D):D->D->Option D
 | .int i,.int j=>f i j
 | _,_=>none
def pI{f:Int->Int->Option D}{x y d:D}(h:gI f x y=some d):∃ i j,x=.int i/\y=.int j/\f i j=some d:=by
 unfold gI at h
 split at h
 ·exact⟨_,_,rfl,rfl,h⟩
 ·cases h
def dG{w:Wn}{o:Ow}{q:Nat}{i:Int}(r:Rep K H w o q (.int i) v F):v=.int i:=by cases r;rfl
def A_{f:Int->Int->Option D}{C:Int->Int->Prop}(hf:∀ i j d,f i j=some d->C i j/\kL d=some (h i j)) :
  ∀ σ H Q,tD K (e2 (gI f) fa fb) σ H Q->kH (rI C h) (tD K fa) (tD K fb) σ H Q:=
 tO fun x y d e=>by
  obtain⟨i,j,rfl,rfl,e⟩:=pI e
  obtain⟨c,s⟩:=hf i j d e
  exact⟨_,s,fun H w o o' q q' u u' F F' r1 r2 _ Q hq=>⟨i,j,dG r1,dG r2,c,hq⟩⟩
def Fe{f:Int->Int->Option D}(hf:∀ i j d,f i j=some d->kL d=some (h i j)) :
  ∀ σ H Q,tD K (e2 (gI f) fa fb) σ H Q->kH (lQ h) (tD K fa) (tD K fb) σ H Q:=
 tO fun x y d e=>by
  obtain⟨i,j,rfl,rfl,e⟩:=pI e
  exact⟨_,hf i j d e,fun H w o o' q q' u u' F F' r1 r2 _ Q hq=>⟨i,j,dG r1,dG r2,hq⟩⟩
@[simp] def cm:D->D->Option D:=gI fun i j=>some (.int (i+j))
@[simp] def l9:D->D->Option D:=gI fun i j=>if(-(2 ^ 64)<i/\i<2 ^ 64)\/(-(2 ^ 64)<j/\j<2 ^ 64)then some (.int (i*j))else none
@[simp] def yo:D->D->Option D:=gI fun i j=>if 0<j/\j<1073741824 then some (.int (i / j))else none
@[simp] def qW:D->D->Option D:=gI fun i j=>if 0<j then some (.int (i % j))else none
def dH(ha:QD X a fa)(hb:QD X b fb):QD X (.BinOp a .Add b pos) (e2 cm fa fb):=⟨have ha:=ha.o;have hb:=hb.o;PE.imp (qG Ms ha hb) (Fe fun i j d h=>by cases h;rfl)⟩
def nz(ha:QD X a fa)(hb:QD X b fb):QD X (.BinOp a .Mult b pos) (e2 l9 fa fb):=⟨have ha:=ha.o;have hb:=hb.o;PE.imp (qG Mt ha hb) (A_ fun i j d h=>by
 split at h
 ·cases h;exact⟨by assumption,rfl⟩
 ·cases h)⟩
def Ba(ha:QD X a fa)(hb:QD X b fb):QD X (.BinOp a .FloorDiv b pos) (e2 yo fa fb):=⟨have ha:=ha.o;have hb:=hb.o;PE.imp (qG Mu ha hb) (A_ fun i j d h=>by
 split at h
 ·cases h;exact⟨by assumption,rfl⟩
 ·cases h)⟩
def tP(ha:QD X a fa)(hb:QD X b fb):QD X (.BinOp a .Mod b pos) (e2 qW fa fb):=⟨have ha:=ha.o;have hb:=hb.o;PE.imp (qG Mv ha hb) (A_ fun i j d h=>by
 split at h
 ·cases h;exact⟨by assumption,rfl⟩
 ·cases h)⟩
def fC:D->Int->Option D
 | .lst ds,i=>dW ds i
 | .tup ds,i=>dW ds i
 | _,_=>none
@[simp] def fh (fa fb:aB):aB:=fun ρ=>match fa ρ with
 | some (x,_,ρ1)=>match fb ρ1 with
  | some (.int i,_,ρ2)=>match fC x i with
   | some d=>some (d,h_ d,ρ2)
   | none=>none
  | _=>none
 | none=>none
def Rep.oE{w:Wn}{o:Ow}{q:Nat}{ds:List D}(r:Rep K H w o q (.lst ds) v F):∃ a vs q' G,v=.ref a/\cn K H a vs/\af K H w o q' ds vs G:=by
 cases r with
 | kl h r=>exact⟨_,_,_,_,rfl,h.sq,r⟩
 | shr h n r=>exact⟨_,_,_,_,rfl,.inl h,r⟩
 | own h n r _=>exact⟨_,_,_,_,rfl,cn.of h,r⟩
def Rep.gY{w:Wn}{o:Ow}{ds:List D}(r:Rep K H w o 0 (.lst ds) v F):∃ a vs,v=.ref a/\cn K H a vs/\af K H w o 0 ds vs []:=by
 cases r with
 | kl h r=>exact⟨_,_,rfl,h.sq,r⟩
 | shr h n r=>exact⟨_,_,rfl,.inl h,r⟩
def Rep.ic{w:Wn}{o:Ow}{q:Nat}{ds:List D}(r:Rep K H w o q (.tup ds) v F):∃ a vs,v=.ref a/\dh K H a vs/\af K H w o 0 ds vs []:=by
 cases r with
 | tup h r=>exact⟨_,_,rfl,dh.of h,r⟩
def Rep.pJ{w:Wn}{o:Ow}{q:Nat}{ds:List D}(r:Rep K H w o q (.tup ds) v F):∃ a vs,v=.ref a/\H a=some (.tup vs)/\af K H w o 0 ds vs []:=by
 cases r with
 | tup h r=>exact⟨_,_,rfl,h,r⟩
def af.dW{w:Wn}{o:Ow}{ds:List D}{i:Int}{d:D}(r:af K H w o 0 ds vs [])(h:L2.dW ds i=some d):∃ v,L2.dW vs i=some v/\Rep K H w o 0 d v []:=by
 unfold L2.dW at h ⊢
 rw[<- r.length]
 cases e:iF ds.length i with
 | none=>rw[e]at h;cases h
 | some j=>
  rw[e]at h
  exact r.get h
def jB(ha:QD X a fa)(hb:QD X b fb)(hs:uR b:=by exact fun _ _=>rfl):QD X (.Subscript a b pos) (fh fa fb):=⟨have ha:=ha.o;have hb:=hb.o;PE.imp (xR xS ha hb hs) fun σ H Q ag=>by
 obtain⟨ρ,w,t,r',q,ρ',gd,ee,k⟩:=ag
 unfold fh at ee
 split at ee
 next x q1 ρ1 h1=>
  split at ee
  next i q2 ρ2 h2=>
   split at ee
   next d hd=>
    cases ee
    refine qV gd h1 h2 fun u u' H2 w2 F1 F2 g2 go r1 r2=>?_
    have qX:=dG r2
    subst qX
    have r0:=r1.drop (o:=.t t) (Qg t)
    cases x with
    | lst ds=>
     obtain⟨p,vs,rfl,hq,rs⟩:=r0.gY
     obtain⟨v,hv,rv⟩:=rs.dW hd
     exact .inl ⟨p,vs,i,v,rfl,rfl,hq,hv,oA k gd g2 go rv.jY⟩
    | tup ds=>
     obtain⟨p,vs,rfl,hq,rs⟩:=r0.ic
     obtain⟨v,hv,rv⟩:=rs.dW hd
     exact .inr (.inl ⟨p,vs,i,v,rfl,rfl,hq,hv,oA k gd g2 go rv.jY⟩)
    | _=>cases hd
   ·cases ee
  ·cases ee
 ·cases ee⟩
abbrev bT:=aR->Option (List D×aR)
def Bb (K:PySem.W.Frag)(f:bT):TA:=fun σ H Q=>∃ ρ w t ds ρ',Good K ρ σ H w t/\f ρ=some (ds,ρ')/\∀ vs H' w',Good K ρ' σ H' w' t->Go H w H' w'->af K H' w' .f 0 ds vs []->Q vs H'
abbrev Ff (X:Cx)(es:List Expr)(f:bT):Prop:=PA X es (Bb X.K f)
structure fi (X:Cx) (e:List Expr) (f:bT):Prop where mk::o:Ff X e f
def PA.imp{X:Cx}{e:List Expr}{t t':TA}(h:PA X e t)(i:∀ σ H Q,t' σ H Q->t σ H Q):PA X e t':=fun pos pins s σ H Q I q=>h pos pins s σ H Q I (i σ H Q q)
@[simp] def aj:bT:=fun ρ=>some ([],ρ)
@[simp] def ae (f:aB)(g:bT):bT:=fun ρ=>match f ρ with
 | some (d,_,ρ1)=>match g ρ1 with
  | some (ds,ρ2)=>some (d::ds,ρ2)
  | none=>none
 | none=>none
def au:fi X [] aj:=⟨PA.imp jf fun σ H Q ag=>by
 obtain⟨ρ,w,t,ds,ρ',gd,ee,k⟩:=ag
 cases ee
 exact k [] H w gd Go.refl .nil⟩
def aA{g:bT}(ha:QD X e f)(hr:fi X es g)(hs:starEach (e::es) X.env=(false,eval e X.env)::starEach es X.env:=by rfl):fi X (e::es) (ae f g):=⟨have ha:=ha.o;have hr:=hr.o;PA.imp (gE ha hr hs) fun σ H Q ag=>by
 obtain⟨ρ,w,t,ds,ρ',gd,ee,k⟩:=ag
 unfold ae at ee
 split at ee
 next d q ρ1 h1=>
  split at ee
  next cj ρ2 h2=>
   cases ee
   refine⟨ρ,w,t,d,q,ρ1,gd,h1,fun x H1 w1 F1 g1 aD r1=>⟨ρ1,bV t w1,t,cj,_,g1.drop,h2,fun vs H2 w2 g2 bg r2=>?_⟩⟩
   have gl:=(g1.drop (t':=t)).wl
   have r0:Rep X.K H2 w2 .f 0 d x []:=Rep.go gl bg.bu (r1.drop (o:=.f) (Qg t)) nM
   exact k (x::vs) H2 w2 g2 ((aD.drop gd.wt).trans bg) (.cons (F:=[]) (G:=[]) r0 r2 nM)
  ·cases ee
 ·cases ee⟩
@[simp] def dm (g:bT):aB:=fun ρ=>match g ρ with
 | some (ds,ρ1)=>if ds.length<=1000 then some (.lst ds,1,ρ1)else none
 | none=>none
@[simp] def gm (g:bT):aB:=fun ρ=>match g ρ with
 | some (ds,ρ1)=>if ds.length<=1000 then some (.tup ds,9,ρ1)else none
 | none=>none
def qY(h:n<=1000):n<=sizeLine:=ZN (kI h)
def eR{g:bT}(h:fi X es g):QD X (.List es pos) (dm g):=⟨have h:=h.o;PE.imp (ML h) fun σ H Q ag=>by
 obtain⟨ρ,w,t,r',q,ρ',gd,ee,k⟩:=ag
 unfold dm at ee
 split at ee
 next ds ρ1 h1=>
  split at ee
  next hl=>
   cases ee
   refine⟨ρ,w,t,ds,_,gd,h1,fun vs H1 w1 g1 aD r1=>⟨by rw[<- r1.length];exact qY hl,fun p hp=>?_⟩⟩
   obtain⟨a1,a2,a3⟩:=l7 g1 hp r1
   exact k _ _ _ _ a1 (aD.trans a2) a3
  ·cases ee
 ·cases ee⟩
def j3{g:bT}{x1}(h:fi X es g):QD X (.Tuple es x1 pos) (gm g):=⟨have h:=h.o;PE.imp (MJ h) fun σ H Q ag=>by
 obtain⟨ρ,w,t,r',q,ρ',gd,ee,k⟩:=ag
 unfold gm at ee
 split at ee
 next ds ρ1 h1=>
  split at ee
  next hl=>
   cases ee
   refine⟨ρ,w,t,ds,_,gd,h1,fun vs H1 w1 g1 aD r1=>⟨by rw[<- r1.length];exact qY hl,fun p hp=>?_⟩⟩
   obtain⟨a1,a2,a3⟩:=yk g1 hp r1
   exact k _ _ _ _ a1 (aD.trans a2) a3
  ·cases ee
 ·cases ee⟩
def kM (K:PySem.W.Frag)(n:Nat)(F:List D->OD):Sp:=fun vs H Q _=>vs.length=n/\∃ ds w r q,(∀ a o,w a=some o->o=.f)/\WL K w H/\af K H w .f 0 ds vs []/\F ds=some (r,q) /\
 ∀ v H' w' Fo,Go H w H' w'->WL K w' H'->Rep K H' w' (.t 0) q r v Fo->Q v H'
@[simp] def aS (F:List D->OD)(n:Nat)(g:bT):aB:=fun ρ=>match g ρ with
 | some (ds,ρ1)=>if ds.length=n then match F ds with
  | some (r,q)=>some (r,q,ρ1)
  | none=>none
  else none
 | none=>none
def back{ρ:aR}{σ:St}{w w':Wn}{t q:Nat}{d:D}{Fo:List Addr}(g:Good K ρ σ H w t)
  (go:Go H (fun a=>(w a).map fun _=>Ow.f) H' w') (pK:WL K w' H') (r:Rep K H' w' (.t 0) q d v Fo) :
  Good K ρ σ H' (fun a=>if a∈Fo then some (.t t)else w a) (t+1)/\Go H w H' (fun a=>if a∈Fo then some (.t t)else w a)/\Rep K H' (fun a=>if a∈Fo then some (.t t)else w a) (.t t) q d v Fo:=by
 have kf:∀ a o,w a=some o->H' a=H a/\w' a=some .f:=fun a o e=>go.keep a .f (by show(w a).map _=_;rw[e];rfl) (fun _ z=>nomatch z)
 have nf:∀ a x,H a=some x->a ∉ Fo:=fun a x e m=>by
  have h1:=r.aC a m
  cases ew:w a with
  | none=>
   have:=(go.bu a x e (by show(w a).map _=_;rw[ew];rfl)).2
   rw[h1]at this;cases this
  | some o=>rw[(kf a o ew).2]at h1;cases h1
 have nw:∀ a o,w a=some o->a ∉ Fo:=fun a o e=>by obtain⟨vs,q⟩:=g.wl a o e;exact nf a _ q
 have st:c_ H w H' (fun a=>if a∈Fo then some (.t t)else w a):=fun a x e n=>⟨(go.bu a x e (by show(w a).map _=_;rw[n];rfl)).1,by show(if a∈Fo then _ else _)=_;rw[Qj (nf a x e)];exact n⟩
 have wv:∀ a o,(if a∈Fo then some (Ow.t t)else w a)=some o->(a∈Fo/\o=.t t)\/w a=some o:=fun a o e=>by
  split at e
  ·cases e;exact .inl ⟨by assumption,rfl⟩
  ·exact .inr e
 refine⟨⟨⟨fun a o e=>?_,pK.tb⟩,fun a i e=>?_,fun a i e=>?_,g.len,fun i d q e=>?_⟩,⟨st,fun a o e _=>⟨(kf a o e).1,by show(if a∈Fo then _ else _)=_;rw[Qj (nw a o e)];exact e⟩⟩,?_⟩
 ·rcases wv a o e with⟨m,_⟩|z
  ·exact pK a _ (r.aC a m)
  ·obtain⟨vs,h⟩:=g.wl a o z
   exact⟨vs,(kf a o z).1.trans h⟩
 ·rcases wv a _ e with⟨_,z⟩|z
  ·cases z
  ·exact g.ws a i z
 ·rcases wv a _ e with⟨_,z⟩|z
  ·cases z;exact Zn _
  ·exact Zi (g.wt a i z)
 ·obtain⟨v,F,h1,h2⟩:=g.slot i d q e
  refine⟨v,F,h1,Rep.go g.wl st h2 fun a m=>⟨(kf a _ (h2.aC a m)).1,?_⟩⟩
  show(if a∈Fo then _ else _)=_
  rw[Qj (nw a _ (h2.aC a m))]
  exact h2.aC a m
 ·refine Rep.go pK (fun a x e n=>⟨sm e,?_⟩) r fun a m=>⟨rfl,Qi m⟩
  show(if a∈Fo then _ else _)=_
  rw[Qj (fun m=>by have:=r.aC a m;rw[n]at this;cases this)]
  cases ew:w a with
  | none=>rfl
  | some o=>have:=(kf a o ew).2;rw[n]at this;cases this
def Ov{CX:lR}{k:Nat}{fn:Addr}{x:Str}{p:Pos}{F:List D->OD}{g:bT}(Fk:dU X.prog X.w X.K X.mg X.base CX k fn fd ps (kM X.K n F))(hr:aQ k X.A)(hm:X.mg x=some (.ref fn))(hk:PySem.W.keepIn X.K (.ref fn)=true)(hb:oa X.K fd ps [])
  (hx:xN CX X E) (ha:Ff X (e::es) g) (hg:Gl X x:=by rfl) (gF:(x==("__debug__":Str))=false:=by decide) (he:starEach (e::es) X.env=(false,eval e X.env)::starEach es X.env:=by rfl) (bX:(backTo pos (starEach es X.env)).any (·.1)=false:=by rfl) :
  PD X (.Call (.Name x p) (e::es) [] pos) (aS F n g):=PE.imp (An Fk hr hg hm hk hb .nil hx ha gF he bX) fun σ H Q ag=>by
 obtain⟨ρ,w,t,r',q,ρ',gd,ee,k⟩:=ag
 unfold aS at ee
 split at ee
 next ds ρ1 h1=>
  split at ee
  next hn=>
   split at ee
   next r0 q0 h2=>
    cases ee
    refine⟨ρ,w,t,ds,_,gd,h1,fun vs H1 w1 g1 aD r1=>?_⟩
    show kM X.K n F (vs++[]) H1 Q E
    rw[ZO]
    refine⟨by rw[<- r1.length];exact hn,ds,fun a=>(w1 a).map fun _=>Ow.f,r',q,fun a o e=>?_,⟨fun a o e=>?_,g1.wl.tb⟩,?_,h2,fun v H2 w2 Fo bg vf rr=>?_⟩
    ·dsimp only at e
     cases ew:w1 a with
     | none=>rw[ew]at e;cases e
     | some o'=>rw[ew]at e;cases e;rfl
    ·try dsimp only at e
     cases ew:w1 a with
     | none=>rw[ew]at e;cases e
     | some o'=>exact g1.wl a o' ew
    ·exact af.freeze (fun a n=>by show(w1 a).map _=_;rw[n];rfl) r1 nM
    ·obtain⟨b1,b2,b3⟩:=back g1 bg vf rr
     exact k _ _ _ _ b1 (aD.trans b2) b3
   ·cases ee
  ·cases ee
 ·cases ee
end
abbrev cz:=aR->Option (Bool×aR)
def qZ (K:PySem.W.Frag)(f:cz):TT:=fun σ H Q=>∃ ρ w t b ρ',Good K ρ σ H w t/\f ρ=some (b,ρ')/\∀ H' w',Good K ρ' σ H' w' t->Go H w H' w'->Q b H'
def PT.imp{e:Expr}{t t':TT}(h:PT X e t)(i:∀ σ H Q,t' σ H Q->t σ H Q):PT X e t':=fun pins s σ H Q I q=>h pins s σ H Q I (i σ H Q q)
def PW.imp{e:Expr}{t t':TT}(h:PW X e t)(i:∀ σ H Q,t' σ H Q->t σ H Q):PW X e t':=fun whole pins s σ H Q I q=>h whole pins s σ H Q I (i σ H Q q)
abbrev Bc (X:Cx)(e:Expr)(f:cz):Prop:=PT X e (qZ X.K f)
structure gK (X:Cx) (e:Expr) (f:cz):Prop where mk::o:Bc X e f
abbrev Ox (X:Cx)(e:Expr)(f:cz):Prop:=PW X e (qZ X.K f)
structure q8 (X:Cx) (e:Expr) (f:cz):Prop where mk::o:Ox X e f
@[simp] def Fg:D->Option Bool
 | .aK=>some false
 | .bl b=>some b
 | .int i=>some (i != 0)
 | .tup ds=>some (!ds.isEmpty)
 | .lst ds=>some (!ds.isEmpty)
 | .str _=>none
 | .jZ _ _=>none
 | .exc _=>none
 | .ob _ _ _ _=>none
 | .mp _ _=>none
@[simp] def l_ (f:aB):cz:=fun ρ=>match f ρ with
 | some (d,_,ρ1)=>match Fg d with
  | some b=>some (b,ρ1)
  | none=>none
 | none=>none
section
variable {X:Cx}{a b c e:Expr}{fa fb fc f:aB}{ga gb gc:cz}{pos:Pos}
def yq{α β:Type}{l:List α}{l':List β}(h:l.length=l'.length):(!l.isEmpty) = !l'.isEmpty:=by
 cases l<;>cases l'<;>first|rfl|cases h
def tR(ha:QD X a fa)(he:∀ whole,isTrue a X.env whole=(do let v <- whole;standAt a.pos;holding [v] (truthy v)):=by exact fun _=>rfl):gK X a (l_ fa):=⟨have ha:=ha.o;PT.imp (ME ha he) fun σ H Q ag=>by
 obtain⟨ρ,w,t,b,ρ',gd,ee,k⟩:=ag
 unfold l_ at ee
 split at ee
 next d q ρ1 h1=>
  split at ee
  next b' hb=>
   cases ee
   refine⟨ρ,w,t,d,q,_,gd,h1,fun v H1 w1 F g1 aD r1=>⟨b,?_,k H1 (bV t w1) g1.drop (aD.drop gd.wt)⟩⟩
   cases r1 with
   | aK=>cases hb;rfl
   | bl x=>cases hb;rfl
   | int i=>cases hb;rfl
   | str x=>cases hb
   | tup h r=>cases hb;exact .inr (.inl ⟨_,dh.of h,yq r.length⟩)
   | jZ h e r=>cases hb
   | exc h x n=>cases hb
   | ob h1 h2 x r=>cases hb
   | kl h r=>cases hb;exact .inl ⟨_,h.sq,yq r.length⟩
   | shr h _ r=>cases hb;exact .inl ⟨_,.inl h,yq r.length⟩
   | own h _ r _=>cases hb;exact .inl ⟨_,cn.of h,yq r.length⟩
   | ny h _ _ _ _=>cases hb
   | kK h _ _ _ _=>cases hb
  ·cases ee
 ·cases ee⟩
@[simp] def bA (f:aB):cz:=fun ρ=>match f ρ with
 | some (.bl b,_,ρ1)=>some (b,ρ1)
 | _=>none
def Bd(h:∀ σ H Q,tD K f σ H Q->te σ H Q):∀ σ H Q,qZ K (bA f) σ H Q->Am te σ H Q:=fun σ H Q ag=>by
 obtain⟨ρ,w,t,b,ρ',gd,ee,k⟩:=ag
 unfold bA at ee
 split at ee
 next b' q ρ1 h1=>
  cases ee
  refine h σ H _ ⟨ρ,w,t,.bl b,q,_,gd,h1,fun v H1 w1 F g1 aD r1=>?_⟩
  cases r1
  exact⟨b,rfl,k H1 (bV t w1) g1.drop (aD.drop gd.wt)⟩
 ·cases ee
def vg{op:CmpOp}{g:D->D->Option D}(ho:ef X (compareOp op) r)(hr:∀ σ H Q,tD X.K (e2 g fa fb) σ H Q->kH r (tD X.K fa) (tD X.K fb) σ H Q)(ha:PD X a fa)(hb:PD X b fb)(hm:behindInMarks op b=false) :
  Bc X (.Compare a [op] [b] pos) (bA (e2 g fa fb)):=PT.imp (Ex ho ha hb hm) (Bd hr)
@[simp] def j4:D->D->Option D:=gI fun i j=>some (.bl (decide (i<j)))
@[simp] def vh:D->D->Option D:=gI fun i j=>some (.bl (decide (i<=j)))
def Oy:∀ σ H Q,tD K (e2 j4 fa fb) σ H Q->kH (lQ fun i j=>.bl (decide (i<j))) (tD K fa) (tD K fb) σ H Q:=Fe fun i j d h=>by cases h;rfl
def vi(ha:QD X a fa)(hb:QD X b fb):gK X (.Compare a [.Lt] [b] pos) (bA (e2 j4 fa fb)):=⟨have ha:=ha.o;have hb:=hb.o;vg Al Oy ha hb (xJ _)⟩
@[simp] def oF (g:cz):cz:=fun ρ=>match g ρ with
 | some (b,ρ1)=>some (!b,ρ1)
 | none=>none
def yr(ha:gK X a ga):gK X (.UnaryOp .Not a pos) (oF ga):=⟨have ha:=ha.o;PT.imp (LB ha) fun σ H Q ag=>by
 obtain⟨ρ,w,t,b,ρ',gd,ee,k⟩:=ag
 unfold oF at ee
 split at ee
 next b' ρ1 h1=>
  cases ee
  exact⟨ρ,w,t,b',_,gd,h1,fun H1 w1 g1 aD=>k H1 w1 g1 aD⟩
 ·cases ee⟩
@[simp] def q9 (g h:cz):cz:=fun ρ=>match g ρ with
 | some (b,ρ1)=>if b=true then h ρ1 else some (false,ρ1)
 | none=>none
@[simp] def yt (g h:cz):cz:=fun ρ=>match g ρ with
 | some (b,ρ1)=>if b=true then some (true,ρ1)else h ρ1
 | none=>none
variable {bc:List Expr}
def Oz(ha:gK X a ga):q8 X (.BoolOp .And [a] pos) ga:=⟨have ha:=ha.o;Lx ha⟩
def Fh(ha:gK X a ga):q8 X (.BoolOp .Or [a] pos) ga:=⟨have ha:=ha.o;Ly ha⟩
def OA(ha:gK X a ga)(hb:q8 X (.BoolOp .And (b::bc) pos) gb):q8 X (.BoolOp .And (a::b::bc) pos) (q9 ga gb):=⟨have ha:=ha.o;have hb:=hb.o;PW.imp (Lz ha hb) fun σ H Q ag=>by
 obtain⟨ρ,w,t,b,ρ',gd,ee,k⟩:=ag
 unfold q9 at ee
 split at ee
 next b' ρ1 h1=>
  refine⟨ρ,w,t,b',ρ1,gd,h1,fun H1 w1 g1 aD=>?_⟩
  split at ee
  ·rename_i hb;rw[Qi hb]
   exact⟨ρ1,w1,t,b,ρ',g1,ee,fun H2 w2 g2 bg=>k H2 w2 g2 (aD.trans bg)⟩
  ·rename_i hb;rw[Qj hb]
   cases ee
   exact k H1 w1 g1 aD
 ·cases ee⟩
def Fi(ha:gK X a ga)(hb:q8 X (.BoolOp .Or (b::bc) pos) gb):q8 X (.BoolOp .Or (a::b::bc) pos) (yt ga gb):=⟨have ha:=ha.o;have hb:=hb.o;PW.imp (LA ha hb) fun σ H Q ag=>by
 obtain⟨ρ,w,t,b,ρ',gd,ee,k⟩:=ag
 unfold yt at ee
 split at ee
 next b' ρ1 h1=>
  refine⟨ρ,w,t,b',ρ1,gd,h1,fun H1 w1 g1 aD=>?_⟩
  split at ee
  ·rename_i hb;rw[Qi hb]
   cases ee
   exact k H1 w1 g1 aD
  ·rename_i hb;rw[Qj hb]
   exact⟨ρ1,w1,t,b,ρ',g1,ee,fun H2 w2 g2 bg=>k H2 w2 g2 (aD.trans bg)⟩
 ·cases ee⟩
@[simp] def Be (g:cz)(fa fb:aB):aB:=fun ρ=>match g ρ with
 | some (b,ρ1)=>if b=true then fa ρ1 else fb ρ1
 | none=>none
def OB(hc:gK X c gc)(ha:QD X a fa)(hb:QD X b fb):QD X (.IfExp c a b pos) (Be gc fa fb):=⟨have hc:=hc.o;have ha:=ha.o;have hb:=hb.o;PE.imp (LK hc ha hb) fun σ H Q ag=>by
 obtain⟨ρ,w,t,r',q,ρ',gd,ee,k⟩:=ag
 unfold Be at ee
 split at ee
 next b' ρ1 h1=>
  refine⟨ρ,w,t,b',ρ1,gd,h1,fun H1 w1 g1 aD=>?_⟩
  split at ee
  ·rename_i hb;rw[Qi hb]
   exact⟨ρ1,w1,t,r',q,ρ',g1,ee,fun v H2 w2 F g2 bg=>k v H2 w2 F g2 (aD.trans bg)⟩
  ·rename_i hb;rw[Qj hb]
   exact⟨ρ1,w1,t,r',q,ρ',g1,ee,fun v H2 w2 F g2 bg=>k v H2 w2 F g2 (aD.trans bg)⟩
 ·cases ee⟩
end
inductive Out where
 | nx (ρ:aR)|rt (d:D) (q:Nat)|bk (ρ:aR)|ct (ρ:aR)
abbrev aJ:=aR->Option Out
def nA (K:PySem.W.Frag)(Dn:Ends)(n:Nat)(H:Hp)(w:Wn):Out->Prop
 | .nx ρ'=>∀ aF H' w',aF.length=n->Good K ρ' aF H' w' 0->Go H w H' w'->Dn.nx aF H'
 | .bk ρ'=>∀ aF H' w',aF.length=n->Good K ρ' aF H' w' 0->Go H w H' w'->Dn.bk aF H'
 | .ct ρ'=>∀ aF H' w',aF.length=n->Good K ρ' aF H' w' 0->Go H w H' w'->Dn.ct aF H'
 | .rt d q=>∀ v H' w' F,WL K w' H'->Go H w H' w'->Rep K H' w' (.t 0) q d v F->Dn.rt v H'
def yu (K:PySem.W.Frag)(f:aJ):TS:=fun Dn σ H=>∃ ρ w o,Good K ρ σ H w 0/\f ρ=some o/\nA K Dn σ.length H w o
def PS.imp{e:Stmt}{t t':TS}(h:PS X e t)(i:∀ D σ H,t' D σ H->t D σ H):PS X e t':=fun pins s σ H D I q=>h pins s σ H D I (i D σ H q)
def gB.imp{e:List Stmt}{t t':TS}(h:gB X e t)(i:∀ D σ H,t' D σ H->t D σ H):gB X e t':=fun pins s σ H D I q=>h pins s σ H D I (i D σ H q)
abbrev OC (X:Cx)(st:Stmt)(f:aJ):Prop:=PS X st (yu X.K f)
structure jC (X:Cx) (e:Stmt) (f:aJ):Prop where mk::o:OC X e f
abbrev yv (X:Cx)(st:List Stmt)(f:aJ):Prop:=gB X st (yu X.K f)
structure fR (X:Cx) (e:List Stmt) (f:aJ):Prop where mk::o:yv X e f
@[simp] def ig:aJ:=fun ρ=>some (.nx ρ)
@[simp] def aH (f g:aJ):aJ:=fun ρ=>match f ρ with
 | some (.nx ρ1)=>g ρ1
 | o=>o
def nA.trans{Dn:Ends}{w w1:Wn}(go:Go H w H1 w1):∀ {o:Out},nA K Dn n H w o->nA K Dn n H1 w1 o
 | .nx _,h=>fun aF H' w' e g fQ=>h aF H' w' e g (go.trans fQ)
 | .bk _,h=>fun aF H' w' e g fQ=>h aF H' w' e g (go.trans fQ)
 | .ct _,h=>fun aF H' w' e g fQ=>h aF H' w' e g (go.trans fQ)
 | .rt _ _,h=>fun v H' w' F wl fQ=>h v H' w' F wl (go.trans fQ)
section
variable {X:Cx}{a b c e:Expr}{fa fb fc f:aB}{ga gb gc:cz}{pos:Pos}{st:Stmt}{bc sa sb:List Stmt}{s s':aJ}
def iG:fR X [] ig:=⟨gB.imp LO fun D σ H ag=>by
 obtain⟨ρ,w,o,g,ee,k⟩:=ag
 cases ee
 exact k σ H w rfl g Go.refl⟩
def aT(h1:jC X st s)(h2:fR X bc s'):fR X (st::bc) (aH s s'):=⟨have h1:=h1.o;have h2:=h2.o;gB.imp (LP h1 h2) fun D σ H ag=>by
 obtain⟨ρ,w,o,g,ee,k⟩:=ag
 unfold aH at ee
 split at ee
 next ρ1 h1=>
  exact⟨ρ,w,.nx ρ1,g,h1,fun aF H' w' e g' fQ=>⟨ρ1,w',o,g',ee,by rw[e];exact k.trans fQ⟩⟩
 next bH=>
  refine⟨ρ,w,o,g,ee,?_⟩
  cases o with
  | nx ρ1=>exact absurd ee (bH ρ1)
  | bk ρ1=>exact k
  | ct ρ1=>exact k
  | rt d q=>exact k⟩
def aZ(h1:jC X st s):fR X [st] s:=⟨have h1:=h1.o;Eg h1⟩
@[simp] def b_ (f:aB):aJ:=fun ρ=>match f ρ with
 | some (d,q,_)=>some (.rt d q)
 | none=>none
def cA(h:QD X e f):jC X (.Return (some e) pos) (b_ f):=⟨have h:=h.o;PS.imp (Ei h) fun D σ H ag=>by
 obtain⟨ρ,w,o,g,ee,k⟩:=ag
 unfold b_ at ee
 split at ee
 next d q ρ1 h1=>
  cases ee
  exact⟨ρ,w,0,d,q,ρ1,g,h1,fun v H' w' F g' fQ r=>k v H' w' F g'.wl fQ r⟩
 ·cases ee⟩
@[simp] def fD (g:cz)(s s':aJ):aJ:=fun ρ=>match g ρ with
 | some (b,ρ1)=>if b=true then s ρ1 else s' ρ1
 | none=>none
def ij(hc:gK X c gc)(ha:fR X sa s)(hb:fR X sb s'):jC X (.If c sa sb pos) (fD gc s s'):=⟨have hc:=hc.o;have ha:=ha.o;have hb:=hb.o;PS.imp (Ej hc ha hb) fun D σ H ag=>by
 obtain⟨ρ,w,o,g,ee,k⟩:=ag
 unfold fD at ee
 split at ee
 next b' ρ1 h1=>
  refine⟨ρ,w,0,b',ρ1,g,h1,fun H1 w1 g1 aD=>?_⟩
  split at ee
  ·rename_i hb;rw[Qi hb]
   exact⟨ρ1,w1,o,g1,ee,k.trans aD⟩
  ·rename_i hb;rw[Qj hb]
   exact⟨ρ1,w1,o,g1,ee,k.trans aD⟩
 ·cases ee⟩
def kN (t i:Nat)(w:Wn):Wn:=fun a=>if w a=some (.t t)then some (.s i)else if w a=some (.s i)then none else w a
def Good.set{ρ:aR}{σ:St}{w:Wn}{q:Nat}{d:D}(g:Good K ρ σ H w 1)(hi:i<σ.length)(r:Rep K H w (.t 0) q d v F) :
  Good K (ρ.set i (some (d,q))) (σ.set i (some v)) H (kN 0 i w) 0/\∀ br oG,Go br oG H w->(∀ a j,oG a=some (.t j)->j<0)->Go br oG H (kN 0 i w):=by
 have mN:∀ a,w a=none->kN 0 i w a=none:=fun a e=>by unfold kN;rw[e];rfl
 have mT:∀ a,w a=some (.t 0)->kN 0 i w a=some (.s i):=fun a e=>by unfold kN;rw[Qi e]
 have mS:∀ a j,w a=some (.s j)->j≠i->kN 0 i w a=some (.s j):=fun a j e n=>by
  unfold kN
  rw[Qj (by rw[e];exact fun z=>nomatch z),Qj (by rw[e];intro z;cases z;exact n rfl)]
  exact e
 have mF:∀ a,w a=some .f->kN 0 i w a=some .f:=fun a e=>by
  unfold kN
  rw[Qj (by rw[e];exact fun z=>nomatch z),Qj (by rw[e];exact fun z=>nomatch z)]
  exact e
 have mI:∀ a o,kN 0 i w a=some o->(w a=some (.t 0)/\o=.s i)\/(w a=some o/\o ≠ .s i/\o ≠ .t 0):=fun a o e=>by
  unfold kN at e
  split at e
  ·cases e;exact .inl ⟨by assumption,rfl⟩
  next n1=>
   split at e
   ·cases e
   ·rename_i n2;exact .inr ⟨e,fun z=>n2 (by rw[e,z]),fun z=>n1 (by rw[e,z])⟩
 have st:c_ H w H (kN 0 i w):=fun a x h n=>⟨sm h,mN a n⟩
 refine⟨⟨⟨fun a o e=>?_,g.wl.tb⟩,fun a j e=>?_,fun a j e=>?_,by rw[QN,QN];exact g.len,fun j d' q' e'=>?_⟩,fun br oG go hw=>⟨fun a x h n=>⟨(go.bu a x h n).1,mN a (go.bu a x h n).2⟩,fun a o e n=>?_⟩⟩
 ·rcases mI a o e with⟨z,_⟩|⟨z,_⟩
  ·exact g.wl a _ z
  ·exact g.wl a _ z
 ·rw[QN]
  rcases mI a _ e with⟨_,z⟩|⟨z,_⟩
  ·cases z;exact hi
  ·exact g.ws a j z
 ·rcases mI a _ e with⟨_,z⟩|⟨z,_,n⟩
  ·cases z
  ·have:=g.wt a j z
   have:j=0:=by omega
   subst this
   exact absurd rfl n
 ·by_cases hj:i=j
  ·subst hj
   rw[QL (by rw[g.len];exact hi)]at e'
   cases e'
   exact⟨v,F,QL hi,Rep.go g.wl st r fun a m=>⟨rfl,mT a (r.aC a m)⟩⟩
  ·rw[QM hj]at e'
   obtain⟨v',F',h1,h2⟩:=g.slot j d' q' e'
   exact⟨v',F',by rw[QM hj];exact h1,Rep.go g.wl st h2 fun a m=>⟨rfl,mS a j (h2.aC a m) (fun z=>hj z.symm)⟩⟩
 ·obtain⟨h1,h2⟩:=go.keep a o e n
  refine⟨h1,?_⟩
  cases o with
  | s j=>exact absurd rfl (n j)
  | f=>exact mF a h2
  | t j=>exact absurd (hw a j e) (Za _)
@[simp] def bh (i:Nat)(f:aB):aJ:=fun ρ=>match f ρ with
 | some (d,q,ρ1)=>some (.nx (ρ1.set i (some (d,q))))
 | none=>none
def Fj{D:Ends}{σ:St}(hi:i<σ.length)(he:∀ Q,tD K f σ H Q->te σ H Q)(h:yu K (bh i f) D σ H):te σ H fun x H1=>D.nx (σ.set i (some x)) H1:=by
 obtain⟨ρ,w,o,g,ee,k⟩:=h
 unfold bh at ee
 split at ee
 next d q ρ1 h1=>
  cases ee
  refine he _ ⟨ρ,w,0,d,q,ρ1,g,h1,fun v H' w' F g' fQ r=>?_⟩
  obtain⟨a1,a2⟩:=g'.set hi r
  exact k _ _ _ (by rw[QN]) a1 (a2 _ _ fQ g.wt)
 ·cases ee
def bW{x:Str}{pos':Pos}(hN:X.N.Nodup)(hi:X.N[i]? = some x)(hx:Loc X.env.scope x)(he:QD X e f)(hs:swapsWith e (some (.Name x pos')) pos.line X.env=pure false:=by rfl)(hf:X.fn x=true\/X.env.scope.names.lookup x=some .local:=by first|exact .inl rfl|exact .inr rfl):jC X (.Assign [.Name x pos'] e pos) (bh i f):=⟨have he:=he.o;by
 intro pins s σ H D I h
 have hl:i<σ.length:=by rw[I.len];exact(Qr.mp hi).1
 exact Em (te:=tD X.K f) hN hi hx he hs hf pins s σ H D I (Fj hl (fun _ z=>z) h)⟩
@[simp] def fj (f:aB):aJ:=fun ρ=>match f ρ with
 | some (_,_,ρ1)=>some (.nx ρ1)
 | none=>none
def jj(he:QD X e f)(hs:swapsWith e none pos.line X.env=pure false:=by rfl):jC X (.Expr e pos) (fj f):=⟨have he:=he.o;PS.imp (Eh he hs) fun D σ H ag=>by
 obtain⟨ρ,w,o,g,ee,k⟩:=ag
 unfold fj at ee
 split at ee
 next d q ρ1 h1=>
  cases ee
  exact⟨ρ,w,0,d,q,ρ1,g,h1,fun v H' w' F g' fQ r=>k σ H' (bV 0 w') rfl g'.drop (fQ.drop g.wt)⟩
 ·cases ee⟩
end
structure Mo (K:PySem.W.Frag) (H H':Hp):Prop where
 mo:∀ a o,H a=some o->H' a=some o
 tb:TB K H->TB K H'
def Mo.oH:Mo K H H:=⟨fun _ _ e=>e,fun t=>t⟩
structure kO (K:PySem.W.Frag) (J:It) (ds:List D) (P:Hp->Wn->Prop):Prop where
 go:∀ i H w,P H w->i<ds.length->J.go i H
 qE:∀ i H w x H' d,P H w->WL K w H->ds[i]? = some d->J.qE i H x H'->Mo K H H'/\Rep K H' w .f 0 d x []/\P H' w
 stop:∀ H w,P H w->J.stop ds.length H
 st:∀ H w H' w',P H w->WL K w H->c_ H w H' w'->P H' w'
abbrev jD:=aR->Option (List D×aR)
def yw (K:PySem.W.Frag)(f:jD):TI:=fun σ H R=>∃ ρ w t ds ρ',Good K ρ σ H w t/\f ρ=some (ds,ρ') /\
 ∀ J P H' w',Good K ρ' σ H' w' t->Go H w H' w'->kO K J ds P->P H' w'->ds.length<sizeLine->R J H'
def PI.imp{e:Expr}{t t':TI}(h:PI X tg e t)(i:∀ σ H R,t' σ H R->t σ H R):PI X tg e t':=fun pins s σ H R I q=>h pins s σ H R I (i σ H R q)
abbrev OE (X:Cx)(tg e:Expr)(f:jD):Prop:=PI X tg e (yw X.K f)
structure q_ (X:Cx) (tg e:Expr) (f:jD):Prop where mk::o:OE X tg e f
def It.list{K:PySem.W.Frag}{a:Addr}{vs:List V}{ds:List D}(hl:ds.length=vs.length):kO K (Ae K a) ds fun H w=>(KL K a vs\/(Rd H a (.lst vs)/\w a=none))/\af K H w .f 0 ds vs []:=by
 have sq:∀ {H:Hp} {w:Wn},KL K a vs\/(Rd H a (.lst vs)/\w a=none)->cn K H a vs:=fun h=>h.elim (fun z=>z.sq) fun z=>.inl z.1
 refine⟨fun i H w p hi=>⟨vs,vs[i],sq p.1,by simp[hl ▸ hi]⟩,fun i H w x H' d p wl hd y=>?_,fun H w p=>⟨vs,sq p.1,by omega⟩,fun H w H' w' p wl st=>?_⟩
 ·obtain⟨rfl,hx⟩:=y
  obtain⟨v,hv,rv⟩:=p.2.get hd
  have:=hx vs (sq p.1)
  rw[hv]at this
  cases this
  exact⟨Mo.oH,rv,p⟩
 ·refine⟨?_,af.go wl st p.2 nM⟩
  rcases p.1 with p|⟨p,n⟩
  ·exact .inl p
  ·exact .inr (yb.go st n p)
def It.tup{K:PySem.W.Frag}{a:Addr}{vs:List V}{ds:List D}(hl:ds.length=vs.length):kO K (Af K a) ds fun H w=>dh K H a vs/\af K H w .f 0 ds vs []:=
 ⟨fun i H w p hi=>⟨vs,vs[i],p.1,by simp[hl ▸ hi]⟩,fun i H w x H' d p wl hd y=>by
   obtain⟨rfl,hx⟩:=y
   obtain⟨v,hv,rv⟩:=p.2.get hd
   have:=hx vs p.1
   rw[hv]at this
   cases this
   exact⟨Mo.oH,rv,p⟩,fun H w p=>⟨vs,p.1,by omega⟩,fun H w H' w' p wl st=>⟨dh.go wl st p.1,af.go wl st p.2 nM⟩⟩
def pL (n:Nat):List V:=(List.range n).map fun i=>.int (Int.ofNat i)
def cU (n:Nat):List D:=(List.range n).map fun i=>.int (Int.ofNat i)
def gp(n:Nat):(cU n).length=n:=by simp[cU]
def Fl(n:Nat):(pL n).length=n:=by simp[pL]
def It.range:kO K (tz 0 n) (cU n) fun _ _=>True:=by
 refine⟨fun i H w _ hi=>by rw[gp]at hi;exact hi,fun i H w x H' d _ _ hd y=>?_,fun H w _=>by rw[gp];exact Qg _,fun _ _ _ _ _ _ _=>trivial⟩
 have hi:i<n:=by have:=(Qr.mp hd).1;rw[gp]at this;exact this
 have e:x=.int (0+(i:Int)):=y.2
 have ed:d=.int (Int.ofNat i):=by
  have:(cU n)[i]? = some (.int (Int.ofNat i)):=by simp[cU,hi]
  rw[hd]at this
  exact QC this
 obtain⟨rfl,_⟩:=y
 subst ed
 rw[e,Int.zero_add]
 exact⟨Mo.oH,.int _,trivial⟩
def yx{w:Wn}{o:Ow}:∀ (ns:List Int),af K H w o 0 (ns.map D.int) (ns.map V.int) []
 | []=>.nil
 | n::r=>.cons (F:=[]) (G:=[]) (.int n) (yx r) nM
def OF{w:Wn}{o:Ow}(n:Nat):af K H w o 0 (cU n) (pL n) []:=by
 have:=yx (K:=K) (H:=H) (w:=w) (o:=o) ((List.range n).map Int.ofNat)
 rw[Q7,Q7]at this
 exact this
section
variable {X:Cx}{tg a b c e:Expr}{fa fb fc f:aB}{ga gb gc:cz}{pos p:Pos}
@[simp] def cX (g:bT):jD:=fun ρ=>match g ρ with
 | some ([.int n],ρ1)=>if -1000<=n/\n<=1000 then some (cU n.toNat,ρ1)else none
 | _=>none
def gq{g:bT}(hm:X.mg "range" = none)(ha:fi X [a] g)(hg:Gl X "range":=by rfl)(hs:starEach [a] X.env=[(false,eval a X.env)]:=by rfl):q_ X tg (.Call (.Name "range" p) [a] [] pos) (cX g):=⟨have ha:=ha.o;PI.imp (Mh hg hm ha hs) fun σ H R ag=>by
 obtain⟨ρ,w,t,ds,ρ',gd,ee,k⟩:=ag
 unfold cX at ee
 split at ee
 next n ρ1 h1=>
  split at ee
  next hn=>
   cases ee
   refine⟨ρ,w,t,[.int n],_,gd,h1,fun vs H1 w1 g1 aD r1=>?_⟩
   have hv:vs=[.int n]:=by
    have l:=r1.length
    match vs,l with
    | [v],_=>
     obtain⟨v',h1,h2⟩:=r1.get (i:=0) rfl
     cases h1
     rw[dG h2]
   subst hv
   refine⟨n,rfl,by omega,by omega,k _ _ H1 w1 g1 aD It.range trivial ?_⟩
   rw[gp]
   exact kI (by omega)
  ·cases ee
 ·cases ee⟩
def OG (K:PySem.W.Frag)(tl:TE):TI:=fun σ H R=>tl σ H fun x H1=>∃ a,x=.ref a/\(((∃ xs,cn K H1 a xs)/\R (Ae K a) H1)\/((∃ xs,dh K H1 a xs)/\R (Af K a) H1))
def OH{l:Expr}{tl:TE}(hl:PE X l tl):PI X tg l (OG X.K tl):=by
 intro pins s σ H R I h
 refine aU (hl pins s σ H _ I h) fun v s1 ⟨x,H1,I1,r1,q1⟩=>?_
 obtain⟨a,e,q⟩:=q1
 subst e
 cases r1
 rcases q with⟨⟨xs,hq⟩,q⟩|⟨⟨xs,hq⟩,q⟩
 ·obtain⟨ao,rv,p,hz⟩:=I1.list hq
  refine VA p.isList ?_
  refine⟨s1.heap.objs.size,[s1.heap.objs.size],_,_,H1,rfl,I1.kept (t':=s1.toks) fun b o e=>Qd _ e,Mc a _,⟨_,Qp _ rfl,rfl,rfl⟩,fun b hb=>?_,q⟩
  have e:b=s1.heap.objs.size:=by simpa using hb
  subst e
  exact I1.n9 (Qg _) (I1.aw.fresh (Qg _))
 ·obtain⟨ao,rv,p,hz⟩:=I1.tuple hq
  refine JA (show s1.heap.IsTuple a ao.toArray from p) ?_
  refine⟨s1.heap.objs.size,[s1.heap.objs.size],_,_,H1,rfl,I1.kept (t':=s1.toks) fun b o e=>Qd _ e,Md a _,⟨_,Qp _ rfl,rfl,rfl⟩,fun b hb=>?_,q⟩
  have e:b=s1.heap.objs.size:=by simpa using hb
  subst e
  exact I1.n9 (Qg _) (I1.aw.fresh (Qg _))
@[simp] def eI (f:aB):jD:=fun ρ=>match f ρ with
 | some (.lst ds,_,ρ1)=>if ds.length<=1000 then some (ds,ρ1)else none
 | some (.tup ds,_,ρ1)=>if ds.length<=1000 then some (ds,ρ1)else none
 | _=>none
def lh(ha:QD X a fa):q_ X tg a (eI fa):=⟨have ha:=ha.o;PI.imp (OH ha) fun σ H R ag=>by
 obtain⟨ρ,w,t,ds,ρ',gd,ee,k⟩:=ag
 unfold eI at ee
 split at ee
 next cj q ρ1 h1=>
  split at ee
  next hl=>
   cases ee
   refine⟨ρ,w,t,.lst ds,q,ρ',gd,h1,fun v H1 w1 F g1 aD r1=>?_⟩
   have r0:=r1.drop (o:=.f) (Qg t)
   cases r0 with
   | kl h r=>exact⟨_,rfl,.inl ⟨⟨_,h.sq⟩,k _ _ H1 (bV t w1) g1.drop (aD.drop gd.wt) (It.list r.length) ⟨.inl h,r⟩ (kI hl)⟩⟩
   | shr h n r=>exact⟨_,rfl,.inl ⟨⟨_,.inl h⟩,k _ _ H1 (bV t w1) g1.drop (aD.drop gd.wt) (It.list r.length) ⟨.inr ⟨h,n⟩,r⟩ (kI hl)⟩⟩
  ·cases ee
 next cj q ρ1 h1=>
  split at ee
  next hl=>
   cases ee
   refine⟨ρ,w,t,.tup ds,q,ρ',gd,h1,fun v H1 w1 F g1 aD r1=>?_⟩
   have r0:=r1.drop (o:=.f) (Qg t)
   cases r0 with
   | tup h r=>exact⟨_,rfl,.inr ⟨⟨_,dh.of h⟩,k _ _ H1 (bV t w1) g1.drop (aD.drop gd.wt) (It.tup r.length) ⟨dh.of h,r⟩ (kI hl)⟩⟩
  ·cases ee
 ·cases ee⟩
end
abbrev fS:=D->aR->Option aR
def yy (K:PySem.W.Frag)(b:Nat)(pt:fS):TG:=fun v σ H Q=>∃ d ρ w t ρ',Good K ρ σ H w t/\Rep K H w .f 0 d v []/\pt d ρ=some ρ'/\∀ aF H' w',aF.length=σ.length->(∀ i,i<b->aF[i]? = σ[i]?)->Good K ρ' aF H' w' t->Go H w H' w'->Q aF H'
def PG.imp{t t':TG}(h:PG X tg t)(i:∀ v σ H Q,t' v σ H Q->t v σ H Q):PG X tg t':=fun pins s σ H v u Q I r q=>h pins s σ H v u Q I r (i v σ H Q q)
abbrev OI (X:Cx)(b:Nat)(tg:Expr)(pt:fS):Prop:=PG X tg (yy X.K b pt)
structure rf (X:Cx) (b:Nat) (e:Expr) (f:fS):Prop where mk::o:OI X b e f
@[simp] def aL (i:Nat):fS:=fun d ρ=>if i<ρ.length then some (ρ.set i (some (d,h_ d)))else none
def Good.rg{ρ:aR}{σ:St}{w:Wn}{t:Nat}{d:D}(g:Good K ρ σ H w t)(hi:i<σ.length)(r:Rep K H w .f 0 d v []) :
  Good K (ρ.set i (some (d,h_ d))) (σ.set i (some v)) H (ib i w) t/\Go H w H (ib i w):=by
 have st:c_ H w H (ib i w):=fun a x h n=>⟨sm h,vd n⟩
 refine⟨⟨⟨fun a o h=>g.wl a o (oD h).1,g.wl.tb⟩,fun a j h=>by rw[QN];exact g.ws a j (oD h).1,fun a j h=>g.wt a j (oD h).1,by rw[QN,QN];exact g.len,fun j d' q' e'=>?_⟩,⟨st,fun a o h n=>⟨rfl,tN h (n i)⟩⟩⟩
 by_cases hj:i=j
 ·subst hj
  rw[QL (by rw[g.len];exact hi)]at e'
  cases e'
  exact⟨v,[],QL hi,(Rep.go g.wl st r nM:Rep K H (ib i w) (.s i) 0 d v []).jY⟩
 ·rw[QM hj]at e'
  obtain⟨v',F,h1,h2⟩:=g.slot j d' q' e'
  exact⟨v',F,by rw[QM hj];exact h1,Rep.go g.wl st h2 fun a m=>⟨rfl,tN (h2.aC a m) (fun z=>hj (by cases z;rfl))⟩⟩
def cH{b:Nat}{x:Str}{pos:Pos}(hb:b<=i)(hN:X.N.Nodup)(hi:X.N[i]? = some x)(hx:Loc X.env.scope x)(hf:X.fn x=true\/X.env.scope.names.lookup x=some .local:=by first|exact .inl rfl|exact .inr rfl):rf X b (.Name x pos) (aL i):=⟨PG.imp (LW hN hi hx hf) fun v σ H Q ag=>by
 obtain⟨d,ρ,w,t,ρ',g,r,e,k⟩:=ag
 unfold aL at e
 split at e
 next hl=>
  cases e
  obtain⟨a1,a2⟩:=g.rg (by rw[<- g.len];exact hl) r
  exact k _ _ _ (by rw[QN]) (fun j hj=>QM (by omega)) a1 a2
 ·cases e⟩
def il (pt:fS)(body:aJ):List D->aR->Option Out
 | [],ρ=>some (.nx ρ)
 | d::ds,ρ=>match pt d ρ with
  | none=>none
  | some ρ1=>match body ρ1 with
   | some (.nx ρ2)=>il pt body ds ρ2
   | some (.ct ρ2)=>il pt body ds ρ2
   | some (.bk ρ2)=>some (.nx ρ2)
   | o=>o
@[simp] def fm (it:jD)(pt:fS)(body:aJ):aJ:=fun ρ=>match it ρ with
 | some (ds,ρ1)=>il pt body ds ρ1
 | none=>none
def af.oI{w w':Wn}{ds:List D}(r:af K H w .f 0 ds vs [])(wl:WL K w H)(st:c_ H w H' w'):af K H' w' .f 0 ds vs []:=af.go wl st r nM
def Rep.oI{w w':Wn}{ds:D}{vs:V}(r:Rep K H w .f 0 ds vs [])(wl:WL K w H)(st:c_ H w H' w'):Rep K H' w' .f 0 ds vs []:=Rep.go wl st r nM
def Good.more{ρ:aR}{σ:St}{w:Wn}{t:Nat}(g:Good K ρ σ H w t)(hm:Mo K H H'):Good K ρ σ H' w t/\Go H w H' w:=by
 have h:=hm.mo
 have st:c_ H w H' w:=fun a x e n=>⟨sm (h a x e),n⟩
 have kp:∀ a o,w a=some o->H' a=H a:=fun a o e=>by
  obtain⟨vs,q⟩:=g.wl a o e
  rw[q,h a _ q]
 refine⟨⟨⟨fun a o e=>?_,hm.tb g.wl.tb⟩,g.ws,g.wt,g.len,fun i d q e=>?_⟩,st,fun a o e _=>⟨kp a o e,e⟩⟩
 ·obtain⟨vs,q⟩:=g.wl a o e
  exact⟨vs,h a _ q⟩
 ·obtain⟨v,F,h1,h2⟩:=g.slot i d q e
  exact⟨v,F,h1,Rep.go g.wl st h2 fun a m=>⟨kp a _ (h2.aC a m),h2.aC a m⟩⟩
def ip{iter:Expr}{body:List Stmt}{it:jD}{pt:fS}{s:aJ}{pos:Pos}(hp:PassesOwn (model X.prog X.w) X.A X.env X.xe)(hc:X.calm=true)(hi:q_ X tg iter it)(hg:rf X 0 tg pt)(hb:fR X body s)(hs:∀ x,foldedSetIterable iter X.env x=pure x:=by intro _;rfl):jC X (.For tg iter body [] pos) (fm it pt s):=⟨have hi:=hi.o;have hg:=hg.o;have hb:=hb.o;PS.imp (Ml hp hc hi hg hb hs) fun D σ H ag=>by
 obtain⟨ρ,w,o,g,ee,k⟩:=ag
 unfold fm at ee
 split at ee
 next ds ρ1 h1=>
  refine⟨ρ,w,0,ds,ρ1,g,h1,fun J P H1 w1 g1 aD ok p1 hl=>?_⟩
  refine⟨fun i m aF H'=>m=ds.length-i/\i<=ds.length/\aF.length=σ.length/\∃ ρ' w',Good X.K ρ' aF H' w' 0/\P H' w'/\il pt s (ds.drop i) ρ'=some o/\nA X.K D σ.length H' w' o,
   ⟨ds.length,by simp,QS _,rfl,ρ1,w1,g1,p1,ee,k.trans aD⟩,?_⟩
  rintro i m aF H' ⟨rfl,rh,cV,ρ',w',g',p',e',k'⟩
  by_cases bL:i<ds.length
  ·refine .inr ⟨ok.go i H' w' p' bL,fun lO H2=>ds.length-(i+1)=ds.length-(i+1)/\i+1<=ds.length/\lO.length=σ.length/\∃ ρ2 w2,Good X.K ρ2 lO H2 w2 0/\P H2 w2/\il pt s (ds.drop (i+1)) ρ2=some o/\nA X.K D σ.length H2 w2 o,
    fun lO H2 n2=>⟨ds.length-(i+1),by omega,n2⟩,fun x H2 hy=>?_⟩
   obtain⟨mo,rx,p2⟩:=ok.qE i H' w' x H2 ds[i] p' g'.wl (Qb bL) hy
   obtain⟨g2,bg⟩:=g'.more mo
   have ed:ds.drop i=ds[i]::ds.drop (i+1):=Vx bL
   rw[ed]at e'
   unfold il at e'
   split at e'
   ·cases e'
   next gZ h3=>
    refine⟨ds[i],ρ',w',0,gZ,g2,rx,h3,fun tK H4 w4 l4 _ g4 ma=>?_⟩
    have p4:=ok.st _ _ _ _ p2 g2.wl ma.bu
    have nx:∀ {iH:aR},il pt s (ds.drop (i+1)) iH=some o->∀ jE H5 w5,jE.length=tK.length->Good X.K iH jE H5 w5 0->Go H4 w4 H5 w5->ds.length-(i+1)=ds.length-(i+1)/\i+1<=ds.length/\jE.length=σ.length/\∃ ρ2 w2,Good X.K ρ2 jE H5 w2 0/\P H5 w2/\il pt s (ds.drop (i+1)) ρ2=some o/\nA X.K D σ.length H5 w2 o:=fun {iH} e5 jE H5 w5 l5 g5 iq=>
     ⟨rfl,bL,by rw[l5,l4,cV],iH,w5,g5,ok.st _ _ _ _ p4 g4.wl iq.bu,e5,k'.trans ((bg.trans ma).trans iq)⟩
    cases h6:s gZ with
    | none=>rw[h6]at e';cases e'
    | some o6=>
     rw[h6]at e'
     refine⟨gZ,w4,o6,g4,h6,?_⟩
     cases o6 with
     | nx iH=>exact nx e'
     | ct iH=>exact nx e'
     | bk iH=>
      cases e'
      exact fun jE H5 w5 l5 g5 iq=>k' jE H5 w5 (by rw[l5,l4,cV]) g5 ((bg.trans ma).trans iq)
     | rt d q=>
      cases e'
      exact fun v H5 w5 F Bf iq r5=>k' v H5 w5 F Bf ((bg.trans ma).trans iq) r5
  ·have cS:i=ds.length:=YX rh (VW.mp bL)
   subst cS
   refine .inl ⟨ok.stop H' w' p',?_⟩
   have ed:ds.drop ds.length=[]:=by simp
   rw[ed]at e'
   cases e'
   exact k' aF H' w' cV g' Go.refl
 ·cases ee⟩
@[simp] def nB (n:Nat)(ds:List D):aR:=ds.map (fun d=>some (d,h_ d))++List.replicate (n-ds.length) none
@[simp] def cB (n:Nat)(body:aJ):List D->OD:=fun ds=>match body (nB n ds)with
 | some (.rt d q)=>some (d,q)
 | some (.nx _)=>some (.aK,9)
 | _=>none
def Bg{w:Wn}{ds:List D}(hw:∀ a o,w a=some o->o=.f)(wl:WL K w H)(r:af K H w .f 0 ds vs []):Good K (nB N.length ds) (start N vs) H w 0:=by
 refine⟨wl,(fun a i e=>by cases (hw a _ e)),(fun a i e=>by cases (hw a _ e)),?_,fun i d q e=>?_⟩
 ·unfold nB L2.start
  rw[Qo,Qo,Qe,Qe,ZK,ZK,r.length]
 ·unfold nB at e
  by_cases hi:i<ds.length
  ·rw[Q0 (by simpa using hi),Ql]at e
   cases h:ds[i]? with
   | none=>rw[h]at e;cases e
   | some d'=>
    rw[h]at e
    cases e
    obtain⟨v,hv,rv⟩:=r.get h
    refine⟨v,[],?_,(rv.any wl:Rep K H w (.s i) 0 d v []).jY⟩
    unfold L2.start
    rw[Q0 (by rw[Qe,<- r.length];exact hi),Ql,hv]
    rfl
  ·rw[Zt (by simpa using hi),Z4]at e
   split at e<;>cases e
def OJ{body:aJ}{Q:VK}(h:kM K n (cB N.length body) vs H Q E):yu K body { nx:=fun _ H'=>Q .aK H',rt:=Q } (start N vs) H:=by
 obtain⟨hn,ds,w,r,q,hw,wl,rs,e,k⟩:=h
 unfold cB at e
 split at e
 next d q' h1=>
  cases e
  exact⟨_,w,_,Bg hw wl rs,h1,fun v H' w' F pK fQ r'=>k v H' w' F fQ pK r'⟩
 next ρ' h1=>
  cases e
  exact⟨_,w,_,Bg hw wl rs,h1,fun aF H' w' _ g' fQ=>k .aK H' w' [] fQ g'.wl .aK⟩
 ·cases e
theorem Fm{P:Program}{wd:World}{mg:Str->Option Value}{base:Heap}{x qual:Str}{st:Stmt}{f:Addr}{k:Nat}{body:aJ}(F:lX K x qual st f fd)(S:ah N ps (bj st))
  (h:∀ (bG:Value) (A:Around) (outer:List Env) (s:Shared) (H:Hp) (E:XK),aQ k (A.deeper (envOfC qual (bj st) s.heap.objs.size f bG))->yv (k_ jh P wd K mg base N qual (bj st) f bG A outer s H E).iR (jg st) body) :
  dU P wd K mg base jh (k+1) f fd ps (kM K ps.length (cB N.length body)):=
 F.ok S (fun vs H Q E h=>h.1) fun bG A outer s H vs Q E hr jy=>⟨_,h bG A outer s H E hr,OJ jy⟩
def jF (k:Nat)(pt:fS)(tt:cz)(te:aB)(deep:Bool):List D->aR->Option (List D×aR)
 | [],ρ=>some ([],ρ)
 | d::ds,ρ=>match pt d (ρ++List.replicate k none)with
  | none=>none
  | some ρ1=>match tt ρ1 with
   | none=>none
   | some (b,ρ2)=>if b=true then(match te ρ2 with
     | none=>none
     | some (v,q,gZ)=>if deep=true/\v.cK=true/\q≠1 then none else match jF k pt tt te deep ds (gZ.take ρ.length)with
      | none=>none
      | some (vs,yz)=>some (v::vs,yz))
    else jF k pt tt te deep ds (ρ2.take ρ.length)
@[simp] def eS (k:Nat)(it:jD)(pt:fS)(tt:cz)(te:aB)(deep:Bool):aB:=fun ρ=>match it ρ with
 | some (ds,ρ1)=>match jF k pt tt te deep ds ρ1 with
  | some (vs,ρ2)=>some (.lst vs,if deep=true then 2 else 1,ρ2)
  | none=>none
 | none=>none
@[simp] def fL:cz:=fun ρ=>some (true,ρ)
def Good.ext{ρ:aR}{σ:St}{w:Wn}{t:Nat}(g:Good K ρ σ H w t)(k:Nat):Good K (ρ++List.replicate k none) (σ++List.replicate k none) H w t:=by
 refine⟨g.wl,fun a i e=>by rw[Qo];exact Qs (g.ws a i e) (YC _ _),g.wt,by rw[Qo,Qo,ZK,ZK,g.len],fun i d q e=>?_⟩
 by_cases hi:i<ρ.length
 ·rw[Q0 hi]at e
  obtain⟨v,F,h1,h2⟩:=g.slot i d q e
  exact⟨v,F,by rw[Q0 (by rw[<- g.len];exact hi)];exact h1,h2⟩
 ·rw[Zt (by omega),Z4]at e
  split at e<;>cases e
def me (n:Nat)(w:Wn):Wn:=fun a=>match w a with
 | some (.s i)=>if n<=i then none else some (.s i)
 | x=>x
def OL{w:Wn}(h:w a=none):me n w a=none:=by unfold me;rw[h]
def OM{w:Wn}(h:w a=some (.s i))(hi:i<n):me n w a=some (.s i):=by unfold me;rw[h];exact Qj (by omega)
def ON{w:Wn}{o:Ow}(h:w a=some o)(hn:∀ i,o ≠ .s i):me n w a=some o:=by
 unfold me;rw[h]
 cases o with
 | s i=>exact absurd rfl (hn i)
 | t i=>rfl
 | f=>rfl
def Bh{w:Wn}{o:Ow}(h:me n w a=some o):w a=some o/\∀ i,o=.s i->i<n:=by
 unfold me at h
 cases e:w a with
 | none=>rw[e]at h;cases h
 | some o'=>
  rw[e]at h
  cases o' with
  | t i=>cases h;exact⟨rfl,fun i z=>nomatch z⟩
  | f=>cases h;exact⟨rfl,fun i z=>nomatch z⟩
  | s i=>
   dsimp only at h
   split at h
   ·cases h
   ·cases h;exact⟨rfl,fun j z=>by cases z;omega⟩
def Good.cut{ρ:aR}{σ τ:St}{w:Wn}{t:Nat}(g:Good K ρ (σ++τ) H w t):Good K (ρ.take σ.length) σ H (me σ.length w) t/\Go H w H (me σ.length w):=by
 have st:c_ H w H (me σ.length w):=fun a x h n=>⟨sm h,OL n⟩
 refine⟨⟨⟨fun a o e=>g.wl a o (Bh e).1,g.wl.tb⟩,fun a i e=>(Bh e).2 i rfl,fun a i e=>g.wt a i (Bh e).1,?_,fun i d q e=>?_⟩,⟨st,fun a o e n=>⟨rfl,ON e n⟩⟩⟩
 ·rw[Zm,g.len,Qo]
  omega
 ·by_cases hi:i<σ.length
  ·rw[Z0 hi]at e
   obtain⟨v,F,h1,h2⟩:=g.slot i d q e
   rw[Q0 hi]at h1
   exact⟨v,F,h1,Rep.go g.wl st h2 fun a m=>⟨rfl,OM (h2.aC a m) hi⟩⟩
  ·rw[Vg (by omega)]at e
   cases e
def OO{σ aF τ:St}(l:aF.length=(σ++τ).length)(h:∀ i,i<σ.length->aF[i]? = (σ++τ)[i]?):∃ Fn,aF=σ++Fn/\Fn.length=τ.length:=by
 refine⟨aF.drop σ.length,?_,by rw[JX,l,Qo];omega⟩
 have e:aF.take σ.length=σ:=by
  apply ZI
  intro i
  by_cases hi:i<σ.length
  ·rw[Z0 hi,h i hi,Q0 hi]
  ·rw[Vg (by omega),Q2 (by omega)]
 conv=>lhs;rw[<- Yv σ.length aF,e]
def dq (deep:Bool):Nat:=if deep=true then 1 else 0
def jk (deep:Bool)(t:Nat)(w:Wn):Wn:=fun a=>if w a=some (.t (t+1))then(if deep=true then some (.t t)else none)else w a
def OP{ρ:aR}{σ:St}{w:Wn}{t q:Nat}{d:D}(g:Good K ρ σ H w (t+2))(r:Rep K H w (.t (t+1)) q d v F)(hq:¬ (deep=true/\d.cK=true/\q≠1)) :
  Good K ρ σ H (jk deep t w) (t+1)/\(∃ F',Rep K H (jk deep t w) (.t t) (dq deep) d v F'/\∀ a∈F',w a=some (.t (t+1)))/\c_ H w H (jk deep t w)/\(∀ a o,w a=some o->o ≠ .t (t+1)->jk deep t w a=some o):=by
 have hN:∀ a,w a=none->jk deep t w a=none:=fun a e=>by unfold jk;rw[e];rfl
 have hO:∀ a o,w a=some o->o ≠ .t (t+1)->jk deep t w a=some o:=fun a o e n=>by
  unfold jk
  rw[Qj (by rw[e];exact fun z=>n (QC z))]
  exact e
 have hI:∀ a o,jk deep t w a=some o->(w a=some (.t (t+1))/\o=.t t)\/(w a=some o/\o ≠ .t (t+1)):=fun a o e=>by
  unfold jk at e
  split at e
  ·split at e
   ·cases e;exact .inl ⟨by assumption,rfl⟩
   ·cases e
  ·rename_i n;exact .inr ⟨e,fun z=>n (by rw[e,z])⟩
 have st:c_ H w H (jk deep t w):=fun a x h n=>⟨sm h,hN a n⟩
 refine⟨⟨⟨fun a o e=>?_,g.wl.tb⟩,fun a i e=>?_,fun a i e=>?_,g.len,fun i d' q' e'=>?_⟩,?_,st,hO⟩
 ·rcases hI a o e with⟨z,_⟩|⟨z,_⟩<;>exact g.wl a _ z
 ·rcases hI a _ e with⟨_,z⟩|⟨z,_⟩
  ·cases z
  ·exact g.ws a i z
 ·rcases hI a _ e with⟨_,z⟩|⟨z,n⟩
  ·cases z;exact Zn _
  ·have:=g.wt a i z
   have:i≠t+1:=fun z=>n (by rw[z])
   omega
 ·obtain⟨v',F',h1,h2⟩:=g.slot i d' q' e'
  exact⟨v',F',h1,Rep.go g.wl st h2 fun a m=>⟨rfl,hO a _ (h2.aC a m) (fun z=>nomatch z)⟩⟩
 ·cases deep with
  | false=>
   refine⟨[],Rep.freeze hN r fun a m=>?_,fun _ z=>nomatch z⟩
   unfold jk
   rw[Qi (r.aC a m)]
   rfl
  | true=>
   have hT:∀ a,w a=some (.t (t+1))->jk true t w a=some (.t t):=fun a e=>by unfold jk;rw[Qi e];rfl
   cases hl:d.cK with
   | false=>
    obtain⟨_,hr⟩:=r.eQ hl
    exact⟨[],Rep.go g.wl st (hr 1) nM,fun _ z=>nomatch z⟩
   | true=>
    have:q=1:=by
     by_cases h:q=1
     ·exact h
     ·exact absurd ⟨rfl,hl,h⟩ hq
    subst this
    exact⟨F,Rep.go g.wl st r fun a m=>⟨rfl,hT a (r.aC a m)⟩,r.aC⟩
def OQ{ρ:aR}{σ:St}{w1:Wn}{t q:Nat}{ds:List D}(g:Good K ρ σ H1 w1 (t+1))(hp:H1 p=none)(r:af K H1 w1 (.t t) q ds vs F) :
  Good K ρ σ (upd H1 p (.lst vs)) (j0 p (.t t) w1) (t+1)/\Go H1 w1 (upd H1 p (.lst vs)) (j0 p (.t t) w1)/\Rep K (upd H1 p (.lst vs)) (j0 p (.t t) w1) (.t t) (q+1) (.lst ds) (.ref p) (p::F):=by
 have ne:∀ a x,H1 a=some x->a≠p:=fun a x e=>iC e hp
 have nw:∀ a o,w1 a=some o->a≠p:=fun a o e=>by obtain⟨vs,q⟩:=g.wl a o e;exact ne a _ q
 have st:c_ H1 w1 (upd H1 p (.lst vs)) (j0 p (.t t) w1):=fun a x e n=>⟨sm (by rw[a0 (ne a x e)];exact e),by rw[ia (ne a x e)];exact n⟩
 refine⟨⟨⟨fun a o e=>?_,g.wl.tb.upd rfl (.inl hp)⟩,fun a i e=>?_,fun a i e=>?_,g.len,fun i d q e=>?_⟩,⟨st,fun a o e _=>⟨a0 (nw a o e),(ia (nw a o e)).trans e⟩⟩,?_⟩
 ·by_cases h:a=p
  ·subst h;exact⟨.l vs,fO⟩
  ·rw[ia h]at e
   obtain⟨us,q⟩:=g.wl a o e
   exact⟨us,by rw[a0 h];exact q⟩
 ·by_cases h:a=p
  ·subst h;rw[oB]at e;cases e
  ·rw[ia h]at e;exact g.ws a i e
 ·by_cases h:a=p
  ·subst h;rw[oB]at e;cases e;exact Zn _
  ·rw[ia h]at e;exact g.wt a i e
 ·obtain⟨v,F,h1,h2⟩:=g.slot i d q e
  exact⟨v,F,h1,Rep.go g.wl st h2 fun a m=>⟨a0 (nw a _ (h2.aC a m)),(ia (nw a _ (h2.aC a m))).trans (h2.aC a m)⟩⟩
 ·exact .own fO oB (af.go g.wl st r fun a m=>⟨a0 (nw a _ (r.aC a m)),(ia (nw a _ (r.aC a m))).trans (r.aC a m)⟩) fun m=>absurd rfl (nw p _ (r.aC p m))
def Fp{k:Nat}{it:jD}{pt:fS}{tt:cz}{te:aB}:∀ σ H Q,tD K (eS k it pt tt te deep) σ H Q->x8 k (yw K it) (yy K σ.length pt) (qZ K tt) (tD K te) σ H Q:=fun σ H Q ag=>by
 obtain⟨ρ,w,t,r',q,ρ',g,ee,kk⟩:=ag
 unfold eS at ee
 split at ee
 next ds ρ1 h1=>
  split at ee
  next all ρ2 h2=>
   cases ee
   refine⟨ρ,w,t,ds,ρ1,g,h1,fun J P H1 w1 g1 aD ok p1 hl=>?_⟩
   refine⟨fun i m ys H'=>m=ds.length-i/\i<=ds.length/\ys.length<=i/\∃ gZ w3 zs F bc,Good K gZ σ H' w3 (t+1)/\Go H w H' w3/\P H' w3/\af K H' w3 (.t t) (dq deep) zs ys F /\
     jF k pt tt te deep (ds.drop i) gZ=some (bc,ρ')/\zs++bc=all,
    ⟨ds.length,by simp,QS _,Qg _,ρ1,w1,[],[],all,g1.up,aD,p1,.nil,h2,rfl⟩,?_⟩
   rintro i m ys H' ⟨rfl,rh,hys,gZ,w3,zs,F,bc,g0,oI,p0,Fq,e3,ez⟩
   have hsz:ys.length<sizeLine:=by omega
   refine⟨ZN hsz,?_⟩
   by_cases bL:i<ds.length
   ·refine .inr ⟨ok.go i H' w3 p0 bL,hsz,fun x H2 hy=>?_⟩
    obtain⟨mo,rx,p3⟩:=ok.qE i H' w3 x H2 ds[i] p0 g0.wl (Qb bL) hy
    obtain⟨g3,bg⟩:=g0.more mo
    have nC:=oI.trans bg
    have rz:=Fq.gone g0.wl bg
    have ed:ds.drop i=ds[i]::ds.drop (i+1):=Vx bL
    rw[ed]at e3
    unfold jF at e3
    split at e3
    ·cases e3
    next yz h4=>
     split at e3
     ·cases e3
     next b iH h5=>
      have gx:=g3.ext k
      have Ft:gZ.length=σ.length:=g3.len
      refine⟨ds[i],_,w3,t+1,yz,gx,rx,h4,fun tK H4 w4 l4 s4 g4 ma=>?_⟩
      obtain⟨τ,rfl,OR⟩:=OO l4 s4
      refine⟨⟨τ,rfl,by rw[OR,ZK]⟩,yz,w4,t+1,b,iH,g4,h5,fun H5 w5 g5 iq=>?_⟩
      have p5:=ok.st _ _ _ _ (ok.st _ _ _ _ p3 g3.wl ma.bu) g4.wl iq.bu
      have z5:af K H5 w5 (.t t) (dq deep) zs ys F:=(rz.gone g3.wl ma).gone g4.wl iq
      cases b with
      | false=>
       rw[Qj (by decide)]at e3
       dsimp only
       rw[Qj (by decide)]
       obtain⟨gc,rj⟩:=g5.cut
       rw[Ft]at e3
       refine⟨ds.length-(i+1),by omega,rfl,bL,by omega,_,_,zs,F,bc,gc,(nC.trans ma).trans (iq.trans rj),ok.st _ _ _ _ p5 g5.wl rj.bu,z5.gone g5.wl rj,e3,ez⟩
      | true=>
       rw[Qi rfl]at e3
       dsimp only
       rw[Qi rfl]
       split at e3
       ·cases e3
       next d6 q6 OS h6=>
        split at e3
        ·cases e3
        next OT=>
         split at e3
         ·cases e3
         next OU ρ7 h7=>
          cases e3
          refine⟨iH,w5,t+1,d6,q6,OS,g5,h6,fun v H6 w6 F6 g6 Bi r6=>?_⟩
          obtain⟨gs,⟨F',rs,OV⟩,Bj,Fu⟩:=OP g6 r6 OT
          obtain⟨gc,rj⟩:=gs.cut
          rw[Ft]at h7
          have Fv:=z5.gone g5.wl Bi
          have zF:∀ a∈F,w6 a=some (.t t):=Fv.aC
          have OW:af K H6 (jk deep t w6) (.t t) (dq deep) zs ys F:=af.go g6.wl Bj Fv fun a m=>⟨rfl,Fu a _ (zF a m) (by intro z;cases z)⟩
          have OY:Go H w H6 (jk deep t w6):=by
           have go:Go H w H6 w6:=(nC.trans ma).trans (iq.trans Bi)
           refine⟨go.bu.trans Bj,fun a o h n=>⟨(go.keep a o h n).1,Fu a o (go.keep a o h n).2 fun z=>?_⟩⟩
           subst z
           have:=g.wt a _ h
           omega
          refine⟨ds.length-(i+1),by omega,rfl,bL,by rw[Qo];simp;omega,_,_,zs++[d6],F++F',OU,gc,OY.trans rj,ok.st _ _ _ _ (ok.st _ _ _ _ p5 g5.wl Bi.bu |> fun q=>ok.st _ _ _ _ q g6.wl Bj) gs.wl rj.bu,
           ?_,h7,by rw[ZH];exact ez⟩
          refine(af.snoc rs OW fun a m m'=>?_).gone gs.wl rj
          have h1:=zF a m
          rw[OV a m']at h1
          cases h1
   ·have cS:i=ds.length:=YX rh (VW.mp bL)
    subst cS
    refine .inl ⟨ok.stop H' w3 p0,fun p hp=>?_⟩
    have ed:ds.drop ds.length=[]:=by simp
    rw[ed]at e3
    cases e3
    rw[ZO]at ez
    subst ez
    obtain⟨a1,a2,a3⟩:=OQ g0 hp Fq
    refine kk _ _ _ (p::F) a1 (oI.trans a2) ?_
    cases deep<;>exact a3
  ·cases ee
 ·cases ee
section
variable {X:Cx}{k:Nat}{N':List Str}{scope:Scope}{elt tg iter:Expr}{ifs:List Expr}{pos:Pos}{it:jD}{pt:fS}{tt:cz}{te:aB}
abbrev OZ (X:Cx)(ifs:List Expr)(f:cz):Prop:=tJ X ifs (qZ X.K f)
structure oJ (X:Cx) (e:List Expr) (f:cz):Prop where mk::o:OZ X e f
def nE:oJ X [] fL:=⟨fun pins s σ H Q I ag=>by
 obtain⟨ρ,w,t,b,ρ',gd,ee,k⟩:=ag
 cases ee
 exact NP pins s σ H Q I (k H w gd Go.refl)⟩
def rl{c:Expr}{g:cz}(h:gK X c g):oJ X [c] g:=⟨have h:=h.o;NQ h⟩
def j5(deep:Bool)(hc:X.calm=true)(S:bY X k N' scope)(hi:q_ X tg iter it)(hg:∀ C s H fp,rf (fP X N' scope C s H fp) X.N.length tg pt)(ht:∀ C s H fp,oJ (fP X N' scope C s H fp) ifs tt)(he:∀ C s H fp,QD (fP X N' scope C s H fp) elt te)(hs:∀ x,foldedSetIterable iter X.env x=pure x:=by intro _;rfl):QD X (.ListComp elt [⟨tg,iter,ifs,0⟩] scope pos) (eS k it pt tt te deep):=⟨have hi:=hi.o;have hg:=fun C s H fp=>(hg C s H fp).o;have ht:=fun C s H fp=>(ht C s H fp).o;have he:=fun C s H fp=>(he C s H fp).o;by
 intro pins s σ H Q I h
 have:=Fp σ H Q h
 rw[I.len]at this
 exact N1 (N':=N') hc S hi hg ht he hs pins s σ H Q I this⟩
def Bk{y:Str}{py iT:Pos}(deep:Bool)(hN:X.N.Nodup)(hy:X.N[i]? = some y)(hx:Loc X.env.scope y)(qT:swapsWith (.ListComp elt [⟨tg,iter,ifs,0⟩] scope pos) (some (.Name y py)) iT.line X.env=pure true)(hc:X.calm=true)(S:bY X k N' scope)(hi:q_ X tg iter it)(hg:∀ C s H fp,rf (fP X N' scope C s H fp) X.N.length tg pt)(ht:∀ C s H fp,oJ (fP X N' scope C s H fp) ifs tt)(he:∀ C s H fp,QD (fP X N' scope C s H fp) elt te)(hs:∀ x,foldedSetIterable iter X.env x=pure x:=by intro _;rfl)(hf:X.fn y=true\/X.env.scope.names.lookup y=some .local:=by first|exact .inl rfl|exact .inr rfl|assumption):jC X (.Assign [.Name y py] (.ListComp elt [⟨tg,iter,ifs,0⟩] scope pos) iT) (bh i (eS k it pt tt te deep)):=⟨have hi:=hi.o;have hg:=fun C s H fp=>(hg C s H fp).o;have ht:=fun C s H fp=>(ht C s H fp).o;have he:=fun C s H fp=>(he C s H fp).o;by
 intro pins s σ H D I h
 have hl:i<σ.length:=by rw[I.len];exact(Qr.mp hy).1
 refine N2 (N':=N') (te:=tD X.K te) (tt:=qZ X.K tt) (g:=yy X.K X.N.length pt) (wi:=yw X.K it) hN hy hx qT hc S hi hg ht he hs hf pins s σ H D I ?_
 have z:=Fj (te:=x8 k (yw X.K it) (yy X.K σ.length pt) (qZ X.K tt) (tD X.K te)) hl (fun Q q=>Fp σ H Q q) h
 rw[I.len]at z
 exact z⟩
end
mutual
def bJ:D->PyData
 | .aK=>.none
 | .bl b=>.bool b
 | .int i=>.int i
 | .str x=>.str x
 | .tup ds=>.tuple (cC ds)
 | .lst ds=>.list (cC ds)
 | .jZ _ _=>.none
 | .exc _=>.none
 | .ob _ _ _ _=>.none
 | .mp _ _=>.none
def cC:List D->List PyData
 | []=>[]
 | d::ds=>bJ d::cC ds
end
mutual
def gr:D->Bool
 | .jZ _ _=>false
 | .exc _=>false
 | .ob _ _ _ _=>false
 | .mp _ _=>false
 | .tup ds=>j6 ds
 | .lst ds=>j6 ds
 | _=>true
def j6:List D->Bool
 | []=>true
 | d::ds=>gr d&&j6 ds
end
def dA (d:D):Bool:=gr d&&SeqAt.shaped (bJ d)
def j7{d:D}(h:dA d=true):gr d=true:=(Zc.mp h).1
def j8{d:D}(h:dA d=true):SeqAt.shaped (bJ d)=true:=(Zc.mp h).2
def mf (d e:D):Bool:=PyData.eqv (bJ d) (bJ e)
section
variable {X:Cx}{pins:List (Addr×Obj)}{σ:St}{H:Hp}{s:Shared}
def Rep.reads(I:Inv X pins σ H s){w:Wn}{o:Ow}:∀ {q:Nat} {d:D} {v:V} {F:List Addr} {u:Value},Rep X.K H w o q d v F->bw v u->gr d=true->∃ as,Reads s.heap u (bJ d) as:=by
 intro q d v F u r
 refine(Rep.rec (motive_1:=fun q d v F _=>∀ u,bw v u->gr d=true->∃ as,Reads s.heap u (bJ d) as) (motive_2:=fun q ds vs F _=>∀ us,aY vs us->j6 ds=true->∃ as,ReadsAll s.heap us (cC ds) as) ?_ ?_ ?_ ?_ ?_ ?_ ?_ ?_ ?_ ?_ ?_ ?_ ?_ ?_ ?_ r:∀ u,bw v u->gr d=true->∃ as,Reads s.heap u (bJ d) as) u
 ·intro q u ru hn;cases ru;exact⟨_,by unfold bJ;exact .none⟩
 ·intro q b u ru hn;cases ru;exact⟨_,by unfold bJ;exact .bool b⟩
 ·intro q i u ru hn;obtain⟨t,rfl⟩:=ru;exact⟨_,by unfold bJ;exact .int i t⟩
 ·intro q x u ru hn;obtain⟨t,rfl⟩:=ru;exact⟨_,by unfold bJ;exact .str x t⟩
 ·intro q a vs ds h r ih u ru hn
  cases ru
  obtain⟨ao,rv,p,hz⟩:=I.tuple (dh.of h)
  obtain⟨as,ra⟩:=ih ao rv (by unfold gr at hn;exact hn)
  obtain⟨ob,ho,hc,n,hd⟩:=p
  exact⟨_,by unfold bJ;exact .tuple ho hc hd ra⟩
 ·intro q a ks vs ds h e r ih u ru hn;cases hn
 ·intro q a nm ob v h x n u ru hn;cases hn
 ·intro q f c fo oc u1 u2 vs ds h1 h2 x r ih u ru hn;cases hn
 ·intro a vs ds h r ih u ru hn
  cases ru
  obtain⟨ao,rv,p,hz⟩:=I.list h.sq
  obtain⟨as,ra⟩:=ih ao rv (by unfold gr at hn;exact hn)
  obtain⟨ob,ho,hc,n,hd⟩:=p.isList
  exact⟨_,by unfold bJ;exact .list ho hc hd ra⟩
 ·intro a vs ds h n0 r ih u ru hn
  cases ru
  obtain⟨ao,rv,p,hz⟩:=I.list (.inl h)
  obtain⟨as,ra⟩:=ih ao rv (by unfold gr at hn;exact hn)
  obtain⟨ob,ho,hc,n,hd⟩:=p.isList
  exact⟨_,by unfold bJ;exact .list ho hc hd ra⟩
 ·intro q a vs ds F h e r ne ih u ru hn
  cases ru
  obtain⟨ao,rv,p,hz⟩:=I.list (cn.of h)
  obtain⟨as,ra⟩:=ih ao rv (by unfold gr at hn;exact hn)
  obtain⟨ob,ho,hc,n,hd⟩:=p.isList
  exact⟨_,by unfold bJ;exact .list ho hc hd ra⟩
 ·intro a vs ds k x h i e l r ih u ru hn;cases hn
 ·intro q a vs ds k x h i e l r ih u ru hn;cases hn
 ·intro q us ru hn;cases ru;exact⟨_,by unfold cC;exact .nil⟩
 ·intro q d v ds vs F G r s' ne l0 l3 us ru hn
  cases ru with
  | cons rv O0=>
   unfold j6 at hn
   obtain⟨as,ra⟩:=l0 _ rv (Zc.mp hn).1
   obtain⟨bs,rb⟩:=l3 _ O0 (Zc.mp hn).2
   exact⟨_,by unfold cC;exact .cons ra rb⟩
end
def Is (K:PySem.W.Frag)(H:Hp)(d:D)(v:V):Prop:=∃ w o q F,Rep K H w o q d v F
def Fw (K:PySem.W.Frag):R2:=fun x y H Q=>∃ d e,Is K H d x/\Is K H e y/\dA d=true/\dA e=true/\Q (.bl (mf d e)) H
def Fy (K:PySem.W.Frag):R2:=fun x y H Q=>∃ d e,Is K H d x/\Is K H e y/\dA d=true/\dA e=true/\Q (.bl (!mf d e)) H
def inD (d:D):D->Option Bool
 | .lst ds=>some ((cC ds).any fun y=>PyData.eqv y (bJ d))
 | .tup ds=>some ((cC ds).any fun y=>PyData.eqv y (bJ d))
 | _=>none
def yA (K:PySem.W.Frag)(neg:Bool):R2:=fun x y H Q=>∃ d e b,Is K H d x/\Is K H e y/\dA d=true/\dA e=true/\inD d e=some b/\Q (.bl (if neg then !b else b)) H
section
variable {X:Cx}{a b c e:Expr}{fa fb fc f:aB}{pos:Pos}
def O1(hu:X.A.units+64<cLine):ef X (compareOp .Eq) (Fw X.K):=by
 intro pins s σ H x y v u Q I rx ry ⟨d,e,⟨w,o,q,F,h1⟩,⟨w',o',q',F',h2⟩,k1,k2,hq⟩
 obtain⟨as,ra⟩:=h1.reads I rx (j7 k1)
 obtain⟨bs,rb⟩:=h2.reads I ry (j7 k2)
 exact eq_dataH ra rb (j8 k1) (j8 k2) hu ⟨.bl _,H,I,rfl,hq⟩
def O2(hu:X.A.units+64<cLine):ef X (compareOp .NotEq) (Fy X.K):=by
 intro pins s σ H x y v u Q I rx ry ⟨d,e,⟨w,o,q,F,h1⟩,⟨w',o',q',F',h2⟩,k1,k2,hq⟩
 obtain⟨as,ra⟩:=h1.reads I rx (j7 k1)
 obtain⟨bs,rb⟩:=h2.reads I ry (j7 k2)
 exact ne_dataH ra rb (j8 k1) (j8 k2) hu ⟨.bl _,H,I,rfl,hq⟩
def O3(hu:X.A.units+65<cLine):ef X (compareOp .In) (yA X.K false):=by
 intro pins s σ H x y v u Q I rx ry ⟨d,e,b,⟨w,o,q,F,h1⟩,⟨w',o',q',F',h2⟩,k1,k2,hb,hq⟩
 obtain⟨as,ra⟩:=h1.reads I rx (j7 k1)
 obtain⟨bs,rb⟩:=h2.reads I ry (j7 k2)
 replace k1:=j8 k1
 replace k2:=j8 k2
 cases e with
 | lst ds=>
  cases hb
  unfold bJ at rb k2
  exact SeqAt.in_list_reads rb ra (QR k2) (QR k1) (Jv k1 hu) ⟨.bl _,H,I,rfl,hq⟩
 | tup ds=>
  cases hb
  unfold bJ at rb k2
  exact SeqAt.in_tuple_reads rb ra (QR k2) (QR k1) (Jv k1 hu) ⟨.bl _,H,I,rfl,hq⟩
 | _=>cases hb
def O4(hu:X.A.units+65<cLine):ef X (compareOp .NotIn) (yA X.K true):=by
 intro pins s σ H x y v u Q I rx ry ⟨d,e,b,⟨w,o,q,F,h1⟩,⟨w',o',q',F',h2⟩,k1,k2,hb,hq⟩
 obtain⟨as,ra⟩:=h1.reads I rx (j7 k1)
 obtain⟨bs,rb⟩:=h2.reads I ry (j7 k2)
 replace k1:=j8 k1
 replace k2:=j8 k2
 cases e with
 | lst ds=>
  cases hb
  unfold bJ at rb k2
  exact SeqAt.notIn_list_reads rb ra (QR k2) (QR k1) (Jv k1 hu) ⟨.bl _,H,I,rfl,hq⟩
 | tup ds=>
  cases hb
  unfold bJ at rb k2
  exact SeqAt.notIn_tuple_reads rb ra (QR k2) (QR k1) (Jv k1 hu) ⟨.bl _,H,I,rfl,hq⟩
 | _=>cases hb
def eJ (x y:D):Option D:=if dA x=true/\dA y=true then some (.bl (mf x y))else none
def g7 (x y:D):Option D:=if dA x=true/\dA y=true then some (.bl (!mf x y))else none
def jG (x y:D):Option D:=if dA x=true/\dA y=true then(inD x y).map fun b=>.bl b else none
def vj (x y:D):Option D:=if dA x=true/\dA y=true then(inD x y).map fun b=>.bl (!b)else none
def O5:∀ σ H Q,tD K (e2 eJ fa fb) σ H Q->kH (Fw K) (tD K fa) (tD K fb) σ H Q:=tO fun x y d h=>by
 unfold eJ at h
 split at h
 next hk=>
  cases h
  exact⟨_,rfl,fun H w o o' q q' u u' F F' r1 r2 _ Q hq=>⟨x,y,⟨_,_,_,_,r1⟩,⟨_,_,_,_,r2⟩,hk.1,hk.2,hq⟩⟩
 ·cases h
def O6:∀ σ H Q,tD K (e2 g7 fa fb) σ H Q->kH (Fy K) (tD K fa) (tD K fb) σ H Q:=tO fun x y d h=>by
 unfold g7 at h
 split at h
 next hk=>
  cases h
  exact⟨_,rfl,fun H w o o' q q' u u' F F' r1 r2 _ Q hq=>⟨x,y,⟨_,_,_,_,r1⟩,⟨_,_,_,_,r2⟩,hk.1,hk.2,hq⟩⟩
 ·cases h
def hIn:∀ σ H Q,tD K (e2 jG fa fb) σ H Q->kH (yA K false) (tD K fa) (tD K fb) σ H Q:=tO fun x y d h=>by
 unfold jG at h
 split at h
 next hk=>
  cases hi:inD x y with
  | none=>rw[hi]at h;cases h
  | some b=>
   rw[hi]at h
   cases h
   exact⟨_,rfl,fun H w o o' q q' u u' F F' r1 r2 _ Q hq=>⟨x,y,b,⟨_,_,_,_,r1⟩,⟨_,_,_,_,r2⟩,hk.1,hk.2,hi,hq⟩⟩
 ·cases h
def oK{k:Nat}(hr:aQ k X.A)(ha:QD X a fa)(hb:QD X b fb):gK X (.Compare a [.Eq] [b] pos) (bA (e2 eJ fa fb)):=⟨have ha:=ha.o;have hb:=hb.o;vg (O1 hr.units) O5 ha hb (xJ _)⟩
def tS{k:Nat}(hr:aQ k X.A)(ha:QD X a fa)(hb:QD X b fb):gK X (.Compare a [.NotEq] [b] pos) (bA (e2 g7 fa fb)):=⟨have ha:=ha.o;have hb:=hb.o;vg (O2 hr.units) O6 ha hb (xJ _)⟩
def vk{k:Nat}(r:aQ k A):A.units+65<cLine:=by have:=r.un;omega
def Bl{k:Nat}(hr:aQ k X.A)(ha:QD X a fa)(hb:QD X b fb)(hm:behindInMarks .In b=false:=by with_unfolding_all rfl):gK X (.Compare a [.In] [b] pos) (bA (e2 jG fa fb)):=⟨have ha:=ha.o;have hb:=hb.o;vg (O3 (vk hr)) hIn ha hb hm⟩
end
@[simp] def eB (h:List D->Option D)(g:bT):aB:=fun ρ=>match g ρ with
 | some (ds,ρ1)=>match h ds with
  | some d=>some (d,9,ρ1)
  | none=>none
 | none=>none
section
variable {X:Cx}{a b c e:Expr}{es:List Expr}{fa fb fc f:aB}{g:bT}{pos p p1 p2:Pos}
def Fz{h:List D->Option D}{r:List V->Hp->VK->Prop}(hh:∀ ds d,h ds=some d->∃ v,kL d=some v/\∀ H w vs,WL K w H->af K H w .f 0 ds vs []->∀ Q:VK,Q v H->r vs H Q) :
  ∀ σ H Q,tD K (eB h g) σ H Q->xO r (Bb K g) σ H Q:=fun σ H Q ag=>by
 obtain⟨ρ,w,t,r',q,ρ',gd,ee,k⟩:=ag
 unfold eB at ee
 split at ee
 next ds ρ1 h1=>
  split at ee
  next d hd=>
   cases ee
   obtain⟨v,hv,hr⟩:=hh ds _ hd
   exact⟨ρ,w,t,ds,_,gd,h1,fun vs H1 w1 g1 aD r1=>hr H1 w1 vs g1.wl r1 Q (k v H1 w1 [] g1.up aD (yn hv))⟩
  ·cases ee
 ·cases ee
def one{w:Wn}{o:Ow}{d:D}(r:af K H w o 0 [d] vs []):∃ v,vs=[v]/\Rep K H w o 0 d v []:=by
 have l:=r.length
 match vs,l with
 | [v],_=>
  obtain⟨v',h1,h2⟩:=r.get (i:=0) rfl
  cases h1
  exact⟨v,rfl,h2⟩
def two{w:Wn}{o:Ow}{d d':D}(r:af K H w o 0 [d,d'] vs []):∃ v v',vs=[v,v']/\Rep K H w o 0 d v []/\Rep K H w o 0 d' v' []:=by
 have l:=r.length
 match vs,l with
 | [v,v'],_=>
  obtain⟨u,h1,h2⟩:=r.get (i:=0) rfl
  obtain⟨u',h3,h4⟩:=r.get (i:=1) rfl
  cases h1
  cases h3
  exact⟨v,v',rfl,h2,h4⟩
def iI:D->Option Nat
 | .lst ds=>some ds.length
 | .tup ds=>some ds.length
 | _=>none
@[simp] def vm:List D->Option D
 | [d]=>(iI d).map fun n=>.int (Int.ofNat n)
 | _=>none
def Rep.len{w:Wn}{o:Ow}{q:Nat}{d:D}(r:Rep K H w o q d v F)(h:iI d=some n):∃ p ys,v=.ref p/\(cn K H p ys\/dh K H p ys)/\ys.length=n:=by
 cases d with
 | lst ds=>
  cases h
  obtain⟨p,vs,q',G,rfl,hq,rs⟩:=r.oE
  exact⟨p,vs,rfl,.inl hq,rs.length.symm⟩
 | tup ds=>
  cases h
  obtain⟨p,vs,rfl,hq,rs⟩:=r.ic
  exact⟨p,vs,rfl,.inr hq,rs.length.symm⟩
 | _=>cases h
def O7(hm:X.mg "len" = none)(ha:fi X [a] g)(hg:Gl X "len":=by rfl)(he:starEach [a] X.env=(false,eval a X.env)::starEach [] X.env:=by rfl)(bX:(backTo pos (starEach [] X.env)).any (·.1)=false:=by rfl):QD X (.Call (.Name "len" p) [a] [] pos) (eB vm g):=⟨have ha:=ha.o;PE.imp (nu EN hg hm PySem.boot_len ha (by decide) (by decide) he bX) (Fz fun ds d h=>by
  match ds,h with
  | [d0],h=>
   cases hl:iI d0 with
   | none=>simp only[vm,hl,Option.map_none]at h;cases h
   | some n=>
    simp only[vm,hl,JF,Option.some.injEq]at h
    subst h
    refine⟨_,rfl,fun H w vs wl r Q hq=>?_⟩
    obtain⟨v,rfl,rv⟩:=one r
    obtain⟨p,ys,rfl,hs,hn⟩:=rv.len hl
    exact⟨p,ys,rfl,hs,by rw[hn];exact hq⟩)⟩
@[simp] def cq (i:Nat):aB:=fun ρ=>match ρ[i]? with
 | some (some (d,_))=>match iI d with
  | some n=>some (.int (Int.ofNat n),9,ρ)
  | none=>none
 | _=>none
def fE{x:Str}(hm:X.mg "len" = none)(h:QE X (.Name x p1) (fK i))(hg:Gl X "len":=by rfl)(he:starEach [.Name x p1] X.env=(false,eval (.Name x p1) X.env)::starEach [] X.env:=by rfl)(bX:(backTo pos (starEach [] X.env)).any (·.1)=false:=by rfl):QD X (.Call (.Name "len" p) [.Name x p1] [] pos) (cq i):=⟨have h:=h.o;PE.imp (nu EN hg hm PySem.boot_len (gE h jf he) (by decide) (by decide) he bX) fun σ H Q ag=>by
 obtain⟨ρ,w,t,r',q,ρ',gd,ee,k⟩:=ag
 unfold cq at ee
 split at ee
 next d q0 e0=>
  split at ee
  next n hn=>
   cases ee
   obtain⟨v,F,h1,h2⟩:=gd.slot i d q0 e0
   obtain⟨p,ys,rfl,hs,hl⟩:=h2.len hn
   exact⟨_,h1,p,ys,rfl,hs,by rw[hl];exact k _ H w [] gd.up Go.refl (.int _)⟩
  ·cases ee
 ·cases ee⟩
@[simp] def yB:List D->Option D
 | [.int i,.int j]=>some (.int (if j > i then j else i))
 | _=>none
def FA(hc:X.calm=true)(hm:X.mg "max" = none)(hb:bootBuiltins "max" = some (.builtin "max"))(ha:fi X (a::es) g)(hg:Gl X "max":=by rfl)(he:starEach (a::es) X.env=(false,eval a X.env)::starEach es X.env:=by rfl)(bX:(backTo pos (starEach es X.env)).any (·.1)=false:=by rfl):QD X (.Call (.Name "max" p) (a::es) [] pos) (eB yB g):=⟨have ha:=ha.o;PE.imp (nu (MF hc) hg hm hb ha (by decide) (by decide) he bX) (Fz fun ds d h=>by
  unfold yB at h
  split at h
  next i j=>
   cases h
   refine⟨_,rfl,fun H w vs wl r Q hq=>?_⟩
   obtain⟨v,v',rfl,r1,r2⟩:=two r
   exact⟨i,j,by rw[dG r1,dG r2],hq⟩
  ·cases h)⟩
@[simp] def vn (g:bT):aB:=fun ρ=>match g ρ with
 | some ([.lst ds],ρ1)=>some (.lst ds,1,ρ1)
 | some ([.tup ds],ρ1)=>some (.lst ds,1,ρ1)
 | _=>none
def O8(hm:X.mg "list" = none)(hb:bootBuiltins "list" = some (.type "list"))(ha:fi X [a] g)(hg:Gl X "list":=by rfl)(he:starEach [a] X.env=(false,eval a X.env)::starEach [] X.env:=by rfl)(bX:(backTo pos (starEach [] X.env)).any (·.1)=false:=by rfl):QD X (.Call (.Name "list" p) [a] [] pos) (vn g):=⟨have ha:=ha.o;PE.imp (qK M3 hg hm hb ha (by decide) (by decide) he bX) fun σ H Q ag=>by
 obtain⟨ρ,w,t,r',q,ρ',gd,ee,k⟩:=ag
 unfold vn at ee
 split at ee
 next ds ρ1 h1=>
  cases ee
  refine⟨ρ,w,t,_,_,gd,h1,fun vs H1 w1 g1 aD r1=>?_⟩
  obtain⟨v,rfl,rv⟩:=one r1
  obtain⟨p,ys,rfl,hs,rs⟩:=rv.gY
  refine⟨p,ys,rfl,.inl hs,fun l hl=>?_⟩
  obtain⟨a1,a2,a3⟩:=l7 g1 hl rs
  exact k _ _ _ _ a1 (aD.trans a2) a3
 next ds ρ1 h1=>
  cases ee
  refine⟨ρ,w,t,_,_,gd,h1,fun vs H1 w1 g1 aD r1=>?_⟩
  obtain⟨v,rfl,rv⟩:=one r1
  obtain⟨p,ys,rfl,hs,rs⟩:=rv.ic
  refine⟨p,ys,rfl,.inr hs,fun l hl=>?_⟩
  obtain⟨a1,a2,a3⟩:=l7 g1 hl rs
  exact k _ _ _ _ a1 (aD.trans a2) a3
 ·cases ee⟩
@[simp] def j9 (g:bT):aB:=fun ρ=>match g ρ with
 | some ([.lst ds],ρ1)=>some (.tup ds,9,ρ1)
 | some ([.tup ds],ρ1)=>some (.tup ds,9,ρ1)
 | _=>none
def rn(hm:X.mg "tuple" = none)(hb:bootBuiltins "tuple" = some (.type "tuple"))(ha:fi X [a] g)(hg:Gl X "tuple":=by rfl)(he:starEach [a] X.env=(false,eval a X.env)::starEach [] X.env:=by rfl)(bX:(backTo pos (starEach [] X.env)).any (·.1)=false:=by rfl):QD X (.Call (.Name "tuple" p) [a] [] pos) (j9 g):=⟨have ha:=ha.o;PE.imp (qK M4 hg hm hb ha (by decide) (by decide) he bX) fun σ H Q ag=>by
 obtain⟨ρ,w,t,r',q,ρ',gd,ee,k⟩:=ag
 unfold j9 at ee
 split at ee
 next ds ρ1 h1=>
  cases ee
  refine⟨ρ,w,t,_,_,gd,h1,fun vs H1 w1 g1 aD r1=>?_⟩
  obtain⟨v,rfl,rv⟩:=one r1
  obtain⟨p,ys,rfl,hs,rs⟩:=rv.gY
  refine⟨p,ys,rfl,.inl ⟨hs,fun l hl=>?_⟩⟩
  obtain⟨a1,a2,a3⟩:=yk g1 hl rs
  exact k _ _ _ _ a1 (aD.trans a2) a3
 next ds ρ1 h1=>
  cases ee
  refine⟨ρ,w,t,_,_,gd,h1,fun vs H1 w1 g1 aD r1=>?_⟩
  obtain⟨v,rfl,rv⟩:=one r1
  have rr:=rv
  obtain⟨p,ys,rfl,hs,rs⟩:=rv.ic
  refine⟨p,ys,rfl,.inr ⟨hs,?_⟩⟩
  exact k _ H1 w1 [] g1.up aD (((rr.eQ rfl).2 9).any g1.wl)
 ·cases ee⟩
def FC (ta:TA):TE:=fun σ H Q=>ta σ H fun vs H1=>∃ j:Int,vs=[.int j] /\ -(2 ^ 62)<=j/\j<2 ^ 62/\∀ p,H1 p=none->Q (.ref p) (upd H1 p (.k9 0 j))
def FD{ta:TA}(hg:Gl X "range")(hm:X.mg "range" = none)(ha:PA X [a] ta)(hs:starEach [a] X.env=[(false,eval a X.env)]:=by rfl):PE X (.Call (.Name "range" p) [a] [] pos) (FC ta):=by
 intro pins s σ H Q I h
 refine Call_ (qC I hg hm boot_range (ZR (aU (ha pos pins s σ H _ I h) fun us s1 ⟨vs,H1,I1,r1,q1⟩=>?_) hs rfl))
 obtain⟨j,e,q1,q2,q⟩:=q1
 subst e
 cases r1 with
 | cons r rr=>
  cases rr
  obtain⟨t,rfl⟩:=r
  refine call_range_1 ?_
  exact⟨.ref s1.heap.objs.size,upd H1 s1.heap.objs.size (.k9 0 j),I1.laid (fun b u e=>Qd _ e) (Qg _) ⟨_,_,_,Qp _ rfl⟩,rfl,q _ (I1.aw.fresh (Qg _))⟩
end
def FE{j:Int}(h1:-(2 ^ 62)<=j)(h2:j<2 ^ 62):Builtin.Range.small 0 j 1=true:=by
 have hs:Builtin.Range.rangeSize 0 j 1=((j.toNat:Nat):Int):=by
  simp[Builtin.Range.rangeSize]<;>split<;>omega
 simp only[Builtin.Range.small,hs,Builtin.Range.rangeFitsLong]
 simp
 omega
def FF(j:Int):Builtin.Range.rangeSize 0 j 1=((j.toNat:Nat):Int):=by
 simp[Builtin.Range.rangeSize]<;>split<;>omega
def FG{acc:Array Value}(h:ItemsOf (fun i v=>∃ t,v=Value.int (0+(i:Nat)*1) t) acc n):aY (pL n) acc.toList:=by
 have key:∀ (us:List Value) (k:Nat),(∀ j v,us[j]? = some v->∃ t,v=Value.int (((k+j:Nat)):Int) t)->aY ((List.range' k us.length).map fun i=>V.int (Int.ofNat i)) us:=by
  intro us
  induction us with
  | nil=>intro k _;exact .nil
  | cons u r ih=>
   intro k hk
   obtain⟨t,e⟩:=hk 0 u rfl
   refine .cons ⟨t,by rw[e];rfl⟩ (ih (k+1) fun j v hv=>?_)
   obtain⟨t',e'⟩:=hk (j+1) v (by simpa using hv)
   exact⟨t',by rw[e'];congr 2;omega⟩
 have:=key acc.toList 0 fun j v hv=>by
  obtain⟨t,e⟩:=h.2 j v (by simpa using hv)
  exact⟨t,by rw[e];congr 1;omega⟩
 have hl:acc.toList.length=n:=by simpa using h.1
 rw[hl]at this
 unfold pL
 rw[Ug]
 exact this
section
variable {prog:Program}{w:World}{A:Around}{E:Value->Shared->Prop}{s:Shared}
open AutoSeq1 (wpAny_loadPart')
theorem O9{Q:List Value->Shared->Prop}{r:Addr}{a:Int}{t v:Tok}(hh:A.handled=none)(hr:IsRange s.heap r a b c t u v)(fT:Builtin.Range.small a b c=true)(hn:Builtin.Range.rangeSize a b c=n)(hlen:n<=2 ^ 24)
  (hQ:∀ h' tk ba,(∀ b o',s.heap.get? b=some o'->h'.get? b=some o')->ItemsOf (fun i v=>∃ t,v=.int (a+i*c) t) ba n->Q ba.toList { s with heap:=h',toks:=tk }) :
  wpAny (model prog w) A (collect (.ref r)) Q E s:=by
 unfold collect
 refine Qa (Uh (ZA F.entry_proto_collect ?_))
 rw[ZF F.plain_proto_collect _]
 show wpAny _ A.in1 (newList [] >>= fun l=>again (.builtin "list.__iadd__" ⟨[l,.ref r],[]⟩)) _ _ s
 refine Qa (Zd ?_)
 refine Qc ⟨YK F.plain_list_iadd _,ZA F.entry_list_iadd ?_⟩
 rw[ZF F.plain_list_iadd _]
 show wpAny _ A.in1 (Builtin.List.listExtendWith (.ref s.heap.objs.size) (.ref r) (.ref s.heap.objs.size)) _ _ _
 have hS:(s.heap.push { cls:=.type "list",data:=.seq ([]:List Value).toArray }).get? s.heap.objs.size=some { cls:=.type "list",data:=.seq #[] 0 }:=Qp _ rfl
 have vo:∀ (h':Heap) (tk:Nat) (ba:Array Value) (c':Nat),(∀ b o,b≠s.heap.objs.size->(s.heap.push { cls:=.type "list",data:=.seq ([]:List Value).toArray }).get? b=some o->h'.get? b=some o)->
   h'.get? s.heap.objs.size=some { cls:=.type "list",dict:=none,data:=.seq ba c',slots:=#[] }->ItemsOf (fun i v=>∃ t,v=.int (a+i*c) t) ba n->wpAny (model prog w) A (match Value.ref s.heap.objs.size with
   | Value.ref a=>do
    match (<- load a).data with
     | Data.seq xs _=>pure xs.toList
     | _=>unsupported "internal:collect"
   | _=>unsupported "internal:collect") Q E { s with heap:=h',toks:=tk }:=fun h' tk ba c' hk oM bP=>by
  show wpAny _ A (load s.heap.objs.size >>= _) _ _ _
  refine Qa (wpAny_load oM ?_)
  refine Qc (hQ h' tk ba (fun b o' hb=>?_) bP)
  exact hk b o' (Qz (Qm hb)) (Qd _ hb)
 refine ZB (wpAny_extend_range (A:=A) (R:=fun rs s'=>rs=.ok (.ret (.ref s.heap.objs.size))/\∃ h' tk ba c',s'={ s with heap:=h',toks:=tk }/\(∀ b o,b≠s.heap.objs.size->(s.heap.push { cls:=.type "list",data:=.seq ([]:List Value).toArray }).get? b=some o->h'.get? b=some o) /\
   h'.get? s.heap.objs.size=some { cls:=.type "list",dict:=none,data:=.seq ba c',slots:=#[] }/\ItemsOf (fun i v=>∃ t,v=.int (a+i*c) t) ba n)
  (s:={ s with heap:=s.heap.push { cls:=.type "list",data:=.seq ([]:List Value).toArray } }) hh (Qd _ hr) fT hn hlen s.heap.objs.size (.ref s.heap.objs.size) 0 hS (fun h' tk ba c' hk oM bP=>⟨rfl,h',tk,ba,c',rfl,hk,oM,bP⟩)) (fun fin s' h=>?_) (fun e s' h=>?_)
 ·cases fin with
  | done f=>
   obtain⟨e,h',tk,ba,c',rfl,hk,oM,bP⟩:=h
   cases e
   exact vo h' tk ba c' hk oM bP
  | again c'=>exact⟨h.1,Jl h.2 fun r nr hr=>by
    obtain⟨rfl,h',tk,ba,c',rfl,hk,oM,bP⟩:=hr
    exact vo h' tk ba c' hk oM bP⟩
 ·exact absurd h.1 (by simp)
end
def O_(r:Addr)(a b c:Int)(t u v:Tok)(n:Nat)(fT:Builtin.Range.small a b c=true)(hn:Builtin.Range.rangeSize a b c=n)(hlen:n<=2 ^ 24) :
  Meets (Builtin.«tuple.__new__» ⟨[.type "tuple",.ref r],[]⟩)
   (fun A R s=>A.handled=none/\IsRange s.heap r a b c t u v/\∀ (h':Heap) tk ba,(∀ b o',s.heap.get? b=some o'->h'.get? b=some o')->ItemsOf (fun i v=>∃ t,v=.int (a+i*c) t) ba n->R (.ok (.ret (.ref h'.objs.size))) { s with heap:=h'.push { cls:=.type "tuple",data:=.seq ba },toks:=tk }):=
 .of_wp fun prog w A R s h=>by
  obtain⟨hp,g,d,tk,os⟩:=s;obtain⟨hh,hr,h⟩:=h
  have bO:=sub_tuple_self
  have FH:=init_tuple_lookup
  have hmh:=madeHere_tuple
  have hT:Shared.TypeIs ⟨hp,g,d,tk,os⟩ (.ref r) "range":=⟨_,hr,rfl⟩
  have Bm:A.in1.handled=none:=hh
  wp_walk using AutoSeq1.wpAny_loadPart' hr,VX hT,O9 Bm hr fT hn hlen
  intro h' vq ba hk bP
  show wpAny _ _ (Builtin.Tuple.tupleExact ba.toList.toArray >>= fun v=>ret v) _ _ _
  unfold Builtin.Tuple.tupleExact
  have hsz:ba.size<=sizeLine:=by rw[bP.1];exact hlen
  refine Qa (Zd ?_ (by show ba.toList.toArray.size<=sizeLine;simpa using hsz))
  refine Qc ⟨_,rfl,?_⟩
  have e:ba.toList.toArray=ba:=by simp
  rw[e]
  exact h h' vq ba hk bP
theorem Pa{prog:Program}{w:World}{E:Value->Shared->Prop}{s:Shared}{r:Addr}{a:Int}{t v:Tok}{Q:Value->Shared->Prop}(hh:A.handled=none)(hr:IsRange s.heap r a b c t u v)(fT:Builtin.Range.small a b c=true)(hn:Builtin.Range.rangeSize a b c=n)(hlen:n<=2 ^ 24)
  (h:∀ (h':Heap) tk ba,(∀ b o',s.heap.get? b=some o'->h'.get? b=some o')->ItemsOf (fun i v=>∃ t,v=.int (a+i*c) t) ba n->Q (.ref h'.objs.size) { s with heap:=h'.push { cls:=.type "tuple",data:=.seq ba },toks:=tk }) :
  wpAny (model prog w) A (call (.type "tuple") [.ref r]) Q E s:=
 callType_new F.called_tuple (by decide) (F.typeCall_tuple_1 _) (F.newCall_tuple_1 _) (fun obj=>F.args_object_init_2 obj _) F.entry_tuple_new
  (O_ r a b c t u v n fT hn hlen) ⟨hh,hr,fun h' tk ba hk bP=>⟨⟨_,Qp _ rfl,rfl⟩,h h' tk ba hk bP⟩⟩
section
variable {X:Cx}
def Bn (mk:List V->HO):List V->Hp->VK->Prop:=fun xs H Q=>∃ a j,xs=[.ref a]/\H a=some (.k9 0 j) /\ -1000<=j/\j<=1000/\∀ p,H p=none->Q (.ref p) (upd H p (mk (pL j.toNat)))
def Pb(hc:X.calm=true):iE X (.type "list") (Bn .lst):=by
 intro pins s σ H xs us Q I r h
 obtain⟨a,j,rfl,hr,j1,j2,q⟩:=h
 obtain⟨u,rfl,rx⟩:=jw r
 cases rx
 obtain⟨t,u,v,ho⟩:=(show cR X.prog X.w H s.heap a (.k9 0 j)from I.aw a _ hr)
 refine call_list_range (I.ok.hd hc) ho (FE (by omega) (by omega)) (FF j) (by omega) fun h' tk ba c' hk oM bP=>?_
 refine⟨.ref s.heap.objs.size,_,I.laid (t':=tk) (o:=.lst (pL j.toNat)) hk (Qg _) ⟨by rw[Fl];exact QU (by omega:j.toNat<=1000) (by decide),ba.toList,c',FG bP,by simpa using oM⟩,rfl,q _ (I.aw.fresh (Qg _))⟩
def Pc(hc:X.calm=true):iE X (.type "tuple") (Bn .tup):=by
 intro pins s σ H xs us Q I r h
 obtain⟨a,j,rfl,hr,j1,j2,q⟩:=h
 obtain⟨u,rfl,rx⟩:=jw r
 cases rx
 obtain⟨t,u,v,ho⟩:=(show cR X.prog X.w H s.heap a (.k9 0 j)from I.aw a _ hr)
 refine Pa (I.ok.hd hc) ho (FE (by omega) (by omega)) (FF j) (by omega) fun h' tk ba hk bP=>?_
 have I1:Inv X pins σ H { s with heap:=h',toks:=tk }:=I.kept hk
 have I2:Inv X pins σ (upd H h'.objs.size (.tup (pL j.toNat))) { s with heap:=h'.push { cls:=.type "tuple",data:=.seq ba },toks:=tk }:=
  I1.laid (t':=tk) (fun b o e=>Qd _ e) (Qg _) (show cR X.prog X.w _ _ _ (.tup _)from⟨by rw[Fl];exact QU (by omega:j.toNat<=1000) (by decide),ba.toList,FG bP,by simpa using lG.new h' ba⟩)
 exact⟨.ref h'.objs.size,_,I2,rfl,q _ (I1.aw.fresh (Qg _))⟩
variable {a:Expr}{g:bT}{pos p p1 kP:Pos}
@[simp] def pM (g:bT):aB:=fun ρ=>match cX g ρ with
 | some (ds,ρ1)=>some (.lst ds,1,ρ1)
 | none=>none
@[simp] def FI (g:bT):aB:=fun ρ=>match cX g ρ with
 | some (ds,ρ1)=>some (.tup ds,9,ρ1)
 | none=>none
def FJ{mk:List V->HO}{q0:Nat}{md:List D->D}(al:∀ {ρ:aR} {σ:St} {H1:Hp} {w1:Wn} {t:Nat} {p:Addr} {vs:List V} {ds:List D},Good K ρ σ H1 w1 t->H1 p=none->af K H1 w1 .f 0 ds vs []->∃ w' F,Good K ρ σ (upd H1 p (mk vs)) w' (t+1)/\Go H1 w1 (upd H1 p (mk vs)) w'/\Rep K (upd H1 p (mk vs)) w' (.t t) q0 (md ds) (.ref p) F) :
  ∀ σ H Q,tD K (fun ρ=>match cX g ρ with
   | some (ds,ρ1)=>some (md ds,q0,ρ1)
   | none=>none) σ H Q->xO (Bn mk) (EC (FC (Bb K g)) EB) σ H Q:=fun σ H Q ag=>by
 obtain⟨ρ,w,t,r',q,ρ',gd,ee,k⟩:=ag
 dsimp only at ee
 split at ee
 next ds ρ1 h1=>
  cases ee
  unfold cX at h1
  split at h1
  next n ρ2 h2=>
   split at h1
   next hn=>
    cases h1
    refine⟨ρ,w,t,_,_,gd,h2,fun vs H1 w1 g1 aD r1=>?_⟩
    obtain⟨v,rfl,rv⟩:=one r1
    have hv:=dG rv
    subst hv
    refine⟨n,rfl,by omega,by omega,fun p hp=>⟨p,n,rfl,fO,hn.1,hn.2,fun l hl=>?_⟩⟩
    have ne:∀ a x,H1 a=some x->a≠p:=fun a x e=>iC e hp
    have st:c_ H1 w1 (upd H1 p (.k9 0 n)) w1:=fun a x e nn=>⟨sm (by rw[a0 (ne a x e)];exact e),nn⟩
    have nw:∀ a o,w1 a=some o->a≠p:=fun a o e=>by obtain⟨vs,q⟩:=g1.wl a o e;exact ne a _ q
    have g2:Good K ρ' σ (upd H1 p (.k9 0 n)) w1 t:=⟨⟨fun a o e=>by
     obtain⟨us,q⟩:=g1.wl a o e
     exact⟨us,by rw[a0 (nw a o e)];exact q⟩,g1.wl.tb.upd rfl (.inl hp)⟩,g1.ws,g1.wt,g1.len,fun i d q e=>by
     obtain⟨v,F,h1,h2⟩:=g1.slot i d q e
     exact⟨v,F,h1,Rep.go g1.wl st h2 fun a m=>⟨a0 (nw a _ (h2.aC a m)),h2.aC a m⟩⟩⟩
    have bg:Go H1 w1 (upd H1 p (.k9 0 n)) w1:=⟨st,fun a o e _=>⟨a0 (nw a o e),e⟩⟩
    obtain⟨w',F,a1,a2,a3⟩:=al g2 hl (OF n.toNat)
    exact k _ _ _ _ a1 ((aD.trans bg).trans a2) a3
   ·cases h1
  ·cases h1
 ·cases ee
def Bo(hc:X.calm=true)(hm:X.mg "list" = none)(hb:bootBuiltins "list" = some (.type "list"))(Bp:X.mg "range" = none)(ha:fi X [a] g)(hg:Gl X "list":=by rfl)(Bq:Gl X "range":=by rfl)(hs:starEach [a] X.env=[(false,eval a X.env)]:=by rfl)(he:starEach [.Call (.Name "range" p1) [a] [] kP] X.env=(false,eval (.Call (.Name "range" p1) [a] [] kP) X.env)::starEach [] X.env:=by rfl)(bX:(backTo pos (starEach [] X.env)).any (·.1)=false:=by rfl):QD X (.Call (.Name "list" p) [.Call (.Name "range" p1) [a] [] kP] [] pos) (pM g):=⟨have ha:=ha.o;PE.imp (qK (Pb hc) hg hm hb (gE (FD Bq Bp ha hs) jf he) (by decide) (by decide) he bX) (FJ fun g hp r=>by
  obtain⟨a1,a2,a3⟩:=l7 g hp r
  exact⟨_,_,a1,a2,a3⟩)⟩
def Pd(hc:X.calm=true)(hm:X.mg "tuple" = none)(hb:bootBuiltins "tuple" = some (.type "tuple"))(Bp:X.mg "range" = none)(ha:fi X [a] g)(hg:Gl X "tuple":=by rfl)(Bq:Gl X "range":=by rfl)(hs:starEach [a] X.env=[(false,eval a X.env)]:=by rfl)(he:starEach [.Call (.Name "range" p1) [a] [] kP] X.env=(false,eval (.Call (.Name "range" p1) [a] [] kP) X.env)::starEach [] X.env:=by rfl)(bX:(backTo pos (starEach [] X.env)).any (·.1)=false:=by rfl):QD X (.Call (.Name "tuple" p) [.Call (.Name "range" p1) [a] [] kP] [] pos) (FI g):=⟨have ha:=ha.o;PE.imp (qK (Pc hc) hg hm hb (gE (FD Bq Bp ha hs) jf he) (by decide) (by decide) he bX) (FJ fun g hp r=>by
  obtain⟨a1,a2,a3⟩:=yk g hp r
  exact⟨_,_,a1,a2,a3⟩)⟩
end
end L3
namespace L3
open PySem PySem.Spec PyProof.Rows L2
def Pe{M:Model}{A:Around}{E:Value->Shared->Prop}{s:Shared}{β:Type}{n:Nat}(f:Nat->β->Sem (ForInStep β))(I:List Nat->β->Shared->Prop)(Q:β->Shared->Prop)(b:β)
  (turn:∀ x bc b s,I (x::bc) b s->wpAny M A (f x b) (fun r s'=>match r with|.yield b'=>I bc b' s' | .done b'=>Q b' s') E s)
  (fin:∀ b s,I [] b s->Q b s) (h:I (List.range' 0 n 1) b s):wpAny M A (forIn [0:n] b f) Q E s:=by
 rw[JS]
 refine JY f I Q turn fin _ b ?_
 have e:(Std.Legacy.Range.size [0:n])=n:=by simp[Std.Legacy.Range.size]
 show I (List.range' 0 (Std.Legacy.Range.size [0:n]) 1) b s
 rw[e]
 exact h
open AutoSeq1 (wpAny_loadPart') in
def Pf(l:Addr)(items:Array Value)(n:Nat)(dd:Option Addr)(sl:Array (Option Value))(x:Value)(e:Value->Bool)(j:Nat)(hj:j<items.size)(hit:e items[j]=true)(Pg:∀ m (hm:m<items.size),m<j->e items[m]=false) :
  Meets (Builtin.«tuple.index» ⟨[.ref l,x],[]⟩)
   (fun A R s=>s.heap.get? l=some { cls:=.type "tuple",dict:=dd,data:=.seq items n,slots:=sl }/\(∀ y,y∈items->SeqAt.EqAt A.in1 s y x (e y))/\R (.ok (.ret (.int j s.toks))) { s with toks:=s.toks+1 }):=
 .of_wp fun prog w A R s h=>by
  obtain⟨hp,g,d,tk,os⟩:=s;obtain⟨hl,he,h⟩:=h
  wp_walk using wpAny_loadPart' hl,Pe _ (fun bc b s'=>b.1=none/\s'=⟨hp,g,d,tk,os⟩/\∃ i k,bc=List.range' i k 1/\i+k=items.size/\i<=j) _
  case turn=>
   rintro y bc b s' ⟨hb,rfl,i,k,hr,tT,rp⟩
   cases k with
   | zero=>simp at hr
   | succ k=>
    rw[YD]at hr
    obtain⟨rfl,rfl⟩:=List.cons.inj hr
    have bL:y<items.size:=by omega
    have Br:items[y]? = some items[y]:=by simp[bL]
    rw[Br]
    refine Qa (he _ (VB bL) prog w _ _ ?_)
    by_cases Ph:y=j
    ·subst Ph
     rw[hit]
     wp_walk
     exact⟨_,rfl,h⟩
    ·rw[Pg y bL (by omega)]
     wp_walk
     exact⟨rfl,rfl,y+1,k,rfl,by omega,by omega⟩
  case fin=>
   rintro ⟨b1,b2⟩ s' ⟨hb,rfl,i,k,hr,tT,rp⟩
   cases k with
   | zero=>omega
   | succ k=>simp[YD]at hr
  case h=>
   exact⟨rfl,rfl,0,items.size,by simp,by omega,by omega⟩
end L3
namespace L3
open PySem PySem.Spec PyProof.Rows L2
variable {F:List Addr}{H:Hp}{K:PySem.W.Frag}{N ps:List Str}{P:Program}{Q:Value->Shared->Prop}{Sq:Hp->List V->Prop}{X:Cx}{base:Heap}{body:aJ}{d:D}{ds:List D}{g1 g2:Int->Int->Option D}{h1 h2:Int->Int->V}{i n q:Nat}{it j p:Addr}{mg:Str->Option Value}{o:Ow}{op kA:CmpOp}{st:Stmt}{u:Value}{vs:List V}{w:Wn}{x:Str}{ρ:aR}{σ:St}
def tU (d:D)(ds:List D):Option Nat:=(cC ds).findIdx? fun y=>PyData.eqv y (bJ d)
def Pj (K:PySem.W.Frag):V->List V->Hp->VK->Prop:=fun x xs H Q=>∃ ds d y j,xs=[y]/\Is K H (.tup ds) x/\Is K H d y/\dA (.tup ds)=true/\dA d=true/\tU d ds=some j/\Q (.int (Int.ofNat j)) H
section
variable {X:Cx}{a b c e:Expr}{es:List Expr}{fa fb fc f:aB}{g:bT}{pos p p1 p2 aq apos:Pos}
def Pk(hu:X.A.units+65<cLine):xQ X "tuple.index" (Pj X.K):=by
 intro pins s σ H x xs v us Q I rx rs ⟨ds,d,y,j,e,⟨w,o,q,F,h1⟩,⟨w',o',q',F',h2⟩,k1,k2,hj,hq⟩
 subst e
 obtain⟨u,rfl,ru⟩:=jw rs
 obtain⟨as,ra⟩:=h1.reads I rx (j7 k1)
 obtain⟨bs,rb⟩:=h2.reads I ru (j7 k2)
 replace k1:=j8 k1
 replace k2:=j8 k2
 unfold bJ at ra k1
 have mh:PyData.canLayAll0 (cC ds)=true:=QR k1
 have pN:=QR k2
 cases ra with
 | @tuple a ob vs n _ _ ho j_ hd pO=>
  obtain⟨cls,dd,data,sl⟩:=ob
  simp only at j_ hd
  subst j_ hd
  have jH:=Vh _ _ _ mh pO
  have Bs:=Jf.mp hj
  obtain⟨Bu,Bv,Bw⟩:=Bs
  have hlen:vs.size=(cC ds).length:=by rw[<- jH];simp
  have rq:∀ m (hm:m<vs.size) (fF:m<(cC ds).length),SeqAt.readOf s.heap vs[m]=(cC ds)[m]:=fun m hm fF=>by
   have:(vs.toList.map (SeqAt.readOf s.heap))[m]? = (cC ds)[m]?:=by rw[jH]
   simpa [hm,fF]using this
  refine Jr VD ⟨_,ho,rfl⟩ PySem.F.entry_tuple_index (PySem.F.args_tuple_index_2 _ _)
   (Pf a vs n dd sl u (fun y=>PyData.eqv (SeqAt.readOf s.heap y) (bJ d)) j (by omega) (by rw[rq j (by omega) Bu];simpa using Bv) (fun m hm Bx=>by rw[rq m hm (by omega)];simpa using Bw m Bx)) ⟨ho,VM pO rb mh pN (Jv k2 hu),?_⟩
  exact⟨.int (Int.ofNat j),H,I.tok _,⟨_,rfl⟩,hq⟩
@[simp] def By (fo:aB)(g:bT):aB:=fun ρ=>match fo ρ with
 | some (.tup ds,_,ρ1)=>match g ρ1 with
  | some ([d],ρ2)=>if dA (.tup ds)=true/\dA d=true then match tU d ds with
   | some j=>some (.int (Int.ofNat j),9,ρ2)
   | none=>none
   else none
  | _=>none
 | _=>none
def Pl{k:Nat}(hr:aQ k X.A)(ho:QD X a fa)(ha:fi X [e] g)(bR:attributeBase a "index" X.env (eval a X.env)=eval a X.env:=by rfl)(dk:((backTo aq (starEach [e] X.env)).all (fun x=>!x.1)&&(backToKw aq (keywordEach [] X.env)).all (fun x=>x.1.isSome)
   && decide ([e].length+([]:List Keyword).length+(if([]:List Keyword).isEmpty then 0 else 1)<30))=true:=by rfl) (bS:(apos.endLine==aq.line)=true:=by rfl) (hs:starEach [e] X.env=(false,eval e X.env)::starEach [] X.env:=by rfl) (bN:(backTo aq (starEach [] X.env)).any (·.1)=false:=by rfl):QD X (.Call (.Attribute a "index" apos) [e] [] aq) (By fa g):=⟨have ho:=ho.o;have ha:=ha.o;PE.imp (tG PySem.F.plainAttrs_tuple VD PySem.F.type_tuple_index (Pk (vk hr)) ho ha bR dk bS hs bN) fun σ H Q ag=>by
 obtain⟨ρ,w,t,r',q,ρ',gd,ee,k⟩:=ag
 unfold By at ee
 split at ee
 next ds q1 ρ1 h1=>
  split at ee
  next d ρ2 h2=>
   split at ee
   next aw=>
    split at ee
    next j hj=>
     cases ee
     refine⟨ρ,w,t,_,_,_,gd,h1,fun v H1 w1 F1 g1 aD r1=>?_⟩
     have r0:=r1.drop (o:=.f) (Qg t)
     have gg:=g1.drop (t':=t)
     obtain⟨p0,vs,rfl,hq,rs⟩:=r0.pJ
     refine⟨?_,ρ1,bV t w1,t,_,_,gg,h2,fun FK H2 w2 g2 bg r2=>?_⟩
     ·exact .inr (.inl ⟨rfl,.inr ⟨_,hq⟩⟩)
     ·obtain⟨v2,rfl,vt⟩:=one r2
      have r3:Rep X.K H2 w2 .f 0 (.tup ds) (.ref p0) []:=r0.oI gg.wl bg.bu
      exact⟨ds,d,v2,j,rfl,⟨_,_,_,_,r3⟩,⟨_,_,_,_,vt⟩,aw.1,aw.2,hj,k _ H2 w2 [] g2.up ((aD.drop gd.wt).trans bg) (.int _)⟩
    ·cases ee
   ·cases ee
  ·cases ee
 ·cases ee⟩
def Good.mut{t:Nat}(g:Good K ρ σ H w t)(e:ρ[i]? = some (some (.lst ds,1))) :
  ∃ l vs,σ[i]? = some (some (.ref l))/\H l=some (.lst vs)/\af K H w .f 0 ds vs []/\∀ cj fg,af K H w .f 0 cj fg []->
   Good K (ρ.set i (some (.lst cj,1))) σ (upd H l (.lst fg)) w t/\Go H w (upd H l (.lst fg)) w:=by
 obtain⟨v,F,h1,h2⟩:=g.slot i _ _ e
 cases h2 with
 | @own _ l vs _ F' hl hw rs ne=>
  have hF:=rs.zero
  subst hF
  refine⟨l,vs,h1,hl,rs.any g.wl,fun cj fg r'=>?_⟩
  have nl:∀ a o,w a=some o->o ≠ .s i->a≠l:=fun a o e n z=>by subst z;rw[hw]at e;exact n (QC e).symm
  have nn:∀ a,w a=none->a≠l:=fun a e z=>by subst z;rw[hw]at e;cases e
  have st:c_ H w (upd H l (.lst fg)) w:=fun a x h n=>⟨sm (by rw[a0 (nn a n)];exact h),n⟩
  refine⟨⟨⟨fun a o h=>?_,g.wl.tb.upd rfl (.inr (g.wl l _ hw))⟩,g.ws,g.wt,by rw[QN];exact g.len,fun j d' q' e'=>?_⟩,⟨st,fun a o h n=>⟨a0 (nl a o h (n i)),h⟩⟩⟩
  ·by_cases z:a=l
   ·subst z;exact⟨.l _,fO⟩
   ·obtain⟨us,q⟩:=g.wl a o h
    exact⟨us,by rw[a0 z];exact q⟩
  ·by_cases hj:i=j
   ·subst hj
    rw[QL (Qr.mp e).1]at e'
    cases e'
    exact⟨_,_,h1,.own fO hw (af.go g.wl st r' nM) (fun z=>nomatch z)⟩
   ·rw[QM hj]at e'
    obtain⟨v',F',pP,mi⟩:=g.slot j d' q' e'
    exact⟨v',F',pP,Rep.go g.wl st mi fun a m=>⟨a0 (nl a _ (mi.aC a m) (fun z=>hj (by cases z;rfl))),mi.aC a m⟩⟩
@[simp] def rA:Option (OD)->Bool
 | some (some (.lst _,_))=>true
 | _=>false
def Good.cK{t:Nat}(g:Good K ρ σ H w t)(h:rA ρ[i]? = true):∃ l,σ[i]? = some (some (.ref l))/\∃ vs,cn K H l vs:=by
 unfold rA at h
 split at h
 next ds q e=>
  obtain⟨v,F,h1,h2⟩:=g.slot i _ _ e
  obtain⟨p,vs,_,_,rfl,hq,_⟩:=h2.oE
  exact⟨p,h1,vs,hq⟩
 ·cases h
@[simp] def jo (i:Nat)(g:bT):aB:=fun ρ=>if rA ρ[i]? = true then match g ρ with
 | some ([d],ρ1)=>match ρ1[i]? with
  | some (some (.lst ds,1))=>if ds.length<=1000 then some (.aK,9,ρ1.set i (some (.lst (ds++[d]),1)))else none
  | _=>none
 | _=>none
 else none
def nF(h:QE X (.Name x p1) (fK i))(ha:fi X [e] g)(bR:attributeBase (.Name x p1) "append" X.env (eval (.Name x p1) X.env)=eval (.Name x p1) X.env:=by rfl)(dk:((backTo aq (starEach [e] X.env)).all (fun x=>!x.1)&&(backToKw aq (keywordEach [] X.env)).all (fun x=>x.1.isSome)
   && decide ([e].length+([]:List Keyword).length+(if([]:List Keyword).isEmpty then 0 else 1)<30))=true:=by rfl) (bS:(apos.endLine==aq.line)=true:=by rfl) (hs:starEach [e] X.env=(false,eval e X.env)::starEach [] X.env:=by rfl) (bN:(backTo aq (starEach [] X.env)).any (·.1)=false:=by rfl):QD X (.Call (.Attribute (.Name x p1) "append" apos) [e] [] aq) (jo i g):=⟨have h:=h.o;have ha:=ha.o;PE.imp (tG Z5 PySem.F.slot_list_append PySem.F.type_list_append M8 h ha bR dk bS hs bN) fun σ H Q ag=>by
 obtain⟨ρ,w,t,r',q,ρ',gd,ee,k⟩:=ag
 unfold jo at ee
 split at ee
 next hl=>
  obtain⟨l,cV,us,hq⟩:=gd.cK hl
  split at ee
  next d ρ1 h1=>
   split at ee
   next ds e1=>
    split at ee
    next hlen=>
     cases ee
     refine⟨_,cV,.inl ⟨rfl,us,hq⟩,ρ,w,t,_,_,gd,h1,fun vs H1 w1 g1 aD r1=>?_⟩
     obtain⟨v,rfl,rv⟩:=one r1
     obtain⟨l',ws,cO,hH,rs,mk⟩:=g1.mut e1
     rw[cV]at cO
     cases cO
     have r2:af X.K H1 w1 .f 0 (ds++[d]) (ws++[v]) []:=af.snoc (F:=[]) (G:=[]) rv rs nM
     obtain⟨m1,m2⟩:=mk _ _ r2
     refine⟨l,ws,v,rfl,rfl,hH,by rw[<- rs.length];exact kI hlen,?_⟩
     exact k .aK _ w1 [] m1.up (aD.trans m2) .aK
    ·cases ee
   ·cases ee
  ·cases ee
 ·cases ee⟩
def af.eraseIdx:∀ {ds:List D} {vs:List V} (i:Nat),af K H w .f 0 ds vs []->af K H w .f 0 (ds.eraseIdx i) (vs.eraseIdx i) []
 | ds,vs,i,r=>by
  generalize hF:([]:List Addr)=F at r
  cases r with
  | nil=>exact .nil
  | @cons _ d v ds vs F G r s _=>
   have h1:F=[]:=r.zero
   have h2:G=[]:=s.zero
   subst h1 h2
   cases i with
   | zero=>exact s
   | succ j=>exact .cons (F:=[]) (G:=[]) r (af.eraseIdx j s) nM
@[simp] def vw (i:Nat)(g:bT):aB:=fun ρ=>if rA ρ[i]? = true then match g ρ with
 | some ([.int n],ρ1)=>match ρ1[i]? with
  | some (some (.lst ds,1))=>if -1000<=n/\n<=1000 then match seqIndex? n ds.length with
   | some j=>match ds[j]? with
    | some d=>some (d,h_ d,ρ1.set i (some (.lst (ds.eraseIdx j),1)))
    | none=>none
   | none=>none
   else none
  | _=>none
 | _=>none
 else none
def Pm(h:QE X (.Name x p1) (fK i))(ha:fi X [e] g)(bR:attributeBase (.Name x p1) "pop" X.env (eval (.Name x p1) X.env)=eval (.Name x p1) X.env:=by rfl)(dk:((backTo aq (starEach [e] X.env)).all (fun x=>!x.1)&&(backToKw aq (keywordEach [] X.env)).all (fun x=>x.1.isSome)
   && decide ([e].length+([]:List Keyword).length+(if([]:List Keyword).isEmpty then 0 else 1)<30))=true:=by rfl) (bS:(apos.endLine==aq.line)=true:=by rfl) (hs:starEach [e] X.env=(false,eval e X.env)::starEach [] X.env:=by rfl) (bN:(backTo aq (starEach [] X.env)).any (·.1)=false:=by rfl):QD X (.Call (.Attribute (.Name x p1) "pop" apos) [e] [] aq) (vw i g):=⟨have h:=h.o;have ha:=ha.o;PE.imp (tG Z5 PySem.F.slot_list_pop PySem.F.type_list_pop Nb h ha bR dk bS hs bN) fun σ H Q ag=>by
 obtain⟨ρ,w,t,r',q,ρ',gd,ee,k⟩:=ag
 unfold vw at ee
 split at ee
 next hl=>
  obtain⟨l,cV,us,hq⟩:=gd.cK hl
  split at ee
  next n ρ1 h1=>
   split at ee
   next ds e1=>
    split at ee
    next hn=>
     split at ee
     next j hj=>
      split at ee
      next d hd=>
       cases ee
       refine⟨_,cV,.inl ⟨rfl,us,hq⟩,ρ,w,t,_,_,gd,h1,fun vs H1 w1 g1 aD r1=>?_⟩
       obtain⟨v,rfl,rv⟩:=one r1
       have hv:=dG rv
       subst hv
       obtain⟨l',ws,cO,hH,rs,mk⟩:=g1.mut e1
       rw[cV]at cO
       cases cO
       obtain⟨y,hy,ry⟩:=rs.get hd
       obtain⟨m1,m2⟩:=mk _ _ (rs.eraseIdx j)
       refine⟨l,ws,n,j,y,rfl,rfl,hH,by omega,by omega,by rw[<- rs.length];exact hj,hy,?_⟩
       have Pn:Rep X.K _ w1 (.t t) 0 r' y []:=Rep.go g1.wl m2.bu ry nM
       exact k y _ w1 [] m1.up (aD.trans m2) Pn.jY
      ·cases ee
     ·cases ee
    ·cases ee
   ·cases ee
  ·cases ee
 ·cases ee⟩
end
def af.vx:∀ {ds:List D} {vs:List V} {F:List Addr} {i:Nat} {d:D},af K H w o q ds vs F->ds[i]? = some d->∃ v G,vs[i]? = some v/\Rep K H w o q d v G/\∀ a∈G,a∈F
 | _,_,_,_,_,.nil,e=>by simp at e
 | _,_,_,0,_,.cons r _ _,e=>by
  simp at e;subst e;exact⟨_,_,rfl,r,fun a m=>QA _ m⟩
 | _,_,_,i+1,d,.cons _ s _,e=>by
  obtain⟨v,G,h1,h2,h3⟩:=af.vx (i:=i) (d:=d) s (by simpa using e)
  exact⟨v,G,by simpa using h1,h2,fun a m=>Qq _ (h3 a m)⟩
def af.FL{i:Int}(r:af K H w o q ds vs F)(h:L2.dW ds i=some d):∃ v G,L2.dW vs i=some v/\Rep K H w o q d v G/\∀ a∈G,a∈F:=by
 unfold L2.dW at h ⊢
 rw[<- r.length]
 cases e:iF ds.length i with
 | none=>rw[e]at h;cases h
 | some j=>
  rw[e]at h
  exact r.vx h
@[simp] def aI (n:Nat)(fb:aB):aB:=fun ρ=>match ρ[n]? with
 | some (some _)=>match fb ρ with
  | some (.int i,_,ρ2)=>match ρ2[n]? with
   | some (some (x,q))=>match fC x i with
    | some d=>if d.cK=true/\1<q/\x.cK=true then none else some (d,h_ d,ρ2)
    | none=>none
   | _=>none
  | _=>none
 | _=>none
section
variable {X:Cx}{a b c e:Expr}{es:List Expr}{fa fb fc f:aB}{g:bT}{pos p p1 p2 aq apos:Pos}
def bZ(h:QE X (.Name x p1) (fK n))(hb:QD X b fb)(hs:uR b:=by exact fun _ _=>rfl):QD X (.Subscript (.Name x p1) b pos) (aI n fb):=⟨have h:=h.o;have hb:=hb.o;PE.imp (xR xS h hb hs) fun σ H Q ag=>by
 obtain⟨ρ,w,t,r',q,ρ',gd,ee,k⟩:=ag
 unfold aI at ee
 split at ee
 next z0 e0=>
  obtain⟨d0,q0⟩:=z0
  obtain⟨v,F,cV,_⟩:=gd.slot n d0 q0 e0
  split at ee
  next i q2 ρ2 h2=>
   split at ee
   next x q e2=>
    split at ee
    next d hd=>
     split at ee
     ·cases ee
     next hn=>
      cases ee
      refine⟨v,cV,ρ,w,t,_,_,_,gd,h2,fun y H2 w2 F2 g2 go r2=>?_⟩
      have hy:=dG r2
      subst hy
      have gg:=g2.drop (t':=t)
      obtain⟨v',F',cO,rr⟩:=gg.slot n x q e2
      rw[cV]at cO
      cases cO
      have fin:∀ u,Rep X.K H2 (bV t w2) (.t t) 0 r' u []->Q u H2:=fun u ru=>k u H2 (bV t w2) [] gg.up (go.drop gd.wt) ru.jY
      cases x with
      | lst ds=>
       by_cases Po:q=0
       ·subst Po
        obtain⟨p0,vs,rfl,hq,rs⟩:=rr.gY
        obtain⟨u,hu,ru⟩:=rs.dW hd
        exact .inl ⟨p0,vs,i,u,rfl,rfl,hq,hu,fin u (ru.any gg.wl)⟩
       ·by_cases rB:q=1
        ·subst rB
         cases rr with
         | own h0 _ rs _=>
          have z0:=rs.zero
          subst z0
          obtain⟨u,hu,ru⟩:=rs.dW hd
          exact .inl ⟨_,_,i,u,rfl,rfl,cn.of h0,hu,fin u (ru.any gg.wl)⟩
        ·obtain⟨p0,vs,q',G,rfl,hq,rs⟩:=rr.oE
         obtain⟨u,G',hu,ru,_⟩:=rs.FL hd
         refine .inl ⟨p0,vs,i,u,rfl,rfl,hq,hu,fin u ?_⟩
         cases hL:r'.cK with
         | false=>exact((ru.eQ hL).2 0).any gg.wl
         | true=>exact absurd ⟨hL,by omega,rfl⟩ hn
      | tup ds=>
       obtain⟨p0,vs,rfl,hq,rs⟩:=rr.ic
       obtain⟨u,hu,ru⟩:=rs.dW hd
       exact .inr (.inl ⟨p0,vs,i,u,rfl,rfl,hq,hu,fin u (ru.any gg.wl)⟩)
      | _=>cases hd
    ·cases ee
   ·cases ee
  ·cases ee
 ·cases ee⟩
@[simp] def vy (fa fb:aB):aB:=fun ρ=>match fa ρ with
 | some (.lst ds,1,ρ1)=>match fb ρ1 with
  | some (.int n,_,ρ2)=>if -1000<=n/\n<=1000/\ds.length*n.toNat<=1000 then some (.lst (List.replicate n.toNat ds).flatten,1,ρ2)else none
  | _=>none
 | _=>none
def af.app{es:List D}{us:List V}(s:af K H w .f 0 es us []):∀ {ds:List D} {vs:List V},af K H w .f 0 ds vs []->af K H w .f 0 (ds++es) (vs++us) []
 | ds,vs,r=>by
  generalize hF:([]:List Addr)=F at r
  cases r with
  | nil=>rw[<- hF];exact s
  | @cons _ d v ds vs F G r t _=>
   have h1:F=[]:=r.zero
   have h2:G=[]:=t.zero
   subst h1 h2
   exact .cons (F:=[]) (G:=[]) r (af.app s t) nM
def af.times(r:af K H w .f 0 ds vs []):∀ n:Nat,af K H w .f 0 (List.replicate n ds).flatten (List.replicate n vs).flatten []
 | 0=>.nil
 | n+1=>by
  rw[ZW,ZW,Jm,Jm]
  exact af.app (af.times r n) r
def Pp(ha:QD X a fa)(hb:QD X b fb):QD X (.BinOp a .Mult b pos) (vy fa fb):=⟨have ha:=ha.o;have hb:=hb.o;PE.imp (qG Nd ha hb) fun σ H Q ag=>by
 obtain⟨ρ,w,t,r',q,ρ',gd,ee,k⟩:=ag
 unfold vy at ee
 split at ee
 next ds ρ1 h1=>
  split at ee
  next n q2 ρ2 h2=>
   split at ee
   next hn=>
    cases ee
    refine qV gd h1 h2 fun u u' H2 w2 F1 F2 g2 go r1 r2=>?_
    have qX:=dG r2
    subst qX
    cases r1 with
    | @own _ l vs _ F hl hw rs ne=>
     have hF:=rs.zero
     subst hF
     have gg:=g2.drop (t':=t)
     have oN:af X.K H2 (bV t w2) .f 0 ds vs []:=af.go g2.wl (fun a x h n=>⟨sm h,yj n⟩) rs nM
     refine⟨l,n,vs,rfl,rfl,hl,by omega,by omega,?_,fun p hp=>?_⟩
     ·rw[<- rs.length];exact qY hn.2.2
     ·obtain⟨a1,a2,a3⟩:=l7 gg hp (oN.times n.toNat)
      exact k _ _ _ _ a1 ((go.drop gd.wt).trans a2) a3
   ·cases ee
  ·cases ee
 ·cases ee⟩
end
def af.row(wl:WL K w H):∀ {rows:List D} {vs:List V} {F:List Addr} {i:Nat} {row:List D},af K H w o 1 rows vs F->rows[i]? = some (.lst row)->
  ∃ b ws,vs[i]? = some (.ref b)/\H b=some (.lst ws)/\w b=some o/\b∈F/\af K H w .f 0 row ws [] /\
   ∀ gL kc,af K H w .f 0 gL kc []->af K (upd H b (.lst kc)) w o 1 (rows.set i (.lst gL)) vs F
 | _,_,_,_,_,.nil,e=>by simp at e
 | _,_,_,0,row,.cons r s ne,e=>by
  simp at e
  subst e
  cases r with
  | @own _ b ws _ F' hb hw rs nb=>
   have hF:=rs.zero
   subst hF
   refine⟨b,ws,rfl,hb,hw,by simp,rs.any wl,fun gL kc r'=>?_⟩
   have nn:∀ a,w a=none->a≠b:=fun a e z=>by subst z;rw[hw]at e;cases e
   have st:c_ H w (upd H b (.lst kc)) w:=fun a x h n=>⟨sm (by rw[a0 (nn a n)];exact h),n⟩
   refine .cons (.own fO hw (af.go wl st r' nM) (fun z=>nomatch z)) (af.go wl st s fun a m=>⟨a0 fun z=>?_,s.aC a m⟩) ne
   subst z
   exact ne a (by simp) m
 | _,_,_,i+1,row,.cons (d:=d) (v:=v) (F:=F) (G:=G) r s ne,e=>by
  obtain⟨b,ws,h1,h2,h3,h4,h5,mk⟩:=af.row wl (i:=i) (row:=row) s (by simpa using e)
  refine⟨b,ws,by simpa using h1,h2,h3,Qq _ h4,h5,fun gL kc r'=>?_⟩
  have nn:∀ a,w a=none->a≠b:=fun a e z=>by subst z;rw[h3]at e;cases e
  have st:c_ H w (upd H b (.lst kc)) w:=fun a x h n=>⟨sm (by rw[a0 (nn a n)];exact h),n⟩
  refine .cons (Rep.go wl st r fun a m=>⟨a0 fun z=>?_,r.aC a m⟩) (mk gL kc r') ne
  subst z
  exact ne a m h4
def Good.Bz{t m:Nat}{rows row:List D}(g:Good K ρ σ H w t)(e:ρ[i]? = some (some (.lst rows,2)))(em:rows[m]? = some (.lst row)) :
  ∃ l vs b ws,σ[i]? = some (some (.ref l))/\cn K H l vs/\vs.length=rows.length/\vs[m]? = some (.ref b)/\H b=some (.lst ws)/\af K H w .f 0 row ws []/\∀ gL kc,af K H w .f 0 gL kc []->
   Good K (ρ.set i (some (.lst (rows.set m (.lst gL)),2))) σ (upd H b (.lst kc)) w t/\Go H w (upd H b (.lst kc)) w:=by
 obtain⟨v,F,h1,h2⟩:=g.slot i _ _ e
 cases h2 with
 | @own _ l vs _ F' hl hw rs nl=>
  obtain⟨b,ws,b1,b2,b3,b4,b5,mk⟩:=af.row g.wl rs em
  have Pq:l≠b:=fun z=>by subst z;exact nl b4
  refine⟨l,vs,b,ws,h1,cn.of hl,rs.length.symm,b1,b2,b5,fun gL kc r'=>?_⟩
  have FN:∀ a o,w a=some o->o ≠ .s i->a≠b:=fun a o e n z=>by subst z;rw[b3]at e;exact n (QC e).symm
  have nn:∀ a,w a=none->a≠b:=fun a e z=>by subst z;rw[b3]at e;cases e
  have st:c_ H w (upd H b (.lst kc)) w:=fun a x h n=>⟨sm (by rw[a0 (nn a n)];exact h),n⟩
  refine⟨⟨⟨fun a o h=>?_,g.wl.tb.upd rfl (.inr (g.wl b _ b3))⟩,g.ws,g.wt,by rw[QN];exact g.len,fun j d' q' e'=>?_⟩,⟨st,fun a o h n=>⟨a0 (FN a o h (n i)),h⟩⟩⟩
  ·by_cases z:a=b
   ·subst z;exact⟨.l _,fO⟩
   ·obtain⟨us,q⟩:=g.wl a o h
    exact⟨us,by rw[a0 z];exact q⟩
  ·by_cases hj:i=j
   ·subst hj
    rw[QL (Qr.mp e).1]at e'
    cases e'
    exact⟨_,_,h1,.own (by rw[a0 Pq];exact hl) hw (mk gL kc r') nl⟩
   ·rw[QM hj]at e'
    obtain⟨v',F',pP,mi⟩:=g.slot j d' q' e'
    exact⟨v',F',pP,Rep.go g.wl st mi fun a m=>⟨a0 (FN a _ (mi.aC a m) (fun z=>hj (by cases z;rfl))),mi.aC a m⟩⟩
def af.vz{v:V}(rv:Rep K H w .f 0 d v []):∀ {ds:List D} {vs:List V} (i:Nat),af K H w .f 0 ds vs []->af K H w .f 0 (ds.set i d) (vs.set i v) []
 | ds,vs,i,r=>by
  generalize hF:([]:List Addr)=F at r
  cases r with
  | nil=>rw[<- hF];exact .nil
  | @cons _ d' v' ds vs F G r s _=>
   have h1:F=[]:=r.zero
   have h2:G=[]:=s.zero
   subst h1 h2
   cases i with
   | zero=>exact .cons (F:=[]) (G:=[]) rv s nM
   | succ j=>exact .cons (F:=[]) (G:=[]) r (af.vz rv j s) nM
abbrev nH:=aR->Option Int
def tQ (K:PySem.W.Frag)(f:nH):TE:=fun σ H Q=>∃ ρ w t i,Good K ρ σ H w t/\f ρ=some i/\Q (.int i) H
abbrev PQ (X:Cx)(e:Expr)(f:nH):Prop:=PE X e (tQ X.K f)
structure QQ (X:Cx) (e:Expr) (f:nH):Prop where mk::o:PQ X e f
@[simp] def rC (n:Nat):nH:=fun ρ=>match ρ[n]? with
 | some (some (.int i,_))=>some i
 | _=>none
@[simp] def rD (n:Nat)(f:nH):nH:=fun ρ=>match f ρ with
 | some i=>match ρ[n]? with
  | some (some (x,_))=>match fC x i with
   | some (.int j)=>some j
   | _=>none
  | _=>none
 | none=>none
section
variable {X:Cx}{a b c e:Expr}{es:List Expr}{fa fb fc f:aB}{qa qb:nH}{g:bT}{pos p p1 p2 aq apos:Pos}
def FO(h:QE X (.Name x p1) (fK n)):QQ X (.Name x p1) (rC n):=⟨have h:=h.o;PE.imp h fun σ H Q ag=>by
 obtain⟨ρ,w,t,i,gd,ee,k⟩:=ag
 unfold rC at ee
 split at ee
 next j q e0=>
  cases ee
  obtain⟨v,F,h1,h2⟩:=gd.slot n _ _ e0
  rw[dG h2]at h1
  exact⟨_,h1,k⟩
 ·cases ee⟩
def FP(h:QE X (.Name x p1) (fK n))(hb:QQ X b qb)(hs:uR b:=by exact fun _ _=>rfl):QQ X (.Subscript (.Name x p1) b pos) (rD n qb):=⟨have h:=h.o;have hb:=hb.o;PE.imp (xR xS h hb hs) fun σ H Q ag=>by
 obtain⟨ρ,w,t,i,gd,ee,k⟩:=ag
 unfold rD at ee
 split at ee
 next i0 h0=>
  split at ee
  next x q e0=>
   split at ee
   next j hj=>
    cases ee
    obtain⟨v,F,h1,h2⟩:=gd.slot n _ _ e0
    refine⟨v,h1,ρ,w,t,i0,gd,h0,?_⟩
    cases x with
    | lst ds=>
     obtain⟨p0,vs,q',G,rfl,hq,rs⟩:=h2.oE
     obtain⟨u,G',hu,ru,_⟩:=rs.FL hj
     rw[dG ru]at hu
     exact .inl ⟨p0,vs,i0,_,rfl,rfl,hq,hu,k⟩
    | tup ds=>
     obtain⟨p0,vs,rfl,hq,rs⟩:=h2.ic
     obtain⟨u,hu,ru⟩:=rs.dW hj
     rw[dG ru]at hu
     exact .inr (.inl ⟨p0,vs,i0,_,rfl,rfl,hq,hu,k⟩)
    | _=>cases hj
   ·cases ee
  ·cases ee
 ·cases ee⟩
@[simp] def vA (n:Nat)(qi qj:nH)(fe:aB):aJ:=fun ρ=>match fe ρ with
 | some (d,_,ρ1)=>match qi ρ1,qj ρ1,ρ1[n]? with
  | some i,some j,some (some (.lst rows,2))=>match iF rows.length i with
   | some m=>match rows[m]? with
    | some (.lst row)=>match iF row.length j with
     | some k=>some (.nx (ρ1.set n (some (.lst (rows.set m (.lst (row.set k d))),2))))
     | none=>none
    | _=>none
   | none=>none
  | _,_,_=>none
 | none=>none
def Pr(h:QE X (.Name x p1) (fK n))(ha:QQ X a qa)(hb:QQ X b qb)(he:QD X e f)(hi:uR a:=by exact fun _ _=>rfl)(BA:∀ v,assign (.Subscript (.Subscript (.Name x p1) a p2) b p) X.env v=(do
   let ov <- holding [v] (eval (.Subscript (.Name x p1) a p2) X.env)
   let iv <- holding [v,ov] (eval b X.env)
   standAt p
   holding [v,ov,iv] (setItem ov iv v)
   release [v,ov,iv] []):=by exact fun _=>rfl) (hs:swapsWithSole [.Subscript (.Subscript (.Name x p1) a p2) b p] e pos.line X.env=pure false:=by rfl):jC X (.Assign [.Subscript (.Subscript (.Name x p1) a p2) b p] e pos) (vA n qa qb f):=⟨have h:=h.o;have ha:=ha.o;have hb:=hb.o;have he:=he.o;by
 refine PS.imp (El he (L_ (xR xS h ha hi) hb MX BA) hs) fun D σ H ⟨ρ,w,o,gd,ee,k⟩=>?_
 unfold vA at ee
 split at ee
 next d q0 ρ1 h1=>
  split at ee
  next i j rows hi hj er=>
   split at ee
   next m hm=>
    split at ee
    next row BB=>
     split at ee
     next kk hk=>
      cases ee
      refine⟨ρ,w,0,d,q0,ρ1,gd,h1,fun v H1 w1 F1 g1 aD r1=>?_⟩
      have rv:=r1.drop (o:=.f) (Qg 0)
      have gg:=g1.drop (t':=0)
      obtain⟨l,vs,b0,ws,m1,m2,m3,m4,m5,m6,mk⟩:=gg.Bz er BB
      refine⟨_,m1,ρ1,bV 0 w1,0,i,gg,hi,.inl ⟨l,vs,i,.ref b0,rfl,rfl,m2,?_,ρ1,bV 0 w1,0,j,gg,hj,b0,ws,j,kk,rfl,rfl,m5,?_,?_⟩⟩
      ·unfold dW;rw[m3,hm];exact m4
      ·rw[<- m6.length];exact hk
      ·obtain⟨n1,n2⟩:=mk _ _ (m6.vz rv kk)
       exact k _ _ _ rfl n1 ((aD.drop gd.wt).trans n2)
     ·cases ee
    ·cases ee
   ·cases ee
  ·cases ee
 ·cases ee⟩
end
@[simp] def yC (fa fb:aB):aB:=fun ρ=>match fa ρ with
 | some (.bl b,_,ρ1)=>if b=true then fb ρ1 else some (.bl false,9,ρ1)
 | _=>none
@[simp] def BC (fa:aB):aB:=fun ρ=>match fa ρ with
 | some (.bl b,_,ρ1)=>some (.bl (!b),9,ρ1)
 | _=>none
section
variable {X:Cx}{a b c e:Expr}{es bc:List Expr}{fa fb fc f:aB}{g:bT}{pos p p1 p2 aq apos:Pos}
def FQ{op}(h:QD X a fa):QD X (.BoolOp op [a] pos) fa:=⟨have h:=h.o;LF h⟩
def FR(ha:QD X a fa)(hb:QD X (.BoolOp .And (b::bc) pos) fb):QD X (.BoolOp .And (a::b::bc) pos) (yC fa fb):=⟨have ha:=ha.o;have hb:=hb.o;PE.imp (LG ha hb) fun σ H Q ag=>by
 obtain⟨ρ,w,t,r',q,ρ',gd,ee,k⟩:=ag
 unfold yC at ee
 split at ee
 next b' q1 ρ1 h1=>
  refine⟨ρ,w,t,_,_,_,gd,h1,fun v H1 w1 F1 g1 aD r1=>?_⟩
  cases r1
  refine⟨b',rfl,?_⟩
  split at ee
  ·rename_i hb;rw[Qi hb]
   exact⟨ρ1,bV t w1,t,r',q,ρ',g1.drop,ee,fun v H2 w2 F g2 bg=>k v H2 w2 F g2 ((aD.drop gd.wt).trans bg)⟩
  ·rename_i hb;rw[Qj hb]
   cases ee
   exact k _ H1 w1 [] g1 aD (.bl false)
 ·cases ee⟩
def Pt(ha:QD X a fa):QD X (.UnaryOp .Not a pos) (BC fa):=⟨have ha:=ha.o;PE.imp (LH ha) fun σ H Q ag=>by
 obtain⟨ρ,w,t,r',q,ρ',gd,ee,k⟩:=ag
 unfold BC at ee
 split at ee
 next b' q1 ρ1 h1=>
  cases ee
  refine⟨ρ,w,t,_,_,_,gd,h1,fun v H1 w1 F1 g1 aD r1=>?_⟩
  cases r1
  exact⟨b',rfl,k _ H1 w1 [] g1 aD (.bl _)⟩
 ·cases ee⟩
end
section
variable {es bc:List Expr}{a b c e:Expr}{pos:Pos}{env:Env}
def fM{op}:starEach (.BinOp a op b pos::bc) env=(false,eval (.BinOp a op b pos) env)::starEach bc env:=by simp only[starEach]
def Pu{op}:starEach (.UnaryOp op a pos::bc) env=(false,eval (.UnaryOp op a pos) env)::starEach bc env:=by simp only[starEach]
def Pw:starEach (.IfExp a b c pos::bc) env=(false,eval (.IfExp a b c pos) env)::starEach bc env:=by simp only[starEach]
def BD{g sc}:starEach (.ListComp a g sc pos::bc) env=(false,eval (.ListComp a g sc pos) env)::starEach bc env:=by simp only[starEach]
def cu{k}:starEach (.Call a es k pos::bc) env=(false,eval (.Call a es k pos) env)::starEach bc env:=by simp only[starEach]
def lj{v k}:starEach (.Constant v k pos::bc) env=(false,eval (.Constant v k pos) env)::starEach bc env:=by simp only[starEach]
def iJ:starEach (.Subscript a b pos::bc) env=(false,eval (.Subscript a b pos) env)::starEach bc env:=by simp only[starEach]
def gu{x}:starEach (.Name x pos::bc) env=(false,eval (.Name x pos) env)::starEach bc env:=by simp only[starEach]
def pQ:starEach (.List es pos::bc) env=(false,eval (.List es pos) env)::starEach bc env:=by simp only[starEach]
def BE{k}:starEach (.Tuple es k pos::bc) env=(false,eval (.Tuple es k pos) env)::starEach bc env:=by simp only[starEach]
end
def At (K:PySem.W.Frag)(mg:Str->Option Value)(x:Str)(st:Stmt)(ps:List Str):Prop:=
 ∃ f fd,lX K x x st f fd/\mg x=some (.ref f)/\oa K fd ps []
def aE (P:Program)(w:World)(K:PySem.W.Frag)(mg:Str->Option Value)(base:Heap)(k:Nat)(x:Str)(n:Nat)(F:List D->OD):Prop:=
 ∃ f fd ps,dU P w K mg base jh k f fd ps (kM K n F)/\mg x=some (.ref f)/\PySem.W.keepIn K (.ref f)=true/\oa K fd ps []
theorem aE.mk{w:World}{k:Nat}(a:At K mg x st ps)(S:ah N ps (bj st))
  (h:∀ (f:Addr) (bG:Value) (A:Around) (outer:List Env) (s:Shared) (H:Hp) (E:XK),aQ k (A.deeper (envOfC x (bj st) s.heap.objs.size f bG))->yv (k_ jh P w K mg base N x (bj st) f bG A outer s H E).iR (jg st) body) :
  aE P w K mg base (k+1) x ps.length (cB N.length body):=by
 obtain⟨f,fd,F,m,b⟩:=a
 exact⟨f,fd,ps,Fm F S (h f),m,F.kp,b⟩
section
variable {X:Cx}{a b c e:Expr}{es bc:List Expr}{fa fb fc f:aB}{g:bT}{pos p p1 p2 aq apos:Pos}
def bB{j k:Nat}{F:List D->OD}(C:aE X.prog X.w X.K X.mg X.base k x n F)(hr:aQ j X.A)(hk:k<=j)(ha:fi X (e::es) g)(hg:Gl X x:=by rfl)(gF:(x==("__debug__":Str))=false:=by decide)(he:starEach (e::es) X.env=(false,eval e X.env)::starEach es X.env:=by rfl)(bX:(backTo pos (starEach es X.env)).any (·.1)=false:=by rfl):QD X (.Call (.Name x p) (e::es) [] pos) (aS F n g):=⟨have ha:=ha.o;by
 obtain⟨f,fd,ps,G,hm,rE,hb⟩:=C
 exact Ov G (hr.mono hk) hm rE hb EV ha hg gF he bX⟩
end
def TB.only(h:Ax H)(hn:∀ x∈tL,PySem.W.tabIn K x=none):TB K H:=by
 refine⟨fun P ps e=>?_,fun P ps e=>?_,fun x hx c P e=>by rw[hn x hx]at e;cases e⟩<;>rcases h P with z|⟨o,xs,z⟩<;>rw[e]at z<;>cases z
def Px{F:List D->OD}(h:∀ ns:List Int,ns.length<=63->∃ q,F [.lst (ns.map D.int)]=some (.bl true,q)){a:Addr}{ns:List Int}(hl:ns.length<=63)(hS:cn K H a (ns.map V.int))(tb:TB K H){E:XK} :
  kM K 1 F [.ref a] H (fun v _=>v=.bl true) E:=by
 obtain⟨q,e⟩:=h ns hl
 have r:Rep K H (fun _=>none) .f 0 (.lst (ns.map D.int)) (.ref a) []:=by
  rcases cn.cases hS with z|z
  ·exact .shr z rfl (yx ns)
  ·exact .kl z (yx ns)
 exact⟨rfl,[.lst (ns.map D.int)],fun _=>none,.bl true,q,(fun a o z=>nomatch z),⟨(fun a o z=>nomatch z),tb⟩,.cons (F:=[]) (G:=[]) r .nil nM,e,fun v H' w' Fo _ _ rr=>by cases rr;rfl⟩
def Py{w:World}{k:Nat}{f:Addr}{fd:FuncData}(F:lX K x x st f fd)(S:ah N ps (bj st))
  (h:∀ (f:Addr) (bG:Value) (A:Around) (outer:List Env) (s:Shared) (H:Hp) (E:XK),aQ k (A.deeper (envOfC x (bj st) s.heap.objs.size f bG))->yv (k_ jh P w K mg base N x (bj st) f bG A outer s H E).iR (jg st) body) :
  dU P w K mg base jh (k+1) f fd ps (kM K ps.length (cB N.length body)):=Fm F S (h f)
section
variable {prog:Program}{w:World}{A:Around}{E:Value->Shared->Prop}{s:Shared}
def Pz{vs:Array Value}{v:Value}(a:s.heap.IsTupleIter j p n)(b:s.heap.IsTuple p vs)(c:vs[n]? = some v)
  (k:∀ g:Heap,g.IsTupleIter j p (n+1)->Heap.SameBut j s.heap g->Q v { s with heap:=g }):wpAny (model prog w) A (Builtin.SmallTypes.nextOf (.ref j)) Q E s:=by
 obtain⟨oj,ej,kj,dj⟩:=id a
 obtain⟨op,ep,_,mp,dp⟩:=b
 unfold Builtin.SmallTypes.nextOf
 refine Qa (Zv (name:=Str.ofString "__next__") a.typeIs Jc (Q3 Jc a.typeIs Vb ?_ (YY _)))
 show wpAny _ _ (field (.ref j) 0 >>= _) _ _ s
 refine Qa (Ui ej dj (x:=.ref p) rfl ?_)
 show wpAny _ _ (if(Value.ref p==Value.none)=true then _ else _) _ _ s
 rw[Qj (show ¬ ((Value.ref p==Value.none)=true)from Ze)]
 show wpAny _ _ (field (.ref j) 1 >>= _) _ _ s
 refine Qa (Ui ej dj (x:=.int n 0) rfl ?_)
 show wpAny _ _ (seqItems? (.ref p) >>= _) _ _ s
 refine Qa (Vi ep dp ?_)
 simp only[Yq,c]
 refine Qa (Vj ej dj (by simp) (Qc ⟨v,rfl,Qc (k _ ⟨_,Zk _ ej (Obj.isFreed_of_fields (Yj dj _)),(Obj.cls_mapFields ..).trans kj,?_⟩ (QT ..))⟩))
 rw[Yj dj]
 simp[rawInt]
def PB{vs:Array Value}{Q:Value->Shared->Prop}(hh:A.handled=none)(a:s.heap.IsTupleIter j p n)(b:s.heap.IsTuple p vs)(c:vs[n]? = none)
  (k:∀ (g:Heap) x,Heap.ExtBut j s.heap g->(∃ o,g.get? x=some o/\o.cls=.type "StopIteration")->E (.ref x) { s with heap:=g }):wpAny (model prog w) A (Builtin.SmallTypes.nextOf (.ref j)) Q E s:=by
 obtain⟨oj,ej,kj,dj⟩:=id a
 obtain⟨op,ep,_,mp,dp⟩:=b
 unfold Builtin.SmallTypes.nextOf
 refine Qa (Zv (name:=Str.ofString "__next__") a.typeIs Jc (Q3 Jc a.typeIs Vb ?_ (YY _)))
 show wpAny _ _ (field (.ref j) 0 >>= _) _ _ s
 refine Qa (Ui ej dj (x:=.ref p) rfl ?_)
 show wpAny _ _ (if(Value.ref p==Value.none)=true then _ else _) _ _ s
 rw[Qj (show ¬ ((Value.ref p==Value.none)=true)from Ze)]
 show wpAny _ _ (field (.ref j) 1 >>= _) _ _ s
 refine Qa (Ui ej dj (x:=.int n 0) rfl ?_)
 show wpAny _ _ (seqItems? (.ref p) >>= _) _ _ s
 refine Qa (Vi ep dp ?_)
 simp only[Yq,c]
 refine Qa (YB (Qa (Vj ej dj (by simp) ?_)))
 show wpAny _ _ (newExc (.type "StopIteration") [] >>= _) _ _ _;refine Qa ?_;simp only[newExc,newTuple]
 refine Qa (Zd ?_ (by size_fits));refine Qa (m:=firstArgMember _ _) (YN (a:=Value.none) (by first|rfl|(simp only[firstArgMember];rfl)) (Zd ?_ (by size_fits)))
 simp only[raiseNew]
 refine Qa (VE ?_);first|rw[show A.in1.handled=none from hh]|rw[hh]
 exact Qa (Qc (Uj (k _ _ (((QT ..).extBut.push _).push _) ⟨_,Qp _ rfl,rfl⟩)))
end
def PF{pins:List (Addr×Obj)}{s:Shared}{h':Heap}{t':Nat}{ch:List Addr}(I:Inv X pins σ H s)(k:∀ b o,b ∉ ch->s.heap.get? b=some o->h'.get? b=some o)(hf:∀ b∈ch,lN X pins H b) :
  Inv X pins σ H { s with heap:=h',toks:=t' }:=by
 have uH:∀ b u,H b=some u->b ∉ ch:=fun b u e z=>by rw[(hf b z).1]at e;cases e
 refine I.step (g':=s.gens) (d':=s.drawn) (ch:=ch) (fun b hb=>?_) (fun b o _ _ hc e _=>k b o hc e) (fun b o _ _ hc e _=>⟨o.slots,k b o hc e⟩) (fun _ _ _ _ n=>n)
  (fun b o hc e=>⟨o,k b o hc e⟩) (fun _ _ e=>e) (fun _ _ _ e=>e) (fun b ps e=>⟨#[],by rw[e];simp⟩) (fun m hm=>?_) (fun b u e=>?_) I.bare
 ·obtain⟨f0,f1,f2,f3,f4,f5⟩:=hf b hb
  exact⟨f3,f1,f4,f5⟩
 ·obtain⟨o,es,ep,ho,r⟩:=hm
  exact⟨o,es,ep,k _ o (fun z=>(hf _ z).2.1 rfl) ho,r⟩
 ·refine(I.aw b u e).fA (fun c v hc q=>k c v ?_ q) (fun _ q=>q) fun _ _ q=>q
  rcases hc with z|z
  ·rw[z];exact uH b u e
  ·exact uH c _ z
section
variable {X:Cx}{a b c e:Expr}{es elts:List Expr}{fa fb fc f:aB}{g:bT}{pos p p1 p2 tp:Pos}{kt:Nat}
@[simp] def j8b (g:bT):jD:=fun ρ=>match g ρ with
 | some ([.tup ds,.tup es],ρ1)=>if ds.length<=1000 then some ((ds.zip es).map fun x=>.tup [x.1,x.2],ρ1)else none
 | _=>none
end
abbrev oO:=List D->aR->Option aR
def PH (K:PySem.W.Frag)(b:Nat)(pt:oO):n8:=fun vs σ H Q=>∃ ds ρ w t ρ',Good K ρ σ H w t/\af K H w .f 0 ds vs []/\pt ds ρ=some ρ'/\∀ aF H' w',aF.length=σ.length->(∀ i,i<b->aF[i]? = σ[i]?)->Good K ρ' aF H' w' t->Go H w H' w'->Q aF H'
def nq.imp{tg:List Expr}{t t':n8}(h:nq X tg t)(i:∀ v σ H Q,t' v σ H Q->t v σ H Q):nq X tg t':=fun pins s σ H v u Q I r q=>h pins s σ H v u Q I r (i v σ H Q q)
abbrev PJ (X:Cx)(b:Nat)(tg:List Expr)(pt:oO):Prop:=nq X tg (PH X.K b pt)
structure oP (X:Cx) (b:Nat) (e:List Expr) (f:oO):Prop where mk::o:PJ X b e f
@[simp] def kQ:oO:=fun ds ρ=>match ds with
 | []=>some ρ
 | _=>none
@[simp] def du (pt:fS)(ps:oO):oO:=fun ds ρ=>match ds with
 | []=>none
 | d::r=>match pt d ρ with
  | some ρ1=>ps r ρ1
  | none=>none
@[simp] def mj (ps:oO):fS:=fun d ρ=>match d with
 | .tup ds=>ps ds ρ
 | _=>none
section
variable {X:Cx}{k b:Nat}{e:Expr}{es:List Expr}{pt:fS}{ps:oO}{pos:Pos}
def yD:oP X b [] kQ:=⟨nq.imp LZ fun v σ H Q ag=>by
 obtain⟨ds,ρ,w,t,ρ',g,r,e,k⟩:=ag
 unfold kQ at e
 split at e
 ·cases e
  generalize hF:([]:List Addr)=F at r
  cases r
  exact⟨rfl,k σ H w rfl (fun _ _=>rfl) g Go.refl⟩
 ·cases e⟩
def nI(h1:rf X b e pt)(h2:oP X b es ps)(hs:(assignEach (e::es) X.env).map (·.2)=assign e X.env::(assignEach es X.env).map (·.2):=by rfl):oP X b (e::es) (du pt ps):=⟨have h1:=h1.o;have h2:=h2.o;nq.imp (L6 h1 h2 hs) fun v σ H Q ag=>by
 obtain⟨ds,ρ,w,t,ρ',g,r,e,k⟩:=ag
 unfold du at e
 split at e
 ·cases e
 next d bc=>
  split at e
  next ρ1 h1=>
   generalize hF:([]:List Addr)=F at r
   cases r with
   | cons ra rb _=>
    have z1:=ra.zero
    have z2:=rb.zero
    subst z1 z2
    refine⟨_,_,rfl,d,ρ,w,t,ρ1,g,ra,h1,fun qD H1 w1 l1 s1 g1 aD=>⟨bc,ρ1,w1,t,ρ',g1,rb.oI g.wl aD.bu,e,fun lO H2 w2 l2 s2 g2 bg=>k lO H2 w2 (l2.trans l1) (fun i hi=>(s2 i hi).trans (s1 i hi)) g2 (aD.trans bg)⟩⟩
  ·cases e⟩
def yE(hc:X.calm=true)(h:oP X b es ps)(hl:∀ ds ρ ρ',ps ds ρ=some ρ'->ds.length=n)(hn:(assignEach es X.env).length=n:=by rfl)(ff:(assignEach es X.env).findIdx? (·.1)=none:=by rfl):rf X b (.Tuple es k pos) (mj ps):=⟨have h:=h.o;PG.imp (L8 hc h hn ff) fun v σ H Q ag=>by
 obtain⟨d,ρ,w,t,ρ',g,r,e,k⟩:=ag
 unfold mj at e
 split at e
 next ds=>
  obtain⟨a,vs,rfl,hq,rs⟩:=r.ic
  exact⟨a,vs,rfl,hq,by rw[<- rs.length];exact hl _ _ _ e,ds,ρ,w,t,ρ',g,rs,e,k⟩
 ·cases e⟩
def FT{p q:fS}:∀ ds ρ ρ',du p (du q kQ) ds ρ=some ρ'->ds.length=2:=fun ds ρ ρ' h=>by
 match ds with
 | []=>cases h
 | [_]=>unfold du at h;simp at h;split at h<;>cases h
 | [_,_]=>rfl
 | _::_::_::_=>
  exfalso
  unfold du at h
  simp at h
  split at h
  ·split at h<;>cases h
  ·cases h
end
inductive IT where
 | int|bool|tuple|list|str
def IT.nm:IT->String
 | .int=>"int"
 | .bool=>"bool"
 | .tuple=>"tuple"
 | .list=>"list"
 | .str=>"str"
def oQ:IT->D->Bool
 | .int,.int _=>true
 | .int,.bl _=>true
 | .bool,.bl _=>true
 | .tuple,.tup _=>true
 | .list,.lst _=>true
 | .str,.str _=>true
 | _,_=>false
def FU:D->String
 | .aK=>"NoneType"
 | .bl _=>"bool"
 | .int _=>"int"
 | .str _=>"str"
 | .tup _=>"tuple"
 | .jZ _ _=>"dict"
 | .exc _=>"object"
 | .ob _ _ _ _=>"function"
 | .mp _ _=>"dict"
 | .lst _=>"list"
section
variable {X:Cx}{pins:List (Addr×Obj)}{σ:St}{H:Hp}{s:Shared}
def PK{x:V}{c:Value}{b:Bool}{A:Around}{E:Value->Shared->Prop}(I:Inv X pins σ H s)(rx:bw x u)(r:Rep X.K H w o q d x F)
  (e:PySem.W.kitOne X.K (.type (FU d)) c=some b) (hx:∀ nm,d ≠ .exc nm) (hi:∀ C fs ds,d ≠ .mp (.i C fs) ds) (h:∀ tk,Q (.bool b) { s with toks:=tk }):wpAny (model X.prog X.w) A (call (.builtin "isinstance") [u,c]) Q E s:=by
 cases r with
 | exc _ _ _=>exact absurd rfl (hx _)
 | ob h1 h2 x r=>
  cases rx
  obtain⟨e1,_⟩:=(show cR X.prog X.w H s.heap _ (.d8 _ _)from I.aw _ _ h1)
  exact Zs Oj I.eL ⟨_,e1,x.1⟩ e (fun z=>nomatch z) h
 | aK=>exact jx I rx .aK e h
 | bl y=>exact jx I rx (.bl y) e h
 | int i=>exact jx I rx (.int i) e h
 | str y=>exact jx I rx (.str y) e h
 | tup ha _=>exact jx I rx (.tup ha) e h
 | jZ ha _ _=>exact jx I rx (.dK ha) e h
 | kl ha _=>
  obtain⟨ob,ao,n,hk,hc,hd,_⟩:=ha
  cases rx
  exact Zs Vz I.eL ⟨ob,I.eL _ _ hk,hc⟩ e (fun z=>nomatch z) h
 | shr ha _ _=>
  rcases ha with ha|⟨ob,ha⟩
  ·exact jx I rx (.lst ha) e h
  ·exact jx I rx (.d8 ha) e h
 | own ha _ _ _=>exact jx I rx (.lst ha) e h
 | @ny a vs ds k y ha i _ _ _=>
  cases k with
  | t ks=>cases i;exact jx I rx (.dT ha) e h
  | k ks=>cases i;exact jx I rx (.dK ha) e h
  | i C fs=>exact absurd rfl (hi _ _ _)
 | @kK q a vs ds k y ha i _ _ _=>
  cases k with
  | t ks=>cases i;exact jx I rx (.dT ha) e h
  | k ks=>cases i;exact jx I rx (.dK ha) e h
  | i C fs=>exact absurd rfl (hi _ _ _)
def PN{C:Addr}{fs:List Str}{x:V}{A:Around}{E:Value->Shared->Prop}(I:Inv X pins σ H s)(rx:bw x u)(r:Rep X.K H w o q (.mp (.i C fs) ds) x F)
  (T:IT) (h:∀ tk,Q (.bool false) { s with toks:=tk }):wpAny (model X.prog X.w) A (call (.builtin "isinstance") [u,.type T.nm]) Q E s:=by
 cases r with
 | ny ha i _ _ _=>
  obtain⟨dx,rfl,c⟩:=i
  exact jx I rx (.ins ha c.cl c.ha c.hn c.uK c.hm) (c.no _ (by cases T<;>simp[IT.nm])) h
 | kK ha i _ _ _=>
  obtain⟨dx,rfl,c⟩:=i
  exact jx I rx (.ins ha c.cl c.ha c.hn c.uK c.hm) (c.no _ (by cases T<;>simp[IT.nm])) h
def PO(T:IT)(d:D)(hx:∀ nm,d ≠ .exc nm):PySem.W.kitOne K (.type (FU d)) (.type T.nm)=some (oQ T d):=by
 cases T<;>cases d<;>first|rfl|exact absurd rfl (hx _)
end
section
variable {X:Cx}{a b c e:Expr}{es:List Expr}{fa fb fc f:aB}{ga gb:cz}{g:bT}{pos p p1 p2 pT:Pos}
def PR(T:IT):iE X (.builtin "isinstance") (fun xs H Q=>∃ x w o q F d,xs=[x,.ty T.nm]/\Rep X.K H w o q d x F/\Q (.bl (oQ T d)) H):=by
 intro pins s σ H xs us Q I r h
 obtain⟨x,w,o,q,F,d,rfl,rd,hq⟩:=h
 obtain⟨u,v,rfl,ru,rv⟩:=xK r
 cases rv
 by_cases hx:∃ nm,d=.exc nm
 ·obtain⟨nm,rfl⟩:=hx
  cases rd with
  | exc ha xo _=>
   obtain⟨C,hc,k⟩:=xo
   cases ru
   obtain⟨e1,_⟩:=(show cR X.prog X.w H s.heap _ (.d8 _ _)from I.aw _ _ ha)
   have hT:oQ T (.exc nm)=false:=by cases T<;>rfl
   rw[hT]at hq
   refine Ob (x:=_) I.eL ⟨e1,hc⟩ k.xc (by cases T<;>kernel_rfl) (k.no _ (by cases T<;>simp[IT.nm])) ⟨.bl false,H,I.tok _,rfl,hq⟩
 ·by_cases hi:∃ C fs ds,d=.mp (.i C fs) ds
  ·obtain⟨C,fs,ds,rfl⟩:=hi
   exact PN I ru rd T fun tk=>⟨.bl (oQ T (.mp (.i C fs) ds)),H,I.tok _,by cases T<;>rfl,hq⟩
  ·exact PK I ru rd (PO T d fun nm z=>hx ⟨nm,z⟩) (fun nm z=>hx ⟨nm,z⟩) (fun C fs ds z=>hi ⟨C,fs,ds,z⟩) fun tk=>⟨.bl (oQ T d),H,I.tok _,rfl,hq⟩
@[simp] def yF (T:IT)(fa:aB):aB:=fun ρ=>match fa ρ with
 | some (d,_,ρ1)=>some (.bl (oQ T d),9,ρ1)
 | none=>none
def FV(T:IT){t:Str}(hm:X.mg "isinstance" = none)(BF:X.mg t=none)(PU:bootBuiltins t=some (.type T.nm))(ha:QD X a fa)(hg:Gl X "isinstance":=by rfl)(vB:Gl X t:=by rfl)(PV:t ≠ "__name__":=by decide)(BG:(t==("__debug__":Str))=false:=by decide)(hs:starEach [a,.Name t pT] X.env=(false,eval a X.env)::starEach [.Name t pT] X.env:=by rfl)(bX:(backTo pos (starEach [.Name t pT] X.env)).any (·.1)=false:=by rfl):QD X (.Call (.Name "isinstance" p) [a,.Name t pT] [] pos) (yF T fa):=⟨have ha:=ha.o;PE.imp (nu (PR T) hg hm JG (gE ha (gE (Ef (v:=.ty T.nm) vB BF PU rfl PV BG) jf gu) hs) (by decide) (by decide) hs bX) fun σ H Q ag=>by
 obtain⟨ρ,w,t,r',q,ρ',gd,ee,k⟩:=ag
 unfold yF at ee
 split at ee
 next d q1 ρ1 h1=>
  cases ee
  refine⟨ρ,w,t,_,_,_,gd,h1,fun v H1 w1 F1 g1 aD r1=>?_⟩
  exact⟨v,w1,_,_,F1,d,rfl,r1,k _ H1 (bV t w1) [] g1.drop.up (aD.drop gd.wt) (.bl _)⟩
 ·cases ee⟩
@[simp] def nJ (g1 g2:D->D->Option D)(fa fb fc:aB):aB:=fun ρ=>match fa ρ with
 | some (x,_,ρ1)=>match fb ρ1 with
  | some (y,_,ρ2)=>match g1 x y with
   | some (.bl true)=>match fc ρ2 with
    | some (z,_,gZ)=>match g2 y z with
     | some d=>some (d,9,gZ)
     | none=>none
    | none=>none
   | some (.bl false)=>some (.bl false,9,ρ2)
   | _=>none
  | none=>none
 | none=>none
def PX(ho:ef X (compareOp op) (lQ h1))(e_:ef X (compareOp kA) (lQ h2))(e1:∀ i j d,g1 i j=some d->kL d=some (h1 i j))(mn:∀ i j d,g2 i j=some d->kL d=some (h2 i j))
  (ha:PD X a fa) (hb:PD X b fb) (hc:PD X c fc) (hm:lastMarks [op,kA] [b,c]=false:=by with_unfolding_all rfl):PD X (.Compare a [op,kA] [b,c] pos) (nJ (gI g1) (gI g2) fa fb fc):=PE.imp (MA ho e_ ha hb hc hm) fun σ H Q ag=>by
 obtain⟨ρ,w,t,r',q,ρ',gd,ee,k⟩:=ag
 unfold nJ at ee
 split at ee
 next x q1 ρ1 a1=>
  split at ee
  next y q2 ρ2 a2=>
   refine qV gd a1 a2 fun u v H2 w2 F1 F2 vC bg r1 r2=>?_
   have gg:=vC.drop (t':=t)
   split at ee
   next hg=>
    obtain⟨i,j,rfl,rfl,kR⟩:=pI hg
    refine⟨i,j,dG r1,dG r2,true,by have:=e1 i j _ kR;simpa [kL]using this.symm,?_⟩
    rw[Qi rfl]
    split at ee
    next z q3 gZ a3=>
     refine⟨ρ2,bV t w2,t,z,q3,gZ,gg,a3,fun v3 H3 w3 F3 g3 nC r3=>?_⟩
     split at ee
     next d hd=>
      cases ee
      obtain⟨j',l,ej,rfl,gV⟩:=pI hd
      cases ej
      exact⟨j,l,dG r2,dG r3,oA k gd g3 ((bg.drop gd.wt).trans nC) (yn (mn j l _ gV))⟩
     ·cases ee
    ·cases ee
   next hg=>
    obtain⟨i,j,rfl,rfl,kR⟩:=pI hg
    cases ee
    refine⟨i,j,dG r1,dG r2,false,by have:=e1 i j _ kR;simpa [kL]using this.symm,?_⟩
    rw[Qj (by decide)]
    exact oA k gd vC bg (.bl false)
   ·cases ee
  ·cases ee
 ·cases ee
def PY(ha:QD X a fa)(hb:QD X b fb)(hc:QD X c fc)(hm:lastMarks [.LtE,.Lt] [b,c]=false:=by with_unfolding_all rfl):QD X (.Compare a [.LtE,.Lt] [b,c] pos) (nJ vh j4 fa fb fc):=⟨have ha:=ha.o;have hb:=hb.o;have hc:=hc.o;PX Eu Al (fun i j d h=>by cases h;rfl) (fun i j d h=>by cases h;rfl) ha hb hc hm⟩
@[simp] def yG (fa:aB):aB:=fun ρ=>match fa ρ with
 | some (.int i,_,ρ1)=>some (.int (-i),9,ρ1)
 | _=>none
def PZ(ha:QD X a fa):QD X (.UnaryOp .USub a pos) (yG fa):=⟨have ha:=ha.o;PE.imp (Mp Mx ha) fun σ H Q ag=>by
 obtain⟨ρ,w,t,r',q,ρ',gd,ee,k⟩:=ag
 unfold yG at ee
 split at ee
 next i q1 ρ1 h1=>
  cases ee
  refine⟨ρ,w,t,_,_,_,gd,h1,fun v H1 w1 F1 g1 aD r1=>?_⟩
  exact⟨i,dG r1,k _ H1 (bV t w1) [] g1.drop.up (aD.drop gd.wt) (.int _)⟩
 ·cases ee⟩
end
section
variable {X:Cx}{k b n:Nat}{a c e tg:Expr}{es:List Expr}{pt:fS}{ps:oO}{pos:Pos}{fa fb f:aB}
def FW{p q r:fS}:∀ ds ρ ρ',du p (du q (du r kQ)) ds ρ=some ρ'->ds.length=3:=fun ds ρ ρ' h=>by
 match ds with
 | []=>cases h
 | [_]=>unfold du at h;simp at h;split at h<;>cases h
 | [_,_]=>unfold du at h;simp at h;split at h;(split at h<;>cases h);cases h
 | [_,_,_]=>rfl
 | _::_::_::_::_=>
  exfalso
  unfold du at h
  simp at h
  split at h
  ·split at h
   ·split at h<;>cases h
   ·cases h
  ·cases h
@[simp] def vD (f:aB)(pt:fS):aJ:=fun ρ=>match f ρ with
 | some (d,_,ρ1)=>match pt d ρ1 with
  | some ρ2=>some (.nx ρ2)
  | none=>none
 | none=>none
def P1(he:QD X e f)(hg:rf X 0 tg pt)(hs:swapsWithSole [tg] e pos.line X.env=pure false:=by rfl)(hw:swappedStores [tg] e X.env=pure none:=by rfl)(h1:(assignEach [tg] X.env).map (·.2)=[assign tg X.env]:=by rfl):jC X (.Assign [tg] e pos) (vD f pt):=⟨have he:=he.o;have hg:=hg.o;PS.imp (El he hg hs hw h1) fun D σ H ag=>by
 obtain⟨ρ,w,o,g,ee,k⟩:=ag
 unfold vD at ee
 split at ee
 next d q ρ1 h1=>
  split at ee
  next ρ2 h2=>
   cases ee
   refine⟨ρ,w,0,d,q,ρ1,g,h1,fun v H1 w1 F1 g1 aD r1=>?_⟩
   exact⟨d,ρ1,bV 0 w1,0,ρ2,g1.drop,r1.drop (Qg 0),h2,fun aF H' w' hl _ g' fQ=>k aF H' w' hl g' ((aD.drop g.wt).trans fQ)⟩
  ·cases ee
 ·cases ee⟩
end
theorem P2:fillsNumberSlot (.type "tuple") "mul" = pure false:=PySem.fillsNumberSlot_seq (id:="tuple.__mul__") (r:=some (.builtin "tuple.__rmul__")) YE.lookup (by decide +kernel) F.slot_tuple_rmul.lookup (by decide +kernel)
theorem P4:seqRepeat? (.type "tuple")=pure (some (.builtin "tuple.__mul__")):=by
 unfold seqRepeat?
 rw[PySem.seqSlot_of (T:="tuple") (name:="__mul__") (id:="tuple.__mul__") YE.lookup (by decide +kernel),PySem.seqSlot_of (T:="tuple") (name:="__rmul__") (id:="tuple.__rmul__") F.slot_tuple_rmul.lookup (by decide +kernel)];rfl
def P5(a:Int)(t:Tok)(l:Addr)(us:Array Value)(n:Nat)(dd:Option Addr)(sl:Array (Option Value)) :
  Meets (Builtin.«int.__rmul__» ⟨[.int a t,.ref l],[]⟩) (fun _ R s=>s.heap.get? l=some { cls:=.type "tuple",dict:=dd,data:=.seq us n,slots:=sl }/\R (.ok (.ret Value.notImplemented)) s):=.of_wp fun prog w A R s h=>by
 obtain⟨hp,g,d,tk,os⟩:=s
 obtain⟨hl,h⟩:=h
 wp_walk
 exact⟨_,rfl,h⟩
def P6(t:Tok)(l:Addr)(us:Array Value)(n:Nat)(dd:Option Addr)(sl:Array (Option Value)) :
  Meets (Builtin.«tuple.__mul__» ⟨[.ref l,.int 1 t],[]⟩) (fun _ R s=>s.heap.get? l=some { cls:=.type "tuple",dict:=dd,data:=.seq us n,slots:=sl }/\R (.ok (.ret (.ref l))) s):=.of_wp fun prog w A R s h=>by
 obtain⟨hp,g,d,tk,os⟩:=s
 obtain⟨hl,h⟩:=h
 have f1:=AutoSeq1.idx_int
 wp_walk using wpAny_loadPart' hl
 exact⟨_,rfl,h⟩
def P7(k:Int)(t:Tok)(l:Addr)(us:Array Value)(n:Nat)(dd:Option Addr)(sl:Array (Option Value))(h2:¬ (decide (k < -(2 ^ 63))||decide (k ≥ 2 ^ 63))=true)(h3:¬ (us.isEmpty||k==1)=true)(h4:¬ (decide (k<=0)||us.isEmpty)=true)(h5:¬ (us.size:Int)*k > (2 ^ 63-1) / 8)(h6:¬ Builtin.Tuple.tupleTooMany ((us.size:Int)*k)=true)(hsz:(List.foldl (· ++ ·) #[] (List.replicate k.toNat us)).size<=sizeLine) :
  Meets (Builtin.«tuple.__mul__» ⟨[.ref l,.int k t],[]⟩) (fun _ R s=>s.heap.get? l=some { cls:=.type "tuple",dict:=dd,data:=.seq us n,slots:=sl }/\R (.ok (.ret (.ref s.heap.objs.size))) { s with heap:=s.heap.push { cls:=.type "tuple",data:=.seq (List.foldl (· ++ ·) #[] (List.replicate k.toNat us)) } }):=.of_wp fun prog w A R s h=>by
 obtain⟨hp,g,d,tk,os⟩:=s
 obtain⟨hl,h⟩:=h
 have f1:=AutoSeq1.idx_int
 wp_walk using wpAny_loadPart' hl
 rw[Qj h2]
 wp_walk using wpAny_loadPart' hl
 rw[Qj h5]
 wp_walk using wpAny_loadPart' hl
 exact⟨_,rfl,h⟩
section
variable {X:Cx}{a b c e:Expr}{fa fb fc f:aB}{pos:Pos}
theorem P8:ef X (binaryOp .Mult) (fun x y H Q=>∃ a k xs,x=.ref a/\y=.int k/\dh X.K H a xs/\xs ≠ []/\1<=k/\xs.length*k.toNat<=1000/\(k=1->Q (.ref a) H)/\(k≠1->∀ p,H p=none->Q (.ref p) (upd H p (.tup (List.replicate k.toNat xs).flatten)))):=by
 intro pins s σ H x y v u Q I rx ry h
 obtain⟨l,k,xs,rfl,rfl,hq,bH,h1,hz,q1,q2⟩:=h
 cases rx
 obtain⟨t,rfl⟩:=ry
 obtain⟨ao,r,pt,_⟩:=I.tuple hq
 obtain⟨⟨c1,d1,a1,s1⟩,e,mh,n1,FX⟩:=id pt
 simp only at mh FX
 subst mh FX
 have hl:=r.length
 have mq:0<ao.length:=by rw[<- hl];exact Z9.mpr bH
 refine Vw (T:="tuple") (U:="int") (by decide) ⟨_,e,rfl⟩ (fun s'=>VV s' k t) P2 F.fills_int_mul YU P4 F.slot_int_index.lookup
  (Jr YU (VV s k t) F.entry_int_rmul (F.args_int_rmul_2 _ _) (P5 k t l ao.toArray n1 d1 s1) ⟨e,rfl,⟨_,e,rfl⟩,?_⟩)
 by_cases hk:k=1
 ·subst hk
  exact Jr YE ⟨_,e,rfl⟩ F.entry_tuple_mul (F.args_tuple_mul_2 _ _) (P6 t l ao.toArray n1 d1 s1) ⟨e,⟨.ref l,H,I,rfl,q1 rfl⟩⟩
 ·have hm:ao.length*k.toNat<=1000:=by rw[<- hl];exact hz
  have ke:k.toNat<=1000:=by
   have:=Nat.le_mul_of_pos_left k.toNat mq
   omega
  have f0:List.foldl (fun x1 x2=>x1++x2) #[] (List.replicate k.toNat ao.toArray)=(List.replicate k.toNat ao).flatten.toArray:=by
   have:=Ar ao k.toNat []
   rw[List.nil_append]at this
   exact this
  have lf:(List.replicate k.toNat ao).flatten.length<=1000:=by rw[As,Y9];exact hm
  have em:((ao.toArray.size:Nat):Int)*k=((ao.length*k.toNat:Nat):Int):=by
   rw[Qn,Int.natCast_mul,J2 (by omega)]
  refine Jr YE ⟨_,e,rfl⟩ F.entry_tuple_mul (F.args_tuple_mul_2 _ _) (P7 k t l ao.toArray n1 d1 s1 (by simp;omega) (by simp[hk];exact Vy mq) (by simp;exact⟨by omega,Vy mq⟩) (by rw[em];omega) (by
   unfold Builtin.Tuple.tupleTooMany
   rw[em]
   simp only[gt_iff_lt,Zx,Int.not_lt]
   have:(1000:Nat)<=sizeLine:=by decide
   omega) (by rw[f0,Qn];exact qY lf)) ⟨e,?_⟩
  rw[f0]
  refine⟨.ref s.heap.objs.size,_,I.laid (t':=s.toks) (o:=.tup (List.replicate k.toNat xs).flatten) (fun b ob q=>Qd _ q) (Qg _) ?_,rfl,q2 hk _ (I.aw.fresh (Qg _))⟩
  exact⟨qY (by rw[As,Y9];exact hz),_,r.rep k.toNat,lG.new _ _⟩
@[simp] def BH (fa fb:aB):aB:=fun ρ=>match fa ρ with
 | some (.tup ds,_,ρ1)=>match fb ρ1 with
  | some (.int n,_,ρ2)=>if ds.isEmpty=false/\1<=n/\ds.length*n.toNat<=1000 then some (.tup (List.replicate n.toNat ds).flatten,9,ρ2)else none
  | _=>none
 | _=>none
def P9(ha:QD X a fa)(hb:QD X b fb):QD X (.BinOp a .Mult b pos) (BH fa fb):=⟨have ha:=ha.o;have hb:=hb.o;PE.imp (qG P8 ha hb) fun σ H Q ag=>by
 obtain⟨ρ,w,t,r',q,ρ',gd,ee,k⟩:=ag
 unfold BH at ee
 split at ee
 next ds q1 ρ1 h1=>
  split at ee
  next n q2 ρ2 h2=>
   split at ee
   next hl=>
    cases ee
    obtain⟨hd,hn,hz⟩:=hl
    refine qV gd h1 h2 fun u u' H2 w2 F1 F2 g2 go r1 r2=>?_
    have yH:=r1.drop (o:=.f) (Qg t)
    have gg:=g2.drop (t':=t)
    have yI:=go.drop gd.wt
    obtain⟨p1,vs,rfl,BI,s1⟩:=yH.ic
    have l1:=s1.length
    refine⟨p1,n,vs,rfl,dG r2,BI,fun z=>?_,hn,by rw[<- l1];exact hz,fun z=>?_,fun _ p hp=>?_⟩
    ·subst z
     have:ds=[]:=ZQ.mp l1
     subst this
     cases hd
    ·subst z
     have e:(List.replicate (Int.toNat 1) ds).flatten=ds:=by show(List.replicate 1 ds).flatten=ds;simp
     rw[e]at k
     exact k _ H2 (bV t w2) [] gg.up yI ((Rep.go gg.wl (fun a x e n=>⟨sm e,n⟩) yH nM:Rep X.K H2 (bV t w2) (.t t) 0 _ _ []).eQ rfl |>.2 9)
    ·obtain⟨a1,a2,a3⟩:=yk gg hp (s1.times n.toNat)
     exact k _ _ _ _ a1 (yI.trans a2) a3
   ·cases ee
  ·cases ee
 ·cases ee⟩
end
section
variable {X:Cx}{a b c e:Expr}{es:List Expr}{fa fb fc f:aB}{ga gb:cz}{g:bT}{pos p p1 p2 aq apos:Pos}
def P_(ho:ef X (compareOp op) (lQ h1))(e_:ef X (compareOp kA) (lQ h2))(e1:∀ i j d,g1 i j=some d->kL d=some (h1 i j))(mn:∀ i j d,g2 i j=some d->kL d=some (h2 i j))
  (ha:PD X a fa) (hb:PD X b fb) (hc:PD X c fc) (hm:lastMarks [op,kA] [b,c]=false:=by with_unfolding_all rfl):Bc X (.Compare a [op,kA] [b,c] pos) (bA (nJ (gI g1) (gI g2) fa fb fc)):=PT.imp (MB ho e_ ha hb hc hm) (Bd fun σ H Q ag=>by
 obtain⟨ρ,w,t,r',q,ρ',gd,ee,k⟩:=ag
 unfold nJ at ee
 split at ee
 next x q1 ρ1 a1=>
  split at ee
  next y q2 ρ2 a2=>
   refine qV gd a1 a2 fun u v H2 w2 F1 F2 vC bg r1 r2=>?_
   have gg:=vC.drop (t':=t)
   split at ee
   next hg=>
    obtain⟨i,j,rfl,rfl,kR⟩:=pI hg
    refine⟨i,j,dG r1,dG r2,true,by have:=e1 i j _ kR;simpa [kL]using this.symm,?_⟩
    rw[Qi rfl]
    split at ee
    next z q3 gZ a3=>
     refine⟨ρ2,bV t w2,t,z,q3,gZ,gg,a3,fun v3 H3 w3 F3 g3 nC r3=>?_⟩
     split at ee
     next d hd=>
      cases ee
      obtain⟨j',l,ej,rfl,gV⟩:=pI hd
      cases ej
      exact⟨j,l,dG r2,dG r3,oA k gd g3 ((bg.drop gd.wt).trans nC) (yn (mn j l _ gV))⟩
     ·cases ee
    ·cases ee
   next hg=>
    obtain⟨i,j,rfl,rfl,kR⟩:=pI hg
    cases ee
    refine⟨i,j,dG r1,dG r2,false,by have:=e1 i j _ kR;simpa [kL]using this.symm,?_⟩
    rw[Qj (by decide)]
    exact oA k gd vC bg (.bl false)
   ·cases ee
  ·cases ee
 ·cases ee)
def Q_(ha:QD X a fa)(hb:QD X b fb)(hc:QD X c fc)(hm:lastMarks [.LtE,.Lt] [b,c]=false:=by with_unfolding_all rfl):gK X (.Compare a [.LtE,.Lt] [b,c] pos) (bA (nJ vh j4 fa fb fc)):=⟨have ha:=ha.o;have hb:=hb.o;have hc:=hc.o;P_ Eu Al (fun i j d h=>by cases h;rfl) (fun i j d h=>by cases h;rfl) ha hb hc hm⟩
@[simp] def tV (i:Nat)(f:aB):aB:=fun ρ=>if rA ρ[i]? = true then match f ρ with
 | some (.lst es,1,ρ1)=>match ρ1[i]? with
  | some (some (.lst ds,1))=>if ds.length+es.length<=1000 then some (.aK,9,ρ1.set i (some (.lst (ds++es),1)))else none
  | _=>none
 | _=>none
 else none
def FY(h:QE X (.Name x p1) (fK i))(ha:QD X e f)(bR:attributeBase (.Name x p1) "extend" X.env (eval (.Name x p1) X.env)=eval (.Name x p1) X.env:=by rfl)(dk:((backTo aq (starEach [e] X.env)).all (fun x=>!x.1)&&(backToKw aq (keywordEach [] X.env)).all (fun x=>x.1.isSome)
   && decide ([e].length+([]:List Keyword).length+(if([]:List Keyword).isEmpty then 0 else 1)<30))=true:=by rfl) (bS:(apos.endLine==aq.line)=true:=by rfl) (hs:starEach [e] X.env=(false,eval e X.env)::starEach [] X.env:=by rfl) (bN:(backTo aq (starEach [] X.env)).any (·.1)=false:=by rfl):QD X (.Call (.Attribute (.Name x p1) "extend" apos) [e] [] aq) (tV i f):=⟨have h:=h.o;have ha:=ha.o;PE.imp (tG Z5 PySem.F.slot_list_extend PySem.F.type_list_extend M_ h (gE ha jf hs) bR dk bS hs bN) fun σ H Q ag=>by
 obtain⟨ρ,w,t,r',q,ρ',gd,ee,k⟩:=ag
 unfold tV at ee
 split at ee
 next hl=>
  obtain⟨l,cV,us,hq⟩:=gd.cK hl
  split at ee
  next je ρ1 h1=>
   split at ee
   next ds e1=>
    split at ee
    next hlen=>
     cases ee
     refine⟨_,cV,.inl ⟨rfl,us,hq⟩,ρ,w,t,_,_,_,gd,h1,fun v H1 w1 F1 g1 aD r1=>?_⟩
     obtain⟨l',ws,cO,hH,rs,mk⟩:=g1.mut e1
     rw[cV]at cO
     cases cO
     cases r1 with
     | own hb _ rz _=>
      have z0:=rz.zero
      subst z0
      have yJ:af X.K H1 w1 .f 0 je _ []:=rz.any g1.wl
      obtain⟨m1,m2⟩:=mk _ _ (yJ.app rs)
      refine⟨l,_,ws,_,rfl,rfl,hH,hb,qY (by rw[<- rs.length,<- yJ.length];exact hlen),?_⟩
      exact k .aK _ w1 [] m1 (aD.trans m2) .aK
    ·cases ee
   ·cases ee
  ·cases ee
 ·cases ee⟩
end
section
variable {X:Cx}{a b c e:Expr}{es:List Expr}{fa fb fc f:aB}{ga gb gc:cz}{g:bT}{qa qb:nH}{s:aJ}{pos p p1 p2 aq apos:Pos}
@[simp] def FZ:aJ:=fun _=>none
def Ra:jC X st FZ:=⟨PS.imp LV fun D σ H ag=>by obtain⟨ρ,w,o,g,ee,k⟩:=ag;cases ee⟩
def mr (c:cz)(b:aJ):Nat->aR->Option Out
 | 0,_=>none
 | m+1,ρ=>match c ρ with
  | none=>none
  | some (t,ρ1)=>if t=true then match b ρ1 with
    | none=>none
    | some (.nx ρ2)=>mr c b m ρ2
    | some (.ct ρ2)=>mr c b m ρ2
    | some (.bk ρ2)=>some (.nx ρ2)
    | some (.rt d q)=>some (.rt d q)
   else some (.nx ρ1)
def rF (c:cz)(b:aJ):aJ:=mr c b 1000
def BJ{body:List Stmt}(hp:PassesOwn (model X.prog X.w) X.A X.env X.xe)(hc:gK X c gc)(hb:fR X body s):jC X (.While c body [] pos) (rF gc s):=⟨have hc:=hc.o;have hb:=hb.o;PS.imp (Mb hp hc hb) fun D σ H ag=>by
 obtain⟨ρ,w,o,g,ee,k⟩:=ag
 refine⟨fun m aF H'=>aF.length=σ.length/\∃ ρ' w',Good X.K ρ' aF H' w' 0/\mr gc s m ρ'=some o/\nA X.K D σ.length H' w' o,⟨1000,rfl,ρ,w,g,ee,k⟩,?_⟩
 rintro m aF H' ⟨cV,ρ',w',g',e',k'⟩
 cases m with
 | zero=>cases e'
 | succ m=>
  unfold mr at e'
  split at e'
  ·cases e'
  next t ρ1 h1=>
   refine⟨ρ',w',0,t,ρ1,g',h1,fun H1 w1 g1 aD=>?_⟩
   cases t with
   | true=>
    rw[Qi rfl]at e' ⊢
    refine⟨fun lO H2=>lO.length=σ.length/\∃ ρ2 w2,Good X.K ρ2 lO H2 w2 0/\mr gc s m ρ2=some o/\nA X.K D σ.length H2 w2 o,fun lO H2 n2=>⟨m,Zn m,n2⟩,?_⟩
    have nx:∀ {iH:aR},mr gc s m iH=some o->∀ jE H5 w5,jE.length=aF.length->Good X.K iH jE H5 w5 0->Go H1 w1 H5 w5->jE.length=σ.length/\∃ ρ2 w2,Good X.K ρ2 jE H5 w2 0/\mr gc s m ρ2=some o/\nA X.K D σ.length H5 w2 o:=fun {iH} e5 jE H5 w5 l5 g5 iq=>⟨by rw[l5,cV],iH,w5,g5,e5,k'.trans (aD.trans iq)⟩
    cases h6:s ρ1 with
    | none=>rw[h6]at e';cases e'
    | some o6=>
     rw[h6]at e'
     refine⟨ρ1,w1,o6,g1,h6,?_⟩
     cases o6 with
     | nx iH=>exact nx e'
     | ct iH=>exact nx e'
     | bk iH=>
      cases e'
      exact fun jE H5 w5 l5 g5 iq=>k' jE H5 w5 (by rw[l5,cV]) g5 (aD.trans iq)
     | rt d q=>
      cases e'
      exact fun v H5 w5 F Bf iq r5=>k' v H5 w5 F Bf (aD.trans iq) r5
   | false=>
    rw[Qj (by decide)]at e' ⊢
    cases e'
    exact k' aF H1 w1 cV g1 aD⟩
@[simp] def j80 (n:Nat)(qi:nH)(fe:aB):aJ:=fun ρ=>match fe ρ with
 | some (d,_,ρ1)=>match qi ρ1,ρ1[n]? with
  | some i,some (some (.lst ds,1))=>match iF ds.length i with
   | some m=>some (.nx (ρ1.set n (some (.lst (ds.set m d),1))))
   | none=>none
  | _,_=>none
 | none=>none
def Rb (K:PySem.W.Frag):R2:=fun x y H Q=>∃ l b xs zs,x=.ref l/\y=.ref b/\cn K H l xs/\cn K H b zs/\xs.length+zs.length<=sizeLine/\∀ p,H p=none->Q (.ref p) (upd H p (.lst (xs++zs)))
def Rc:ef X (binaryOp .Add) (Rb X.K):=by
 intro pins s σ H x y v u Q I rx ry h
 obtain⟨l,b,xs,zs,rfl,rfl,hH,hB,hz,q⟩:=h
 cases rx
 cases ry
 obtain⟨ao,r,pl,z⟩:=I.list hH
 obtain⟨iS,r2,BK,z2⟩:=I.list hB
 obtain⟨⟨cls,dd,data,sl⟩,n,ho,hc,_,hd⟩:=pl
 obtain⟨⟨Rf,BL,data2,Rg⟩,n2,F4,pN,_,hd2⟩:=BK
 simp only at hc hd pN hd2
 subst hc hd pN hd2
 have l1:=r.length
 have l2:=r2.length
 refine concat_meets ⟨_,ho,rfl⟩ ⟨_,F4,rfl⟩ noFill_list_add seq_list_add PySem.F.slot_list_add PySem.F.entry_list_add (PySem.F.args_list_add_2 _ _) (list_addW l b ao.toArray iS.toArray n n2 dd BL sl Rg (by rw[Qn,Qn,<- l1,<- l2];exact hz)) ⟨ho,F4,?_⟩
 have e:ao.toArray++iS.toArray=(ao++iS).toArray:=by simp
 rw[e]
 exact⟨.ref _,_,I.uS (t':=s.toks) (r.append r2) (by rw[Qo];omega),rfl,q _ I.fresh⟩
@[simp] def jq (fa fb:aB):aB:=fun ρ=>match fa ρ with
 | some (.lst ds,_,ρ1)=>match fb ρ1 with
  | some (.lst es,_,ρ2)=>if ds.length+es.length<=1000 then some (.lst (ds++es),1,ρ2)else none
  | _=>none
 | _=>none
def yK(ha:QD X a fa)(hb:QD X b fb):QD X (.BinOp a .Add b pos) (jq fa fb):=⟨have ha:=ha.o;have hb:=hb.o;PE.imp (qG Rc ha hb) fun σ H Q ag=>by
 obtain⟨ρ,w,t,r',q,ρ',gd,ee,k⟩:=ag
 unfold jq at ee
 split at ee
 next ds q1 ρ1 h1=>
  split at ee
  next es q2 ρ2 h2=>
   split at ee
   next hl=>
    cases ee
    refine qV gd h1 h2 fun u u' H2 w2 F1 F2 g2 go r1 r2=>?_
    have yH:=r1.drop (o:=.f) (Qg t)
    have Rh:=r2.drop (o:=.f) (Jn t)
    have gg:=g2.drop (t':=t)
    have yI:=go.drop gd.wt
    obtain⟨p1,vs,rfl,BI,s1⟩:=yH.gY
    obtain⟨p2,us,rfl,Ri,s2⟩:=Rh.gY
    refine⟨p1,p2,vs,us,rfl,rfl,BI,Ri,qY (by rw[<- s1.length,<- s2.length];exact hl),fun p hp=>?_⟩
    obtain⟨a1,a2,a3⟩:=l7 gg hp (s2.app s1)
    exact k _ _ _ _ a1 (yI.trans a2) a3
   ·cases ee
  ·cases ee
 ·cases ee⟩
end
def Rj{prog:Program}{w:World}{A:Around}(hh:A.handled=none)(it p:Addr)(bH:p≠it)(items:Array Value) :
  Draws prog w A it [it,p] items.size (fun i v=>items[i]? = some v) (fun i h=>h.IsTupleIter it p i/\h.IsTuple p items) where
 live:=fun _ _ st=>by obtain⟨⟨o,ho,_⟩,_⟩:=st;exact⟨o,ho⟩
 frame:=fun _ _ _ st hk=>by
  obtain⟨a,⟨o,e,r⟩⟩:=st
  exact⟨a.at fun o e=>hk it (by simp) o e,⟨o,hk p (by simp) o e,r⟩⟩
 item:=fun i s Q E hi st hQ=>by
  refine Pz st.1 st.2 (v:=items[i]) (by simp[hi]) fun h' oR lg=>?_
  exact hQ _ h' s.toks (by simp[hi]) ⟨oR,st.2.extBut lg.extBut bH⟩ lg
 done:=fun s Q E st hE=>PB hh st.1 st.2 (by simp) hE
section
variable {prog:Program}{w:World}{A:Around}{E:Value->Shared->Prop}{s:Shared}
theorem Rk{xs:Array Value}(t1:s.heap.IsTuple p xs)
  (k:∀ h',IsEnum h' (s.heap.objs.size+1) s.heap.objs.size 0 .none->h'.IsTupleIter s.heap.objs.size p 0->h'.objs.size=s.heap.objs.size+2->
    (∀ b o,s.heap.get? b=some o->h'.get? b=some o)->Q (.ref (s.heap.objs.size+1)) { s with heap:=h' }) :
  wpAny (model prog w) A (call (.type "enumerate") [.ref p]) Q E s:=by
 have mt:Meets (Builtin.«enumerate.__new__» ⟨[.type "enumerate",.ref p],[]⟩) (fun _ R s'=>s'=s /\
   R (.ok (.ret (.ref (s.heap.push { cls:=.type "tuple_iterator",data:=.fields #[.ref p,.int 0 0] }).objs.size)))
    { s with heap:=(s.heap.push { cls:=.type "tuple_iterator",data:=.fields #[.ref p,.int 0 0] }).push { cls:=.type "enumerate",data:=.fields #[.none,.bool false,.ref s.heap.objs.size,rawInt 0,.none,.none] } }):=.of_wp fun prog w A R s' h=>by
  obtain⟨rfl,h⟩:=h
  have bO:=sub_enumerate
  obtain⟨hp,gn,dr,tk,os⟩:=s'
  have q1:Heap.IsTuple (Shared.heap ⟨hp,gn,dr,tk,os⟩) p xs:=t1
  wp_walk using JA q1
  refine wpAny_stack_any fun st=>Qc ?_
  split
  next c _ _ _ _ _=>
   cases (c==Value.type "enumerate")
   ·wp_walk using JA q1
    exact⟨_,rfl,h⟩
   ·wp_walk using JA q1
    exact⟨_,rfl,h⟩
  ·wp_walk using JA q1
   exact⟨_,rfl,h⟩
 refine callType_new F.called_enumerate (by decide) (F.typeCall_enumerate_1 _) (F.newCall_enumerate_1 _) (fun obj=>F.args_object_init_2 obj _) F.entry_enumerate_new mt ⟨rfl,?_⟩
 have hz:(s.heap.push { cls:=.type "tuple_iterator",data:=.fields #[.ref p,.int 0 0] }).objs.size=s.heap.objs.size+1:=ZM ..
 show _/\_
 rw[hz]
 have he:IsEnum ((s.heap.push { cls:=.type "tuple_iterator",data:=.fields #[.ref p,.int 0 0] }).push
   { cls:=.type "enumerate",data:=.fields #[.none,.bool false,.ref s.heap.objs.size,rawInt 0,.none,.none] }) (s.heap.objs.size+1) s.heap.objs.size 0 .none:=by
  have:=Qp (s.heap.push { cls:=.type "tuple_iterator",data:=.fields #[.ref p,.int 0 0] })
   (o:={ cls:=.type "enumerate",data:=.fields #[.none,.bool false,.ref s.heap.objs.size,rawInt 0,.none,.none] }) rfl
  rw[hz]at this;exact this
 exact⟨⟨_,he,rfl⟩,k _ he ⟨_,Qd _ (Qp _ rfl),rfl,rfl⟩ (by rw[ZM,hz]) fun b o x=>Qd _ (Qd _ x)⟩
end
structure Src (P:Program) (w:World) (K:PySem.W.Frag) (it p:Addr) (Sq:Hp->List V->Prop) (tn:Nat->Heap->Prop):Prop where
 keep:∀ i h h',tn i h->(∀ o,h.get? it=some o->h'.get? it=some o)->tn i h'
 obj:∀ i h,tn i h->∃ o vs,h.get? it=some o/\o.data=.fields vs
 draw:∀ (X:Cx),X.prog=P->X.w=w->X.K=K->X.calm=true->∀ (pins:List (Addr×Obj)) (s:Shared) (σ:St) (H:Hp) (xs:List V),Inv X pins σ H s->Sq H xs->∃ (us:List Value) (St:Nat->Heap->Prop),aY xs us /\
  Draws P w X.A.in1 it [it,p] us.length (fun i v=>us[i]? = some v) St/\(∀ i,tn i s.heap->St i s.heap)/\(∀ i h,St i h->tn i h)/\∀ ys,Sq H ys->ys=xs
def Rl{w:World}(bH:p≠it):Src P w K it p (fun H xs=>cn K H p xs) (fun i h=>h.IsListIter it p i) where
 keep:=fun i h h' st k=>st.at k
 obj:=fun i h st=>by obtain⟨o,e,c,d⟩:=st;exact⟨o,_,e,d⟩
 draw:=fun X hP hw hK hc pins s σ H xs I hq=>by
  subst hP hw hK
  obtain⟨ao,rv,pl,_⟩:=I.list hq
  have D:=Draws.list (prog:=X.prog) (w:=X.w) (A:=X.A.in1) (I.ok.hd hc) it p bH ao.toArray
  rw[Qn]at D
  exact⟨ao,(fun i h=>h.IsListIter it p i/\h.IsList p ao.toArray),rv,(by simpa using D),fun i st=>⟨st,pl.isList⟩,fun i h st=>st.1,fun ys hy=>I.iQ hy hq⟩
def Rm{w:World}(bH:p≠it):Src P w K it p (fun H xs=>dh K H p xs) (fun i h=>h.IsTupleIter it p i) where
 keep:=fun i h h' st k=>st.at k
 obj:=fun i h st=>by obtain⟨o,e,c,d⟩:=st;exact⟨o,_,e,d⟩
 draw:=fun X hP hw hK hc pins s σ H xs I hq=>by
  subst hP hw hK
  obtain⟨ao,rv,pl,_⟩:=I.tuple hq
  have D:=Rj (prog:=X.prog) (w:=X.w) (A:=X.A.in1) (I.ok.hd hc) it p bH ao.toArray
  rw[Qn]at D
  exact⟨ao,(fun i h=>h.IsTupleIter it p i/\h.IsTuple p ao.toArray),rv,(by simpa using D),fun i st=>⟨st,pl⟩,fun i h st=>st.1,fun ys hy=>I.gW hy hq⟩
def vE (Sq:Hp->List V->Prop):It:=
 ⟨fun i H=>∃ xs x,Sq H xs/\xs[i]? = some x,
  fun i H v H'=>∃ T x,v=.ref T/\H T=none/\(∀ xs,Sq H xs->xs[i]? = some x)/\H'=upd H T (.tup [.int (Int.ofNat i),x]),
  fun i H=>∃ xs,Sq H xs/\xs.length=i⟩
def Rn{w:World}{elts:List Expr}{kt:Nat}{tp:Pos}{e:Addr}{tn:Nat->Heap->Prop}(S:Src P w K it p Sq tn)(bH:e≠it)(hp:e≠p) :
  Turn P w K (.Tuple elts kt tp) (vE Sq) [e,it] e (fun i h=>(∃ old,IsEnum h e it i old)/\tn i h) where
 mem:=by simp
 obj:=fun i h st b hb=>by
  obtain⟨⟨old,he⟩,st⟩:=st
  simp only[Qt,QG,YO]at hb
  rcases hb with rfl|rfl
  ·exact⟨_,he,fun v e=>nomatch e⟩
  ·obtain⟨o,vs,e,d⟩:=S.obj i h st
   exact⟨o,e,fun v z=>by rw[d]at z;cases z⟩
 keep:=fun i h h' st k=>by
  obtain⟨⟨old,he⟩,st⟩:=st
  exact⟨⟨old,k e (by simp) _ he⟩,S.keep i h h' st fun o z=>k it (by simp) o z⟩
 item:=by
  intro X hP hw hK hc i pins s σ H E I hf st hg
  obtain⟨⟨old,he⟩,st⟩:=st
  obtain⟨xs,x,hq,hx⟩:=hg
  obtain⟨us,St,rv,D,s1,s2,inj⟩:=S.draw X hP hw hK hc pins s σ H xs I hq
  obtain⟨u,hu,ru⟩:=rv.get hx
  have bL:i<us.length:=(Qr.mp hu).1
  refine wpAny_pyNext_enum_itemD D he (s1 i st) bL bH (by simp[bH,hp]) fun u' g tk F5 ho lg hT hsz hk=>?_
  have eu:u'=u:=by rw[hu]at F5;exact(QC F5).symm
  subst eu
  refine⟨_,rfl,wpAny_letOwnedTupleGo_enum (s:={ s with heap:=g,toks:=tk+1 }) ho fun g' vF sb=>?_⟩
  have vG:Heap.SameBut e g g':=sb
  have fr:H s.heap.objs.size=none:=I.aw.fresh (Qg _)
  have ri:bw (.int (Int.ofNat i)) (.int i tk):=⟨tk,rfl⟩
  have I1:Inv X pins σ (upd H s.heap.objs.size (.tup [.int (Int.ofNat i),x])) { s with heap:=s.heap.push { cls:=.type "tuple",data:=.seq #[.int i tk,u'] } }:=
   I.laid (t':=s.toks) (fun b q e=>Qd _ e) (Qg _) (show cR X.prog X.w _ _ _ (.tup _)from⟨(by show 2<=sizeLine;decide),[.int i tk,u'],.cons ri (.cons ru .nil),lG.new _ _⟩)
  have lt:∀ b ∈ [e,it],b<s.heap.objs.size:=fun b hb=>by
   simp only[Qt,QG,YO]at hb
   rcases hb with rfl|rfl
   ·exact Qm he
   ·obtain⟨o,_,e,_⟩:=S.obj i _ st;exact Qm e
  have hn:∀ b ∈ [e,it],upd H s.heap.objs.size (.tup [.int (Int.ofNat i),x]) b=none:=fun b hb=>by rw[a0 (Qz (lt b hb))];exact(hf b hb).1
  have I2:Inv X pins σ (upd H s.heap.objs.size (.tup [.int (Int.ofNat i),x])) { s with heap:=g',toks:=tk+1 }:=PF (s:={ s with heap:=s.heap.push { cls:=.type "tuple",data:=.seq #[.int i tk,u'] } }) (t':=tk+1) (ch:=[e,it]) I1 (fun b q nb z=>by
   have b1:b≠e:=fun h=>nb (by simp[h])
   have b2:b≠it:=fun h=>nb (by simp[h])
   rcases Heap.get?_push_cases z with⟨rfl,rfl⟩|z'
   ·exact vG.extBut _ _ b1 hT
   ·exact vG.extBut _ _ b1 (hk b q b1 b2 z')) fun b hb=>by
     obtain⟨f0,f1,f2,f3,f4,f5⟩:=hf b hb
     exact⟨hn b hb,f1,f2,f3,f4,f5⟩
  refine⟨.ref s.heap.objs.size,_,I2,rfl,⟨s.heap.objs.size,x,rfl,fr,fun zs hz=>?_,rfl⟩,⟨⟨_,vF⟩,?_⟩,hn⟩
  ·rw[inj zs hz];exact hx
  ·exact S.keep _ _ _ (s2 _ _ lg) fun o z=>vG.extBut _ _ (Jk bH) z
 done:=by
  intro X hP hw hK hc i pins s σ H E I hf st hg
  obtain⟨⟨old,he⟩,st⟩:=st
  obtain⟨xs,hq,hx⟩:=hg
  obtain⟨us,St,rv,D,s1,s2,inj⟩:=S.draw X hP hw hK hc pins s σ H xs I hq
  have hl:us.length=i:=by rw[<- rv.length];exact hx
  subst hl
  refine wpAny_pyNext_enum_endD D he (s1 _ st) fun g kp=>⟨rfl,?_⟩
  obtain⟨f0,f1,f2,f3,f4,f5⟩:=hf it (by simp)
  exact I.turned (t':=s.toks) (fun b o hb z=>kp b o hb z) f0 f1 f3 f4 f5
 self:=fun _ _ _ _ _ st h=>by
  obtain⟨⟨old,he⟩,_⟩:=st
  exact wpAny_pyIter_enum he h
section
variable {X:Cx}{a b c e:Expr}{es elts:List Expr}{fa fb fc f:aB}{g:bT}{pos p p1 p2 tp:Pos}{kt:Nat}
def Ro (K:PySem.W.Frag)(ta:TA):TI:=fun σ H R=>ta σ H fun vs H1=>∃ p,vs=[.ref p]/\(((∃ xs,cn K H1 p xs)/\R (vE fun H xs=>cn K H p xs) H1)\/((∃ xs,dh K H1 p xs)/\R (vE fun H xs=>dh K H p xs) H1))
def Rp{ta:TA}(hg:Gl X "enumerate")(hm:X.mg "enumerate" = none)(ha:PA X [a] ta)(hs:starEach [a] X.env=[(false,eval a X.env)]:=by rfl) :
  PI X (.Tuple elts kt tp) (.Call (.Name "enumerate" p) [a] [] pos) (Ro X.K ta):=by
 intro pins s σ H R I h
 refine Call_ (qC I hg hm boot_enumerate (ZR (aU (ha pos pins s σ H _ I h) fun us s1 ⟨vs,H1,I1,r1,q1⟩=>?_) hs rfl))
 obtain⟨q,ee,hq⟩:=q1
 subst ee
 cases r1 with
 | cons r rr=>
  cases rr
  cases r
  have ne1:s1.heap.objs.size+1≠s1.heap.objs.size:=Nat.succ_ne_self _
  have fin:∀ {g:Heap} {Sq:Hp->List V->Prop} {tn:Nat->Heap->Prop},q<s1.heap.objs.size->Src X.prog X.w X.K s1.heap.objs.size q Sq tn->IsEnum g (s1.heap.objs.size+1) s1.heap.objs.size 0 .none->tn 0 g->(∀ b o,s1.heap.get? b=some o->g.get? b=some o)->R (vE Sq) H1->
    wpAny (model X.prog X.w) X.A (pyIter (.ref (s1.heap.objs.size+1))) (Ac X pins σ (.Tuple elts kt tp) R) X.xe { s1 with heap:=g }:=fun {g Sq tn} lq S he ht kp hR=>by
   have ne2:s1.heap.objs.size+1≠q:=Y8 (Zi lq)
   refine wpAny_pyIter_enum he ⟨s1.heap.objs.size+1,[s1.heap.objs.size+1,s1.heap.objs.size],_,_,H1,rfl,I1.kept (t':=s1.toks) kp,Rn S ne1 ne2,⟨⟨_,he⟩,ht⟩,fun b hb=>?_,hR⟩
   have F7:s1.heap.objs.size<=b:=by
    simp only[Qt,QG,YO]at hb
    rcases hb with rfl|rfl
    ·exact YC _ _
    ·exact Qg _
   exact I1.n9 F7 (I1.aw.fresh F7)
  rcases hq with⟨⟨xs,hx⟩,hR⟩|⟨⟨xs,hx⟩,hR⟩
  ·obtain⟨ao,rv,pl,_⟩:=I1.list hx
   have lq:q<s1.heap.objs.size:=by obtain⟨_,e,_⟩:=pl.isList;exact Qm e
   exact call_enumerate_list pl.isList fun g he hi _ kp=>fin lq (Rl (Qz lq)) he hi kp hR
  ·obtain⟨ao,rv,pl,_⟩:=I1.tuple hx
   have lq:q<s1.heap.objs.size:=by obtain⟨_,e,_⟩:=pl;exact Qm e
   exact Rk (show s1.heap.IsTuple q ao.toArray from pl) fun g he hi _ kp=>fin lq (Rm (Qz lq)) he hi kp hR
def mv (ds:List D):List D:=ds.zipIdx.map fun x=>.tup [.int (Int.ofNat x.2),x.1]
def yL(ds:List D):(mv ds).length=ds.length:=by simp[mv]
def Rq(ds:List D)(i:Nat):(mv ds)[i]? = (ds[i]?).map fun d=>.tup [.int (Int.ofNat i),d]:=by
 simp only[mv,Ql,List.getElem?_zipIdx,Option.map_map]
 cases ds[i]? with
 | none=>rfl
 | some d=>simp
@[simp] def vH (g:bT):jD:=fun ρ=>match g ρ with
 | some ([.lst ds],ρ1)=>if ds.length<=1000 then some (mv ds,ρ1)else none
 | some ([.tup ds],ρ1)=>if ds.length<=1000 then some (mv ds,ρ1)else none
 | _=>none
def It.enum{P:Hp->Wn->Prop}(hl:ds.length=vs.length)(sq:∀ H w,P H w->Sq H vs/\af K H w .f 0 ds vs [])(ps:∀ H w H' w',P H w->WL K w H->c_ H w H' w'->P H' w'):kO K (vE Sq) (mv ds) P:=by
 refine⟨fun i H w p hi=>⟨vs,vs[i]'(by rw[yL]at hi;omega),(sq H w p).1,by simp⟩,fun i H w x H' d p wl hd y=>?_,fun H w p=>⟨vs,(sq H w p).1,by rw[yL];exact hl.symm⟩,ps⟩
 obtain⟨T,v,rfl,hT,hv,rfl⟩:=y
 obtain⟨q1,r1⟩:=sq H w p
 rw[Rq]at hd
 cases hz:ds[i]? with
 | none=>rw[hz]at hd;cases hd
 | some d0=>
  rw[hz]at hd
  cases hd
  obtain⟨v',BM,rv⟩:=r1.get hz
  have ev:v'=v:=by have:=hv vs q1;rw[BM]at this;exact QC this
  subst ev
  have mo:∀ a o,H a=some o->upd H T (.tup [.int (Int.ofNat i),v']) a=some o:=fun a o e=>by rw[a0 (iC e hT)];exact e
  have st:c_ H w (upd H T (.tup [.int (Int.ofNat i),v'])) w:=fun a x e n=>⟨sm (mo a x e),n⟩
  exact⟨⟨mo,fun t=>t.upd rfl (.inl hT)⟩,.tup fO (.cons (F:=[]) (G:=[]) (.int _) (.cons (F:=[]) (G:=[]) (Rep.oI rv wl st) .nil nM) nM),ps _ _ _ _ p wl st⟩
def Rr(hm:X.mg "enumerate" = none)(ha:fi X [a] g)(hg:Gl X "enumerate":=by rfl)(hs:starEach [a] X.env=[(false,eval a X.env)]:=by rfl):q_ X (.Tuple elts kt tp) (.Call (.Name "enumerate" p) [a] [] pos) (vH g):=⟨have ha:=ha.o;PI.imp (Rp hg hm ha hs) fun σ H R ag=>by
 obtain⟨ρ,w,t,ds,ρ',gd,ee,k⟩:=ag
 unfold vH at ee
 split at ee
 next d1 ρ1 h1=>
  split at ee
  next hl=>
   cases ee
   refine⟨ρ,w,t,_,_,gd,h1,fun vs H1 w1 g1 aD r1=>?_⟩
   obtain⟨v,rfl,rv⟩:=one r1
   have hz:(mv d1).length<sizeLine:=by rw[yL];exact kI hl
   cases rv with
   | kl h r=>exact⟨_,rfl,.inl ⟨⟨_,h.sq⟩,k _ _ H1 w1 g1 aD (It.enum (P:=fun H w=>(KL X.K _ _\/False)/\af X.K H w .f 0 d1 _ []) r.length (fun H w p=>⟨p.1.elim (fun z=>z.sq) fun z=>z.elim,p.2⟩) fun H w H' w' p wl st=>⟨p.1,af.go wl st p.2 nM⟩) ⟨.inl h,r⟩ hz⟩⟩
   | shr h n r=>exact⟨_,rfl,.inl ⟨⟨_,.inl h⟩,k _ _ H1 w1 g1 aD (It.enum (P:=fun H w=>(Rd H _ (.lst _)/\w _=none)/\af X.K H w .f 0 d1 _ []) r.length (fun H w p=>⟨.inl p.1.1,p.2⟩) fun H w H' w' p wl st=>⟨yb.go st p.1.2 p.1.1,af.go wl st p.2 nM⟩) ⟨⟨h,n⟩,r⟩ hz⟩⟩
  ·cases ee
 next d1 ρ1 h1=>
  split at ee
  next hl=>
   cases ee
   refine⟨ρ,w,t,_,_,gd,h1,fun vs H1 w1 g1 aD r1=>?_⟩
   obtain⟨v,rfl,rv⟩:=one r1
   have hz:(mv d1).length<sizeLine:=by rw[yL];exact kI hl
   obtain⟨p1,as,rfl,q1,s1⟩:=rv.ic
   exact⟨p1,rfl,.inr ⟨⟨_,q1⟩,k _ _ H1 w1 g1 aD (It.enum (P:=fun H w=>dh X.K H p1 as/\af X.K H w .f 0 d1 as []) s1.length (fun H w p=>p) fun H w H' w' p wl st=>⟨dh.go wl st p.1,af.go wl st p.2 nM⟩) ⟨q1,s1⟩ hz⟩⟩
  ·cases ee
 ·cases ee⟩
end
end L3
namespace L3
open PySem PySem.Spec PyProof.Rows PySem.W L2
variable {A:Around}{C:Addr}{E:Value->Shared->Prop}{H:Hp}{K:PySem.W.Frag}{M:Model}{P:Program}{h h':Heap}{i:Nat}{pos:Pos}{w:World}{x:Str}{ρ:aR}{σ:St}
def BN{a:Addr}{o:HO}(x:cR P w H h a o):∃ ob,h.get? a=some ob:=by
 cases o with
 | lst xs=>obtain⟨_,_,_,_,e⟩:=x;exact⟨_,e⟩
 | tup xs=>obtain⟨_,_,_,o,e,_⟩:=x;exact⟨_,e⟩
 | dK ai=>obtain⟨_,_,_,_,o,_,_,e,_⟩:=x;exact⟨_,e⟩
 | dT ai=>obtain⟨_,_,_,_,o,_,_,e,_⟩:=x;exact⟨_,e⟩
 | set S n=>obtain⟨o,_,_,_,e,_⟩:=x;exact⟨_,e⟩
 | ins C dx fs=>obtain⟨_,_,_,e,_⟩:=x;exact⟨_,e⟩
 | own y=>obtain⟨_,e⟩:=x;exact⟨_,e⟩
 | xd fs=>obtain⟨_,⟨_,_,_,e,_⟩,_⟩:=x;exact⟨_,e⟩
 | k9 lo hi=>obtain⟨_,_,_,e⟩:=x;exact⟨_,e⟩
 | d8 ob u=>obtain⟨e,_⟩:=x;exact⟨_,e⟩
 | jd ps=>exact⟨_,(show h.get? a=some _ from x)⟩
 | met f y=>exact⟨_,(show h.get? a=some _ from x)⟩
 | ext φ=>obtain⟨_,⟨_,e⟩,_⟩:=x;exact⟨_,e⟩
def BO(x:cP P w H h)(k:∀ b u o,H b=some u->h.get? b=some o->h'.get? b=some o):cP P w H h':=fun b u e=>
 (x b u e).fA (fun c o hc q=>by
  rcases hc with z|z
  ·rw[z]at q ⊢;exact k b u o e q
  ·exact k c _ o z q) (fun _ q=>q) fun _ _ q=>q
structure oS (P:Program) (w:World) (outer:List Env) (H:Hp) (s:Shared) (a C t:Addr) (B:Heap) (H':Hp) (s':Shared):Prop where
 os:s'.os=s.os
 bare:AllBare s'.gens
 un:Un (cQ outer) [] H H' s.heap s'.heap
 aw:cP P w H' s'.heap
 fl:Heap.FlyingW B outer a (.ref C) (.ref t) s'.heap
 old:∀ b o,s.heap.get? b=some o->H b=none->b ∉ cQ outer->B.get? b=some o
 oT:∀ b o,s.heap.get? b=some o->b ∉ cQ outer->∃ o',B.get? b=some o'
 lH:∀ b u o,H' b=some u->s'.heap.get? b=some o->B.get? b=some o
 free:H' a=none
def BP (P:Program)(w:World):lR:=fun outer H s E e s'=>∃ (a C t:Addr) (B:Heap) (H':Hp),e=.ref a/\oS P w outer H s a C t B H' s'/\E (.ref C) none H'
section
variable {P:Program}{w:World}{K:PySem.W.Frag}{mg:Str->Option Value}{base:Heap}{N:List Str}{qual:Str}{scope:Scope}{f:Addr}{cd:Value}{A:Around}{outer:List Env}{av:Shared}{br:Hp}{E:XK}{pins:List (Addr×Obj)}{σ:St}{H:Hp}{s:Shared}
abbrev jI (P:Program)(w:World)(K:PySem.W.Frag)(mg:Str->Option Value)(base:Heap)(N:List Str)(qual:Str)(scope:Scope)(f:Addr)(cd:Value)(A:Around)(outer:List Env)(av:Shared)(br:Hp)(E:XK):Cx:=k_ (BP P w) P w K mg base N qual scope f cd A outer av br E
def F8(I:Inv (jI P w K mg base N qual scope f cd A outer av br E) pins σ H s){b:Addr}(hb:b∈cQ outer){o:Obj}(e:s.heap.get? b=some o):∀ vs,o.data ≠ .fields vs:=by
 obtain⟨_,o',ho,hd⟩:=I.eK.mem hb
 rw[e]at ho;cases ho
 exact hd
def Rt{e:Addr}{vs:List Value}(I:Inv (jI P w K mg base N qual scope f cd A outer av br E) pins σ H s)(hm:Heap.MadeExcOf s.heap h' e (.ref C) vs)(hE:E (.ref C) none H) :
  (jI P w K mg base N qual scope f cd A outer av br E).xe (.ref e) { s with heap:=h' }:=by
 have nL:∀ b o,av.heap.get? b=some o->b≠av.heap.objs.size:=fun b o q=>Qz (Qm q)
 have rG:∀ b o,s.heap.get? b=some o->b≠av.heap.objs.size->b ∉ cQ outer->(hideAll s.heap (cQ (envOfC qual scope av.heap.objs.size f cd::outer))).get? b=some o:=fun b o q n1 n2=>hideAll_get _ q fun hm=>by
  rcases Qt.mp (show b∈av.heap.objs.size::cQ outer from hm)with z|z
  ·exact n1 z
  ·exact n2 z
 have iV:∀ env∈(envOfC qual scope av.heap.objs.size f cd::outer),∀ b,env.frame=some b->b∈cQ (envOfC qual scope av.heap.objs.size f cd::outer):=fun env he b hb=>Yg.mpr ⟨env,he,hb⟩
 have vJ:∀ b u,H b=some u->b≠av.heap.objs.size/\b ∉ cQ outer:=fun b u q=>by
  refine⟨fun z=>?_,fun z=>?_⟩
  ·have:=I.free
   rw[z]at q
   have vK:H av.heap.objs.size=none:=this
   rw[vK]at q;cases q
  ·have:=I.d9 b (Qh _ z)
   rw[this]at q;cases q
 have bD:Un (cQ outer) [] br H av.heap s.heap:=I.base
 show wpAny _ _ (leaving (envOfC qual scope av.heap.objs.size f cd) (.ref e)) _ _ _
 refine wpAny_leaves_madeW (s:={ s with heap:=h' }) (L:=av.heap.objs.size) (outer:=outer) I.ok.frames rfl (fun b o q=>of_hideAll _ q) (funFrames_hide I.stack iV) hm fun h2 t fl _ _ up=>?_
 have old:∀ b o,av.heap.get? b=some o->br b=none->b ∉ cQ outer->(hideAll s.heap (cQ (envOfC qual scope av.heap.objs.size f cd::outer))).get? b=some o:=fun b o q n hb=>rG b o (bD.keep b o q n hb (by simp)) (nL b o q) hb
 have slot:∀ b o,s.heap.get? b=some o->b∈cQ outer->∃ sl,h2.get? b=some { o with slots:=sl }:=fun b o q hb=>up b o (hm.keeps b o q) (F8 I hb q)
 have lH:∀ b u o,H b=some u->s.heap.get? b=some o->(hideAll s.heap (cQ (envOfC qual scope av.heap.objs.size f cd::outer))).get? b=some o:=fun b u o q e=>rG b o e (vJ b u q).1 (vJ b u q).2
 refine⟨e,C,t,_,H,rfl,⟨I.os,I.bare,⟨fun b o q n hb _=>fl.1 b o (old b o q n hb),fun b o q n hb _=>?_,fun b o q n _=>bD.free b o q n (by simp),fun b o q _=>?_,bD.dR,bD.dE,bD.dS⟩,BO I.aw fun b u o q e=>fl.1 b o (lH b u o q e),fl,old,fun b o q hb=>?_,fun b u o q e=>?_,?_⟩,hE⟩
 ·obtain⟨sl,q1⟩:=bD.slot b o q n hb (by simp)
  obtain⟨ni,q2⟩:=slot b _ q1 hb
  exact⟨ni,q2⟩
 ·obtain⟨o',q1⟩:=bD.there b o q (by simp)
  by_cases hb:b∈cQ outer
  ·obtain⟨sl,q2⟩:=slot b o' q1 hb
   exact⟨_,q2⟩
  ·exact⟨o',fl.1 b o' (rG b o' q1 (nL b o q) hb)⟩
 ·obtain⟨o',q1⟩:=bD.there b o q (by simp)
  exact⟨o',rG b o' q1 (nL b o q) hb⟩
 ·obtain⟨o1,q1⟩:=BN (I.aw b u q)
  have q2:=lH b u o1 q q1
  have q3:=fl.1 b o1 q2
  have e':h2.get? b=some o:=e
  rw[q3]at e';cases e'
  exact q2
 ·cases q:H e with
  | none=>rfl
  | some u=>
   obtain⟨o1,q1⟩:=BN (I.aw e u q)
   rw[hm.new]at q1;cases q1
theorem Ru{E':XK}(hE:∀ C H',E' (.ref C) none H'->E (.ref C) none H')(I:Inv (jI P w K mg base N qual scope f cd A outer av br E) pins σ H s){e:Value}{s':Shared}(h:BP P w (envOfC qual scope av.heap.objs.size f cd::outer) H s E' e s') :
  (jI P w K mg base N qual scope f cd A outer av br E).xe e s':=by
 obtain⟨a,C,t,B,H',rfl,F,Rv⟩:=h
 have nL:∀ b o,av.heap.get? b=some o->b≠av.heap.objs.size:=fun b o q=>Qz (Qm q)
 have bD:Un (cQ outer) [] br H av.heap s.heap:=I.base
 have BQ:∀ b o,av.heap.get? b=some o->b ∉ cQ outer->b ∉ cQ (envOfC qual scope av.heap.objs.size f cd::outer):=fun b o q n hm=>by
  rcases Qt.mp (show b∈av.heap.objs.size::cQ outer from hm)with z|z
  ·exact nL b o q z
  ·exact n z
 show wpAny _ _ (leaving (envOfC qual scope av.heap.objs.size f cd) (.ref a)) _ _ _
 refine wpAny_leaves_onW (L:=av.heap.objs.size) (outer:=outer) I.ok.frames rfl F.fl fun h2 fl up=>?_
 have old:∀ b o,av.heap.get? b=some o->br b=none->b ∉ cQ outer->B.get? b=some o:=fun b o q n hb=>F.old b o (bD.keep b o q n hb (by simp)) (bD.free b o q n (by simp)) (BQ b o q hb)
 have slot:∀ b o,s.heap.get? b=some o->H b=none->b∈cQ outer->∃ sl,h2.get? b=some { o with slots:=sl }:=fun b o q n hb=>by
  obtain⟨sl,q1⟩:=F.un.slot b o q n (Qh _ hb) (by simp)
  obtain⟨ni,q2⟩:=up b _ q1 (fun vs z=>F8 I hb q vs z)
  exact⟨ni,q2⟩
 have fH:∀ b∈cQ outer,H b=none:=fun b hb=>I.d9 b (Qh _ hb)
 refine⟨a,C,t,B,H',rfl,⟨F.os.trans I.os,F.bare,⟨fun b o q n hb _=>fl.1 b o (old b o q n hb),fun b o q n hb _=>?_,fun b o q n _=>?_,fun b o q _=>?_,fun b xs q=>F.un.dR b xs (bD.dR b xs q),fun b o u q=>F.un.dE b o u (bD.dE b o u q),fun b ps q=>?_⟩,BO F.aw fun b u o q e=>fl.1 b o (F.lH b u o q e),fl,old,fun b o q hb=>?_,fun b u o q e=>?_,F.free⟩,hE C H' Rv⟩
 ·obtain⟨sl,q1⟩:=bD.slot b o q n hb (by simp)
  obtain⟨ni,q2⟩:=slot b _ q1 (fH b hb) hb
  exact⟨ni,q2⟩
 ·obtain⟨o',q1⟩:=bD.there b o q (by simp)
  exact F.un.free b o' q1 (bD.free b o q n (by simp)) (by simp)
 ·obtain⟨o',q1⟩:=bD.there b o q (by simp)
  by_cases hb:b∈cQ outer
  ·obtain⟨sl,q2⟩:=slot b o' q1 (fH b hb) hb
   exact⟨_,q2⟩
  ·obtain⟨o2,q2⟩:=F.oT b o' q1 (BQ b o q hb)
   exact⟨o2,fl.1 b o2 q2⟩
 ·obtain⟨m1,e1⟩:=bD.dS b ps q
  obtain⟨m2,e2⟩:=F.un.dS b _ e1
  exact⟨m1++m2,by rw[e2,Array.append_assoc]⟩
 ·obtain⟨o',q1⟩:=bD.there b o q (by simp)
  exact F.oT b o' q1 (BQ b o q hb)
 ·obtain⟨o1,q1⟩:=BN (F.aw b u q)
  have q2:=F.lH b u o1 q q1
  have q3:=fl.1 b o1 q2
  have e':h2.get? b=some o:=e
  rw[q3]at e';cases e'
  exact q2
end
structure BR (K:Frag) (mg:Str->Option Value) (nm:Str) (C:Addr):Prop extends iU K nm C where
 mg:mg nm=some (.ref C)
def Rw{K:Frag}{F9:List Value}{newId:String}(X:K.In h)(q:excIn K C F9 newId=true) :
  ∃ bm N nm q bs hdct sn sub ab col dd k0 k1 k2 k3 k5 mN,h.get? C=some (excClassObj nm q C N bs bm hdct sn sub ab col dd k0 k1 k2 k3 k5 newId)/\h.Ns N mN/\mN "__init__" = none/\OwnTail h F9 bm:=by
 unfold excIn at q
 split at q
 next dd cd sl ho=>
  split at q
  next C' bm k0 k1 k2 k3 n k5 hm hs=>
   simp only[ZY,ZE,Bool.not_eq_true']at q
   obtain⟨⟨⟨⟨⟨rfl,rfl⟩,vM⟩,ht⟩,aw⟩,oU⟩:=q
   obtain⟨nm,bs,mro,ns,qn,hd,sn,sub,ab,col,del⟩:=cd
   dsimp only at hm vM aw oU
   subst hm vM
   have Rx:sl = #[k0,k1,k2,k3,some (.builtin n),k5]:=by
    obtain⟨l⟩:=sl
    simp only at hs
    rw[hs]
   subst Rx
   exact⟨bm,ns,nm,qn,bs,hd,sn,sub,ab,col,dd,k0,k1,k2,k3,k5,_,X _ _ ho,.of_isNs (isNs_of_in X aw),nsMap_none_of_in X aw oU,tail_of_in X ht⟩
  ·cases q
 ·cases q
section
variable {P:Program}{w:World}{K:PySem.W.Frag}{mg:Str->Option Value}{base:Heap}{N:List Str}{qual:Str}{scope:Scope}{f:Addr}{cd:Value}{A:Around}{outer:List Env}{av:Shared}{br:Hp}{E:XK}{pins:List (Addr×Obj)}{σ:St}{H:Hp}{s:Shared}
def Ry{nm txt:Str}{j:Nat}{np aq lZ pos:Pos}(hA:A.handled=none)(hC:BR K mg nm C)(hg:Gl (jI P w K mg base N qual scope f cd A outer av br E) nm)(gF:(nm==("__debug__":Str))=false:=by decide) :
  PS (jI P w K mg base N qual scope f cd A outer av br E) (.Raise (some (.Call (.Name nm np) [.Constant (.str txt) j lZ] [] aq)) none pos) (fun _ _ H=>E (.ref C) none H):=by
 intro pins s σ H D I h
 obtain⟨tl,Nn,BS,q,bs,hdct,sn,sub,ab,col,dd,k0,k1,k2,k3,k5,mN,Rz,hN,oU,T⟩:=Rw I.mod.uD hC.ex
 refine wpAny_Raise_call_subT (C:=C) (nm:=BS) (q:=q) (N:=Nn) (bs:=bs) (bm:=tl) (hdct:=hdct) (sn:=sn) (sub:=sub) (ab:=ab) (col:=col) (dd:=dd) (k0:=k0) (k1:=k1) (k2:=k2) (k3:=k3) (k5:=k5)
  Vk (mN:=mN) (T.hasType Vk.hasBase) hA rfl oU (uI I hg hC.mg ⟨rfl,?_⟩ gF)
 refine JQ (Jx (aU (Ee (j:=j) (pos:=lZ) pins s σ H (fun v H1=>v=.str txt/\H1=H) I ⟨rfl,rfl⟩) fun u s1 ag=>?_))
 obtain⟨v,H1,I1,r1,e1,e2⟩:=ag
 subst e1 e2
 refine Yn ⟨rfl,by show 1<=sizeLine;decide,I1.bk _ _ Rz,hN.keeps I1.bk,T.keeps I1.bk,fun h' e hm=>Rt I1 hm h⟩
end
abbrev g8:=aR->Option Str
def tX (K:PySem.W.Frag)(x:g8)(E:XK):TS:=fun _ σ H=>∃ ρ w nm,Good K ρ σ H w 0/\x ρ=some nm/\∀ C H' w',nsIn K mainGlobals nm=some (some (.ref C))->WL K w' H'->Go H w H' w'->E (.ref C) none H'
def BU (K:PySem.W.Frag)(n:Nat)(F:List D->Option Str):Sp:=fun vs H _ E=>vs.length=n/\∃ ds w nm,(∀ a o,w a=some o->o=.f)/\WL K w H/\af K H w .f 0 ds vs []/\F ds=some nm /\
 ∀ C H' w',nsIn K mainGlobals nm=some (some (.ref C))->WL K w' H'->Go H w H' w'->E (.ref C) none H'
def fnX (n:Nat)(x:g8):List D->Option Str:=fun ds=>x (nB n ds)
def kS (P:Program)(w:World)(K:PySem.W.Frag)(mg:Str->Option Value)(base:Heap)(k:Nat)(x:Str)(n:Nat)(F:List D->Option Str):Prop:=
 ∃ f fd ps,dU P w K mg base (BP P w) k f fd ps (BU K n F)/\mg x=some (.ref f)/\PySem.W.keepIn K (.ref f)=true/\oa K fd ps []
theorem kS.mk{mg:Str->Option Value}{base:Heap}{k:Nat}{st:Stmt}{N ps:List Str}{xb:g8}(a:At K mg x st ps)(S:ah N ps (bj st))
  (h:∀ (f:Addr) (bG:Value) (A:Around) (outer:List Env) (s:Shared) (H:Hp) (E:XK),aQ k (A.deeper (envOfC x (bj st) s.heap.objs.size f bG))->gB (jI P w K mg base N x (bj st) f bG A outer s H E) (jg st) (tX K xb E)) :
  kS P w K mg base (k+1) x ps.length (fnX N.length xb):=by
 obtain⟨f,fd,F,m,b⟩:=a
 refine⟨f,fd,ps,?_,m,F.kp,b⟩
 obtain⟨oc,od,kV,doc,pm,an,bG,ct,lS,rfl,lk,gC⟩:=F.ex
 refine EJ lk gC S (fun vs H Q E h=>h.1) fun A outer s H vs Q E hr jy=>⟨_,h f bG A outer s H E hr,?_⟩
 obtain⟨hn,ds,w,nm,hw,wl,rs,e,k⟩:=jy
 exact⟨_,w,nm,Bg hw wl rs,e,k⟩
def BV (F:List D->Option Str)(n:Nat)(g:bT):g8:=fun ρ=>match g ρ with
 | some (ds,_)=>if ds.length=n then F ds else none
 | none=>none
def RC{K:Frag}{s:Shared}{x R:Addr}{ox:Obj}{Q:Bool->Shared->Prop}(X:K.In s.heap)(I:ji s.heap x ox C)(hR:eP K R)(oh:typeIn K (.ref R)=some (.type "type"))
  (bO:subIn K (.ref C) (.ref R)=some true) (h:Q true s):wpAny M A (excMatches (.ref x) (.ref R)) Q E s:=by
 obtain⟨h0,g,d,tt,os⟩:=s
 have L0:=I.type (M:=M)
 have L1:=looks_typeIn (M:=M) X oh
 have L2:=AQ (M:=M) X hR.ci
 have L3:=looks_mroIn (M:=M) X hR.mb
 have L4:=Uf (M:=M) X bO
 have f:=tc_notTuple
 have L5:Looks M h0 (isSubtype (.type "type") (.type "tuple")) false:=YJ f
 unfold excMatches isInstance isExcClass
 repeat (first|lk|wp_step)
 exact h
section
variable {X:Cx}{pins:List (Addr×Obj)}{σ:St}{H H':Hp}{s s':Shared}{a C t:Addr}{B:Heap}
def RD{Q:Unit->Shared->Prop}(I:Inv X pins σ H s)(hN:X.N.Nodup)(hi:X.N[i]? = some x)(hx:X.env.scope.names.lookup x=some .local)
  (h:∀ s',Inv X pins (σ.set i none) H s'->Q () s'):wpAny M A (do bindName X.env x .none;unbindBehindTheSuite X.env x pos) Q E s:=by
 obtain⟨m,hn,hl⟩:=id I.loc
 have qB:(X.env.scope.kind == .class||(X.env.scope.kind == .module&&X.env.locals != X.env.globals))=false:=by rw[I.ok.kind];rfl
 have kE:i<σ.length:=by rw[I.len];exact(Qr.mp hi).1
 have lJ:=I.lJ
 refine wpAny_nameGoes_keeps hx hn qB fun h' v n6 hs=>?_
 obtain⟨oL,_,_,tw,_⟩:=id hn
 have tracked:cP X.prog X.w H h':=fun b ob e=>by
  refine(I.aw b ob e).fA (fun c w' hc q=>(hs.2 c ?_).trans q) (fun _ q=>q) fun _ _ q=>q
  rintro rfl
  rcases hc with rfl|hc
  ·rw[I.free]at e;cases e
  ·rw[I.free]at hc;cases hc
 refine h _ ⟨I.ok,I.os,I.bare,⟨fun b o e n hb hx=>?_,fun b o e n hb hx=>?_,I.base.free,fun b o e hx=>?_,I.base.dR,I.base.dE,I.base.dS⟩,⟨_,n6,fun j y v' e1 e2 e3=>?_⟩,fun y c e=>?_,I.free,I.cD,fun p hp=>?_,tracked,by simpa using I.len⟩
 ·exact(hs.2 b (Qz (Qs (Qm e) I.ok.above))).trans (I.base.keep b o e n hb hx)
 ·obtain⟨sl,e1⟩:=I.base.slot b o e n hb hx
  exact⟨sl,(hs.2 b (Qz (Qs (Qm e) I.ok.above))).trans e1⟩
 ·obtain⟨o',e1⟩:=I.base.there b o e hx
  exact⟨o',(hs.2 b (Qz (Qs (Qm e) I.ok.above))).trans e1⟩
 ·by_cases hj:j=i
  ·subst hj
   rw[QL kE]at e2
   cases e2
  ·rw[QM (Jk hj)]at e2
   obtain⟨u',r',q⟩:=hl j y v' e1 e2 e3
   refine⟨u',r',?_⟩
   rcases q with⟨k,e⟩|⟨k,c,e,z⟩
   ·refine .inl ⟨k,?_⟩
    have:y≠x:=fun e=>hj (zW hN e1 (e ▸ hi))
    simp[this,e]
   ·exact .inr ⟨k,c,e,z.sameBut hs (lJ y c e)⟩
 ·obtain⟨w',z⟩:=I.cell y c e
  exact⟨w',z.sameBut hs (lJ y c e)⟩
 ·obtain⟨e,n,ne,nf,d⟩:=I.pin p hp
  exact⟨(hs.2 p.1 ne).trans e,n,ne,nf,d⟩
def tW (a:Addr)(oe:Obj):HO:=.d8 oe (.ext fun h=>h.get? a=some oe)
theorem oS.BW(I:Inv X pins σ H s)(F:oS X.prog X.w X.stack H s a C t B H' s')(fl:Heap.FlyingW B X.stack a (.ref C) (.ref t) h')(up:s'.heap.UpToSlots h'):Un (cQ X.stack) [] H H' s.heap h'/\cP X.prog X.w H' h':=by
 have slot:∀ b o,s.heap.get? b=some o->H b=none->b∈cQ X.stack->∃ sl,h'.get? b=some { o with slots:=sl }:=fun b o q n hb=>by
  obtain⟨sl,q1⟩:=F.un.slot b o q n hb (by simp)
  obtain⟨_,o',ho,hd⟩:=I.stack.mem hb
  rw[q]at ho;cases ho
  obtain⟨ni,q2⟩:=up b _ q1 hd
  exact⟨ni,q2⟩
 refine⟨⟨fun b o q n hb _=>fl.1 b o (F.old b o q n hb),fun b o q n hb _=>slot b o q n hb,F.un.free,fun b o q _=>?_,F.un.dR,F.un.dE,F.un.dS⟩,BO F.aw fun b u o q e=>fl.1 b o (F.lH b u o q e)⟩
 by_cases hb:b∈cQ X.stack
 ·obtain⟨sl,q2⟩:=slot b o q (I.d9 b hb) hb
  exact⟨_,q2⟩
 ·obtain⟨o2,q2⟩:=F.oT b o q hb
  exact⟨o2,fl.1 b o2 q2⟩
theorem oS.inv(I:Inv X pins σ H s)(F:oS X.prog X.w X.stack H s a C t B H' s')(fl:Heap.FlyingW B X.stack a (.ref C) (.ref t) h')(up:s'.heap.UpToSlots h'):Inv X pins σ H' { s' with heap:=h' }:=
 I.lK (s':={ s' with heap:=h' }) F.os (F.BW I fl up).1 (F.BW I fl up).2 F.bare (fun b hb=>nomatch hb)
theorem oS.inv2(I:Inv X pins σ H s)(F:oS X.prog X.w X.stack H s a C t B H' s')(fl:Heap.FlyingW B X.stack a (.ref C) (.ref t) h')(up:s'.heap.UpToSlots h'){oe:Obj}{vs:Array Value}(ho:h'.get? a=some oe)(hd:oe.data=.fields vs) :
  Inv X pins σ (upd H' a (tW a oe)) { s' with heap:=h' }:=by
 obtain⟨u,hk⟩:=F.BW I fl up
 have na:∀ b x,H' b=some x->upd H' a (tW a oe) b=some x:=fun b x q=>by
  unfold upd
  rw[Qj (fun z=>by rw[z,F.free]at q;cases q)]
  exact q
 have RE:a ∉ cQ X.stack:=fun hb=>by
  obtain⟨_,o',e_,gV⟩:=fl.2.2.1.mem hb
  rw[ho]at e_;cases e_
  exact gV vs hd
 refine I.lK (s':={ s' with heap:=h' }) F.os ⟨u.keep,u.slot,fun b o q n e=>?_,u.there,fun b xs q=>na b _ (u.dR b xs q),fun b o' u' q=>na b _ (u.dE b o' u' q),fun b ps q=>?_⟩ (fun b x q=>?_) F.bare (fun b hb=>nomatch hb)
 ·unfold upd
  rw[Qj (fun z=>?_)]
  ·exact u.free b o q n e
  ·subst z
   obtain⟨o2,q2⟩:=F.oT b o q RE
   rw[fl.2.1]at q2;cases q2
 ·obtain⟨m,q1⟩:=u.dS b ps q
  exact⟨m,na b _ q1⟩
 ·by_cases hb:b=a
  ·subst hb
   unfold upd at q
   rw[Qi rfl]at q
   cases q
   exact⟨ho,ho,⟨_,ho⟩,fun h1 h2 q1 q2=>q2 _ q1⟩
  ·have q':=q
   unfold upd at q
   rw[Qj hb]at q
   exact(hk b x q).fA (fun _ _ _ z=>z) (fun c z=>na c _ z) (fun c xs z=>na c _ z)
abbrev Cx.mark (X:Cx)(e:Value):Cx:={ X with A:=X.A.mark (some e),calm:=false,xe:=fun _ _=>False }
def Inv.mark(I:Inv X pins σ H s)(e:Value):Inv (Cx.mark X e) pins σ H s:=
 ⟨⟨I.ok.mod,I.ok.kind,I.ok.glob,I.ok.blt,I.ok.above,I.ok.inj,I.ok.has,I.ok.tq,(fun z=>by cases z),I.ok.frames,I.ok.uE,I.ok.xD,I.ok.bs,I.ok.lI,I.ok.kB,I.ok.kC,I.ok.eK,I.ok.qA⟩,I.os,I.bare,I.base,I.loc,I.cell,I.free,I.cD,I.pin,I.aw,I.len⟩
def Inv.unmark{e:Value}(hX:X.Ok)(I:Inv (Cx.mark X e) pins σ H s):Inv X pins σ H s:=⟨hX,I.os,I.bare,I.base,I.loc,I.cell,I.free,I.cD,I.pin,I.aw,I.len⟩
theorem RF{R n kx:Str}{RA:Addr}{np kp vp apos:Pos}{ie ik:Nat}{Q:Flow->Shared->Prop}(I:Inv X pins σ H s)(F:oS X.prog X.w X.stack H s a C t B H' s')(ff:X.stack=X.env::X.outer)(BX:X.env.frame=some X.env.locals)
  (hN:X.N.Nodup) (rH:X.N[ie]? = some n) (tT:X.N[ik]? = some kx) (bH:X.env.scope.names.lookup n=some .local) (yM:X.env.scope.names.lookup kx=some .local) (hR:eP X.K RA) (BY:typeIn X.K (.ref RA)=some (.type "type")) (bO:subIn X.K (.ref C) (.ref RA)=some true) (hmg:X.mg R=some (.ref RA)) (hg:Gl X R)
  (gF:(R==("__debug__":Str))=false) (vN:(n==("__debug__":Str))=false) (BZ:(n==("__classdict__":Str))=false) (qT:swapsWith (.Name n vp) (some (.Name kx kp)) apos.line X.env=pure false)
  (hQ:∀ s5 oe,oe.cls=.ref C->Inv X pins (((σ.set ie (some (.ref a))).set ik (some (.ref a))).set ie none) (upd H' a (tW a oe)) s5->Q .next s5) :
  wpAny (model X.prog X.w) X.A (noteFrame (.ref a) X.env) (fun _ eN=>wpAny (model X.prog X.w) X.A (setFlight (.ref a) none) (fun _ gG=>
   wpAny (model X.prog X.w) X.A (handleBy (.ref a) X.env [.ExceptHandler (some (.Name R np)) (some n) [.Assign [.Name kx kp] (.Name n vp) apos] pos]) Q E gG) E eN) E s':=by
 have kE:ie<σ.length:=by rw[I.len];exact(Qr.mp rH).1
 have F_:=F.fl
 have oV:=ff
 rw[ff]at F_
 refine wpAny_looks_onW (L:=X.env.locals) (outer:=X.outer) (by rw[<- ff];exact I.ok.frames) BX F_ fun u7 mx pR=>?_
 refine wpAny_landsW mx fun u9 pS pU=>?_
 have jJ:=pS
 rw[<- ff]at jJ
 have I5:=F.inv I jJ (pR.trans pU)
 obtain⟨ob,RG,B0⟩:=jJ.there
 have J5:=Inv.mark I5 (.ref a)
 refine wpAny_handleBy_cons (codeAny_handlers_test (uI (X:=Cx.mark X (.ref a)) J5 hg hmg ?_ gF)) (by intro q;cases q)
 refine RC J5.eL ⟨RG,B0⟩ hR BY bO ?_
 refine codeAny_handlers_suite_as ?_
 refine lands_againW pS fun RH vO vP=>?_
 have jK:=vO
 rw[<- ff]at jK
 obtain⟨oe,ws,RI,B1,B2,RJ⟩:=jK.first
 have I6:=F.inv2 I jK ((pR.trans pU).trans vP) RI B2
 refine zZ (v:=.ref a) I6 hN rH (.inl bH) rfl (fun s7 I7=>?_) (.inr bH)
 have J7:=Inv.mark I7 (.ref a)
 have body:=Eg (Em (X:=Cx.mark X (.ref a)) (i:=ik) (x:=kx) (pos:=apos) (pos':=kp) hN tT (.inl yM) (pv (X:=Cx.mark X (.ref a)) ie (x:=n) (pos:=vp) rH (.inl bH) vN BZ) qT (.inr yM))
 refine ZB (body pins s7 _ _ { nx:=fun aF H1=>aF=(σ.set ie (some (.ref a))).set ik (some (.ref a))/\H1=upd H' a (tW a oe),rt:=fun _ _=>False } J7 ⟨.ref a,QL kE,rfl,rfl⟩) (fun fl s8 q=>?_) (fun _ _ z=>False.elim z)
 cases fl with
 | next=>
  obtain⟨σ8,H8,J8,rfl,rfl⟩:=q
  exact RD (Inv.unmark I.ok J8) hN rH bH fun s9 I9=>hQ s9 oe B1 I9
 | brk=>obtain⟨_,_,_,z⟩:=q;exact z.elim
 | cont=>obtain⟨_,_,_,z⟩:=q;exact z.elim
 | ret u=>obtain⟨_,_,_,_,_,z⟩:=q;exact z.elim
end
def Good.unset{w:Wn}{t:Nat}{v:Option V}(g:Good K ρ σ H w t)(hi:i<σ.length) :
  Good K (ρ.set i none) (σ.set i v) H (ib i w) t/\Go H w H (ib i w):=by
 have st:c_ H w H (ib i w):=fun a x h n=>⟨sm h,vd n⟩
 refine⟨⟨⟨fun a o h=>g.wl a o (oD h).1,g.wl.tb⟩,fun a j h=>by rw[QN];exact g.ws a j (oD h).1,fun a j h=>g.wt a j (oD h).1,by rw[QN,QN];exact g.len,fun j d' q' e'=>?_⟩,⟨st,fun a o h n=>⟨rfl,tN h (n i)⟩⟩⟩
 by_cases hj:i=j
 ·subst hj
  rw[QL (by rw[g.len];exact hi)]at e'
  cases e'
 ·rw[QM hj]at e'
  obtain⟨v',F,h1,h2⟩:=g.slot j d' q' e'
  exact⟨v',F,by rw[QM hj];exact h1,Rep.go g.wl st h2 fun a m=>⟨rfl,tN (h2.aC a m) (fun z=>hj (by cases z;rfl))⟩⟩
def Good.grow{H':Hp}{w:Wn}{t:Nat}(g:Good K ρ σ H w t)(h:∀ b o,H b=some o->Sm o (H' b))(tb:TB K H'):Good K ρ σ H' w t/\Go H w H' w:=by
 have st:c_ H w H' w:=fun a x e n=>⟨h a x e,n⟩
 have kp:∀ a o,w a=some o->H' a=H a:=fun a o e=>by
  obtain⟨vs,q⟩:=g.wl a o e
  rw[q,(h a _ q).eq (by cases vs<;>rfl)]
 refine⟨⟨⟨fun a o e=>?_,tb⟩,g.ws,g.wt,g.len,fun i d q e=>?_⟩,st,fun a o e _=>⟨kp a o e,e⟩⟩
 ·obtain⟨vs,q⟩:=g.wl a o e
  exact⟨vs,(h a _ q).eq (by cases vs<;>rfl)⟩
 ·obtain⟨v,F,h1,h2⟩:=g.slot i d q e
  exact⟨v,F,h1,Rep.go g.wl st h2 fun a m=>⟨kp a _ (h2.aC a m),h2.aC a m⟩⟩
def oW (K:Frag)(mg:Str->Option Value)(R:Str)(L:List Str):Prop:=∃ RA,eP K RA/\typeIn K (.ref RA)=some (.type "type")/\mg R=some (.ref RA) /\
 ∀ nm∈L,∀ C,nsIn K mainGlobals nm=some (some (.ref C))->iU K nm C/\subIn K (.ref C) (.ref RA)=some true
end L3
namespace L3
open PySem PySem.Spec PyProof.Rows PySem.W L2 PySem.SeqAt
variable {K:PySem.W.Frag}{L:List Str}
def eT (K:Frag)(mg:Str->Option Value)(L:List Str)(nm:Str):Prop:=∃ C,mg nm=some (.ref C)/\∀ n∈L,∀ B,nsIn K mainGlobals n=some (some (.ref B))->(n=nm->isIn K (.ref B) C=true)/\(n≠nm->kin_not K B C=true)
section
variable {X:Cx}{a b c e:Expr}{es:List Expr}{fa fb fc f:aB}{ga gb:cz}{g:bT}{pos p p1 p2 pT aq apos:Pos}
def RK{C:Addr}{nm:Str}(h:∀ n∈L,∀ B,nsIn X.K mainGlobals n=some (some (.ref B))->(n=nm->isIn X.K (.ref B) C=true)/\(n≠nm->kin_not X.K B C=true)) :
  iE X (.builtin "isinstance") (fun xs H Q=>∃ x w o q F n,xs=[x,.ref C]/\n∈L/\Rep X.K H w o q (.exc n) x F/\Q (.bl (n==nm)) H):=by
 intro pins s σ H xs us Q I r hh
 obtain⟨x,w,o,q,F,n,rfl,hn,rd,hq⟩:=hh
 obtain⟨u,v,rfl,ru,rv⟩:=xK r
 cases rv
 cases rd with
 | exc ha xo _=>
  obtain⟨B,hc,k⟩:=xo
  cases ru
  obtain⟨e1,_⟩:=(show cR X.prog X.w H s.heap _ (.d8 _ _)from I.aw _ _ ha)
  obtain⟨h1,h2⟩:=h n hn B k.ns
  by_cases z:n=nm
  ·rw[ZE.mpr z]at hq
   exact N_ I.eL ⟨e1,hc⟩ (h1 z) ⟨.bl true,H,I,rfl,hq⟩
  ·rw[Z8.mpr z]at hq
   exact N9 I.eL ⟨e1,hc⟩ k.xc (h2 z) ⟨.bl false,H,I.tok _,rfl,hq⟩
def pV (L:List Str)(nm:Str)(fa:aB):aB:=fun ρ=>match fa ρ with
 | some (.exc n,_,ρ1)=>if n∈L then some (.bl (n==nm),9,ρ1)else none
 | _=>none
def tY{nm:Str}(hC:eT X.K X.mg L nm)(hm:X.mg "isinstance" = none)(ha:QD X a fa)(hg:Gl X "isinstance":=by rfl)(vB:Gl X nm:=by rfl)(BG:(nm==("__debug__":Str))=false:=by decide)(hs:starEach [a,.Name nm pT] X.env=(false,eval a X.env)::starEach [.Name nm pT] X.env:=by rfl)(bX:(backTo pos (starEach [.Name nm pT] X.env)).any (·.1)=false:=by rfl):QD X (.Call (.Name "isinstance" p) [a,.Name nm pT] [] pos) (pV L nm fa):=⟨have ha:=ha.o;by
 obtain⟨C,RL,dF⟩:=hC
 refine PE.imp (nu (RK dF) hg hm JG (gE ha (gE (Lq (v:=.ref C) vB RL rfl BG) jf gu) hs) (by decide) (by decide) hs bX) fun σ H Q ag=>?_
 obtain⟨ρ,w,t,r',q,ρ',gd,ee,k⟩:=ag
 unfold pV at ee
 split at ee
 next n q1 ρ1 h1=>
  split at ee
  next hL=>
   cases ee
   refine⟨ρ,w,t,_,_,_,gd,h1,fun v H1 w1 F1 g1 aD r1=>?_⟩
   exact⟨v,w1,_,_,F1,n,rfl,hL,r1,k _ H1 (bV t w1) [] g1.drop.up (aD.drop gd.wt) (.bl _)⟩
  ·cases ee
 ·cases ee⟩
def RM:iE X (.builtin "isinstance") (fun xs H Q=>∃ x w o q F n,xs=[x,.ty "ValueError"]/\Rep X.K H w o q (.exc n) x F/\Q (.bl true) H):=by
 intro pins s σ H xs us Q I r hh
 obtain⟨x,w,o,q,F,n,rfl,rd,hq⟩:=hh
 obtain⟨u,v,rfl,ru,rv⟩:=xK r
 cases rv
 cases rd with
 | exc ha xo _=>
  obtain⟨B,hc,k⟩:=xo
  cases ru
  obtain⟨e1,_⟩:=(show cR X.prog X.w H s.heap _ (.d8 _ _)from I.aw _ _ ha)
  exact Oa I.eL ⟨e1,hc⟩ (by kernel_rfl) k.ve ⟨.bl true,H,I,rfl,hq⟩
def B3 (fa:aB):aB:=fun ρ=>match fa ρ with
 | some (.exc n,_,ρ1)=>some (.bl true,9,ρ1)
 | _=>none
def RN(hm:X.mg "isinstance" = none)(BF:X.mg "ValueError" = none)(ha:QD X a fa)(hg:Gl X "isinstance":=by rfl)(vB:Gl X "ValueError":=by rfl)(hs:starEach [a,.Name "ValueError" pT] X.env=(false,eval a X.env)::starEach [.Name "ValueError" pT] X.env:=by rfl)(bX:(backTo pos (starEach [.Name "ValueError" pT] X.env)).any (·.1)=false:=by rfl):QD X (.Call (.Name "isinstance" p) [a,.Name "ValueError" pT] [] pos) (B3 fa):=⟨have ha:=ha.o;by
 refine PE.imp (nu RM hg hm JG (gE ha (gE (Ef (v:=.ty "ValueError") vB BF (by kernel_rfl) rfl (by decide) (by decide)) jf gu) hs) (by decide) (by decide) hs bX) fun σ H Q ag=>?_
 obtain⟨ρ,w,t,r',q,ρ',gd,ee,k⟩:=ag
 unfold B3 at ee
 split at ee
 next n q1 ρ1 h1=>
  cases ee
  refine⟨ρ,w,t,_,_,_,gd,h1,fun v H1 w1 F1 g1 aD r1=>?_⟩
  exact⟨v,w1,_,_,F1,n,rfl,r1,k _ H1 (bV t w1) [] g1.drop.up (aD.drop gd.wt) (.bl _)⟩
 ·cases ee⟩
def yN:D->D->Option D
 | .aK,.aK=>some (.bl true)
 | .exc _,.aK=>some (.bl false)
 | .int _,.aK=>some (.bl false)
 | .tup _,.aK=>some (.bl false)
 | .str _,.aK=>some (.bl false)
 | _,_=>none
def Ga:R2:=fun x y H Q=>y=.aK/\((x=.aK/\Q (.bl true) H)\/((∃ i,x=.int i)\/(∃ i,x=.str i)\/(∃ i,x=.ref i))/\Q (.bl false) H)
def Ew:ef X (compareOp .Is) Ga:=by
 intro pins s σ H x y v u Q I rx ry h
 obtain⟨rfl,h⟩:=h
 cases ry
 rcases h with⟨rfl,q⟩|⟨⟨i,rfl⟩|⟨i,rfl⟩|⟨i,rfl⟩,q⟩
 ·cases rx
  exact Qc ⟨.bl true,H,I,rfl,q⟩
 ·obtain⟨t,rfl⟩:=rx
  exact Qc ⟨.bl false,H,I,rfl,q⟩
 ·obtain⟨t,rfl⟩:=rx
  exact Qc ⟨.bl false,H,I,rfl,q⟩
 ·cases rx
  exact Qc ⟨.bl false,H,I,rfl,q⟩
def RO:∀ σ H Q,tD K (e2 yN fa fb) σ H Q->kH Ga (tD K fa) (tD K fb) σ H Q:=tO fun x y d h=>by
 unfold yN at h
 split at h
 ·cases h
  exact⟨_,rfl,fun H w o o' q q' u u' F F' r1 r2 _ Q hq=>by cases r1;cases r2;exact⟨rfl,.inl ⟨rfl,hq⟩⟩⟩
 ·cases h
  exact⟨_,rfl,fun H w o o' q q' u u' F F' r1 r2 _ Q hq=>by cases r1;cases r2;exact⟨rfl,.inr ⟨.inr (.inr ⟨_,rfl⟩),hq⟩⟩⟩
 ·cases h
  exact⟨_,rfl,fun H w o o' q q' u u' F F' r1 r2 _ Q hq=>by cases r1;cases r2;exact⟨rfl,.inr ⟨.inl ⟨_,rfl⟩,hq⟩⟩⟩
 ·cases h
  exact⟨_,rfl,fun H w o o' q q' u u' F F' r1 r2 _ Q hq=>by cases r1;cases r2;exact⟨rfl,.inr ⟨.inr (.inr ⟨_,rfl⟩),hq⟩⟩⟩
 ·cases h
  exact⟨_,rfl,fun H w o o' q q' u u' F F' r1 r2 _ Q hq=>by cases r1;cases r2;exact⟨rfl,.inr ⟨.inr (.inl ⟨_,rfl⟩),hq⟩⟩⟩
 ·cases h
def RP(ha:QD X a fa)(hb:QD X b fb):gK X (.Compare a [.Is] [b] pos) (bA (e2 yN fa fb)):=⟨have ha:=ha.o;have hb:=hb.o;vg Ew RO ha hb (xJ _)⟩
def vQ (d:D)(ds:List D):Nat:=(cC ds).countP fun y=>PyData.eqv y (bJ d)
def RQ (K:PySem.W.Frag):V->List V->Hp->VK->Prop:=fun x xs H Q=>∃ ds d y,xs=[y]/\Is K H (.lst ds) x/\Is K H d y/\dA (.lst ds)=true/\dA d=true/\Q (.int (Int.ofNat (vQ d ds))) H
def RT(hu:X.A.units+65<cLine):xQ X "list.count" (RQ X.K):=by
 intro pins s σ H x xs v us Q I rx rs ⟨ds,d,y,e,⟨w,o,q,F,h1⟩,⟨w',o',q',F',h2⟩,k1,k2,hq⟩
 subst e
 obtain⟨u,rfl,ru⟩:=jw rs
 obtain⟨as,ra⟩:=h1.reads I rx (j7 k1)
 obtain⟨bs,rb⟩:=h2.reads I ru (j7 k2)
 replace k1:=j8 k1
 replace k2:=j8 k2
 unfold bJ at ra k1
 have mh:PyData.canLayAll0 (cC ds)=true:=QR k1
 have pN:=QR k2
 cases ra with
 | @list a ob vs n _ _ ho j_ hd pO=>
  obtain⟨cls,dd,data,sl⟩:=ob
  simp only at j_ hd
  subst j_ hd
  have jH:=Vh _ _ _ mh pO
  have B4:vs.toList.countP (fun y=>PyData.eqv (SeqAt.readOf s.heap y) (bJ d))=vQ d ds:=by
   unfold vQ
   rw[<- jH,List.countP_map]
   rfl
  refine Jr VN ⟨_,ho,rfl⟩ PySem.F.entry_list_count (PySem.F.args_list_count_2 _ _)
   (list_countAt a vs n dd sl u (fun y=>PyData.eqv (SeqAt.readOf s.heap y) (bJ d))) ⟨ho,VM pO rb mh pN (Jv k2 hu),?_⟩
  rw[B4]
  exact⟨.int (Int.ofNat (vQ d ds)),H,I.tok _,⟨_,rfl⟩,hq⟩
def B5 (fo:aB)(g:bT):aB:=fun ρ=>match fo ρ with
 | some (.lst ds,_,ρ1)=>match g ρ1 with
  | some ([d],ρ2)=>if dA (.lst ds)=true/\dA d=true then some (.int (Int.ofNat (vQ d ds)),9,ρ2)else none
  | _=>none
 | _=>none
def RU (K:PySem.W.Frag):V->List V->Hp->VK->Prop:=fun x xs H Q=>∃ ds d y j,xs=[y]/\Is K H (.lst ds) x/\Is K H d y/\dA (.lst ds)=true/\dA d=true/\tU d ds=some j/\(j:Int)<1000/\Q (.int (Int.ofNat j)) H
def RV(hu:X.A.units+65<cLine):xQ X "list.index" (RU X.K):=by
 intro pins s σ H x xs v us Q I rx rs ⟨ds,d,y,j,e,⟨w,o,q,F,h1⟩,⟨w',o',q',F',h2⟩,k1,k2,hj,Gb,hq⟩
 subst e
 obtain⟨u,rfl,ru⟩:=jw rs
 obtain⟨as,ra⟩:=h1.reads I rx (j7 k1)
 obtain⟨bs,rb⟩:=h2.reads I ru (j7 k2)
 replace k1:=j8 k1
 replace k2:=j8 k2
 unfold bJ at ra k1
 have mh:PyData.canLayAll0 (cC ds)=true:=QR k1
 have pN:=QR k2
 cases ra with
 | @list a ob vs n _ _ ho j_ hd pO=>
  obtain⟨cls,dd,data,sl⟩:=ob
  simp only at j_ hd
  subst j_ hd
  have jH:=Vh _ _ _ mh pO
  have Bs:=Jf.mp hj
  obtain⟨Bu,Bv,Bw⟩:=Bs
  have hlen:vs.size=(cC ds).length:=by rw[<- jH];simp
  have rq:∀ m (hm:m<vs.size) (fF:m<(cC ds).length),SeqAt.readOf s.heap vs[m]=(cC ds)[m]:=fun m hm fF=>by
   have:(vs.toList.map (SeqAt.readOf s.heap))[m]? = (cC ds)[m]?:=by rw[jH]
   simpa [hm,fF]using this
  refine Jr VO ⟨_,ho,rfl⟩ PySem.F.entry_list_index (PySem.F.args_list_index_2 _ _)
   (list_indexAt a vs n dd sl u (fun y=>PyData.eqv (SeqAt.readOf s.heap y) (bJ d)) j (by omega) (by omega) (by rw[rq j (by omega) Bu];simpa using Bv) (fun m hm Bx=>by rw[rq m hm (by omega)];simpa using Bw m Bx)) ⟨ho,VM pO rb mh pN (Jv k2 hu),?_⟩
  exact⟨.int (Int.ofNat j),H,I.tok _,⟨_,rfl⟩,hq⟩
def B6 (fo:aB)(g:bT):aB:=fun ρ=>match fo ρ with
 | some (.lst ds,_,ρ1)=>match g ρ1 with
  | some ([d],ρ2)=>if dA (.lst ds)=true/\dA d=true then match tU d ds with
   | some j=>if(j:Int)<1000 then some (.int (Int.ofNat j),9,ρ2)else none
   | none=>none
   else none
  | _=>none
 | _=>none
def Rep.Gc{H:Hp}{w:Wn}{ds:List D}{v:V}{F:List Addr}(r:Rep K H w .f 0 (.lst ds) v F):∃ a us,v=.ref a/\cn K H a us:=by
 cases r with
 | kl h _=>exact⟨_,_,rfl,.inr h⟩
 | shr h _ _=>exact⟨_,_,rfl,.inl h⟩
def RW{k:Nat}(hr:aQ k X.A)(ho:QD X a fa)(ha:fi X [e] g)(bR:attributeBase a "count" X.env (eval a X.env)=eval a X.env:=by rfl)(dk:((backTo aq (starEach [e] X.env)).all (fun x=>!x.1)&&(backToKw aq (keywordEach [] X.env)).all (fun x=>x.1.isSome)
   && decide ([e].length+([]:List Keyword).length+(if([]:List Keyword).isEmpty then 0 else 1)<30))=true:=by rfl) (bS:(apos.endLine==aq.line)=true:=by rfl) (hs:starEach [e] X.env=(false,eval e X.env)::starEach [] X.env:=by rfl) (bN:(backTo aq (starEach [] X.env)).any (·.1)=false:=by rfl):QD X (.Call (.Attribute a "count" apos) [e] [] aq) (B5 fa g):=⟨have ho:=ho.o;have ha:=ha.o;PE.imp (tG Z5 VN PySem.F.type_list_count (RT (vk hr)) ho ha bR dk bS hs bN) fun σ H Q ag=>by
 obtain⟨ρ,w,t,r',q,ρ',gd,ee,k⟩:=ag
 unfold B5 at ee
 split at ee
 next ds q1 ρ1 h1=>
  split at ee
  next d ρ2 h2=>
   split at ee
   next aw=>
    cases ee
    refine⟨ρ,w,t,_,_,_,gd,h1,fun v H1 w1 F1 g1 aD r1=>?_⟩
    have r0:=r1.drop (o:=.f) (Qg t)
    have gg:=g1.drop (t':=t)
    obtain⟨p0,us,rfl,hq⟩:=Rep.Gc r0
    refine⟨.inl ⟨rfl,us,hq⟩,ρ1,bV t w1,t,_,_,gg,h2,fun FK H2 w2 g2 bg r2=>?_⟩
    obtain⟨v2,rfl,vt⟩:=one r2
    have r3:Rep X.K H2 w2 .f 0 (.lst ds) (.ref p0) []:=r0.oI gg.wl bg.bu
    exact⟨ds,d,v2,rfl,⟨_,_,_,_,r3⟩,⟨_,_,_,_,vt⟩,aw.1,aw.2,k _ H2 w2 [] g2.up ((aD.drop gd.wt).trans bg) (.int _)⟩
   ·cases ee
  ·cases ee
 ·cases ee⟩
def RX{k:Nat}(hr:aQ k X.A)(ho:QD X a fa)(ha:fi X [e] g)(bR:attributeBase a "index" X.env (eval a X.env)=eval a X.env:=by rfl)(dk:((backTo aq (starEach [e] X.env)).all (fun x=>!x.1)&&(backToKw aq (keywordEach [] X.env)).all (fun x=>x.1.isSome)
   && decide ([e].length+([]:List Keyword).length+(if([]:List Keyword).isEmpty then 0 else 1)<30))=true:=by rfl) (bS:(apos.endLine==aq.line)=true:=by rfl) (hs:starEach [e] X.env=(false,eval e X.env)::starEach [] X.env:=by rfl) (bN:(backTo aq (starEach [] X.env)).any (·.1)=false:=by rfl):QD X (.Call (.Attribute a "index" apos) [e] [] aq) (B6 fa g):=⟨have ho:=ho.o;have ha:=ha.o;PE.imp (tG Z5 VO PySem.F.type_list_index (RV (vk hr)) ho ha bR dk bS hs bN) fun σ H Q ag=>by
 obtain⟨ρ,w,t,r',q,ρ',gd,ee,k⟩:=ag
 unfold B6 at ee
 split at ee
 next ds q1 ρ1 h1=>
  split at ee
  next d ρ2 h2=>
   split at ee
   next aw=>
    split at ee
    next j hj=>
     split at ee
     next Gb=>
      cases ee
      refine⟨ρ,w,t,_,_,_,gd,h1,fun v H1 w1 F1 g1 aD r1=>?_⟩
      have r0:=r1.drop (o:=.f) (Qg t)
      have gg:=g1.drop (t':=t)
      obtain⟨p0,us,rfl,hq⟩:=Rep.Gc r0
      refine⟨.inl ⟨rfl,us,hq⟩,ρ1,bV t w1,t,_,_,gg,h2,fun FK H2 w2 g2 bg r2=>?_⟩
      obtain⟨v2,rfl,vt⟩:=one r2
      have r3:Rep X.K H2 w2 .f 0 (.lst ds) (.ref p0) []:=r0.oI gg.wl bg.bu
      exact⟨ds,d,v2,j,rfl,⟨_,_,_,_,r3⟩,⟨_,_,_,_,vt⟩,aw.1,aw.2,hj,Gb,k _ H2 w2 [] g2.up ((aD.drop gd.wt).trans bg) (.int _)⟩
     ·cases ee
    ·cases ee
   ·cases ee
  ·cases ee
 ·cases ee⟩
end
end L3
namespace L3
open PySem PySem.Spec PyProof.Rows L2
end L3
namespace L3
open PySem PySem.Spec PyProof.Rows PySem.W L2
variable {j n:Nat}
def Gd (K:PySem.W.Frag)(x:g8)(E:XK):St->Hp->Prop:=fun σ H=>∃ ρ w t nm,Good K ρ σ H w t/\x ρ=some nm/\∀ C H' w',nsIn K mainGlobals nm=some (some (.ref C))->WL K w' H'->Go H w H' w'->E (.ref C) none H'
def tX.e{K:PySem.W.Frag}{x:g8}{E:XK}{D:Ends}{σ:St}{H:Hp}(h:tX K x E D σ H):Gd K x E σ H:=by
 obtain⟨ρ,w,nm,g,e,k⟩:=h
 exact⟨ρ,w,0,nm,g,e,k⟩
def Ge:g8:=fun _=>none
def vR (g:cz)(x y:g8):g8:=fun ρ=>match g ρ with
 | some (b,ρ1)=>if b=true then x ρ1 else y ρ1
 | none=>none
def Gf (nm:Str):g8:=fun _=>some nm
abbrev RY (X:Cx)(E:XK)(e:Expr)(x:g8):Prop:=PE X e fun σ H _=>Gd X.K x E σ H
structure Gg (X:Cx) (E:XK) (e:Expr) (x:g8):Prop where mk::o:RY X E e x
abbrev RZ (X:Cx)(E:XK)(st:Stmt)(x:g8):Prop:=PS X st (tX X.K x E)
structure yO (X:Cx) (E:XK) (e:Stmt) (x:g8):Prop where mk::o:RZ X E e x
abbrev R0 (X:Cx)(E:XK)(ss:List Stmt)(x:g8):Prop:=gB X ss (tX X.K x E)
structure vS (X:Cx) (E:XK) (e:List Stmt) (x:g8):Prop where mk::o:R0 X E e x
section
variable {X:Cx}{E:XK}{st:Stmt}{ss bc a b:List Stmt}{x y:g8}{f:aJ}{g:cz}{c e:Expr}{es:List Expr}{pos pos' p:Pos}
def R1:vS X E ss Ge:=⟨fun _ _ _ _ _ _ h=>by
 obtain⟨_,_,_,_,e,_⟩:=h
 cases e⟩
def B7(h:yO X E st x):vS X E (st::bc) x:=⟨have h:=h.o;by
 intro pins s σ H D I hh
 refine Yz (aU (h pins s σ H { nx:=fun _ _=>False,rt:=fun _ _=>False } I hh) fun fl s1 q=>?_)
 cases fl with
 | next=>obtain⟨_,_,_,z⟩:=q;exact z.elim
 | brk=>obtain⟨_,_,_,z⟩:=q;exact z.elim
 | cont=>obtain⟨_,_,_,z⟩:=q;exact z.elim
 | ret u=>obtain⟨_,_,_,_,_,z⟩:=q;exact z.elim⟩
def R3(hc:gK X c g)(ha:vS X E a x)(hb:vS X E b y):yO X E (.If c a b pos) (vR g x y):=⟨have hc:=hc.o;have ha:=ha.o;have hb:=hb.o;PS.imp (Ej hc ha hb) fun D σ H ag=>by
 obtain⟨ρ,w,nm,gd,e,k⟩:=ag
 unfold vR at e
 split at e
 next b' ρ1 h1=>
  refine⟨ρ,w,0,b',ρ1,gd,h1,fun H1 w1 g1 aD=>?_⟩
  cases b' with
  | true=>exact⟨ρ1,w1,nm,g1,e,fun C H2 w2 n wl bg=>k C H2 w2 n wl (aD.trans bg)⟩
  | false=>exact⟨ρ1,w1,nm,g1,e,fun C H2 w2 n wl bg=>k C H2 w2 n wl (aD.trans bg)⟩
 ·cases e⟩
def R5(he:Gg X E e x)(hs:swapsWith e none pos.line X.env=pure false:=by rfl):yO X E (.Expr e pos) x:=⟨have he:=he.o;PS.imp (Eh he hs) fun D σ H ag=>ag.e⟩
end
section
variable {P:Program}{w:World}{K:PySem.W.Frag}{mg:Str->Option Value}{base:Heap}{N:List Str}{qual:Str}{scope:Scope}{f:Addr}{cd:Value}{A:Around}{outer:List Env}{av:Shared}{br:Hp}{E:XK}
def R6{nm txt:Str}{k j:Nat}{np aq lZ pos:Pos}(hr:aQ k (A.deeper (envOfC qual scope av.heap.objs.size f cd)))(hC:∃ C,BR K mg nm C)(hg:Gl (jI P w K mg base N qual scope f cd A outer av br E) nm:=by rfl)(gF:(nm==("__debug__":Str))=false:=by decide):yO (jI P w K mg base N qual scope f cd A outer av br E) E (.Raise (some (.Call (.Name nm np) [.Constant (.str txt) j lZ] [] aq)) none pos) (Gf nm):=⟨by
 obtain⟨C,hC⟩:=hC
 refine PS.imp (Ry hr.hd hC hg gF) fun D σ H ag=>?_
 obtain⟨ρ,w',BS,g,e,k⟩:=ag
 cases e
 exact k C H w' hC.ns g.wl Go.refl⟩
def R7{k:Nat}{x:Str}{F:List D->Option Str}{e:Expr}{es:List Expr}{g:bT}{p pos:Pos}(R8:kS P w K mg base k x n F)(hr:aQ j (A.deeper (envOfC qual scope av.heap.objs.size f cd)))(hk:k<=j)(ha:fi (jI P w K mg base N qual scope f cd A outer av br E) (e::es) g)(hg:Gl (jI P w K mg base N qual scope f cd A outer av br E) x:=by rfl)(gF:(x==("__debug__":Str))=false:=by decide)(he:starEach (e::es) (envOfC qual scope av.heap.objs.size f cd)=(false,eval e (envOfC qual scope av.heap.objs.size f cd))::starEach es (envOfC qual scope av.heap.objs.size f cd):=by rfl)(bX:(backTo pos (starEach es (envOfC qual scope av.heap.objs.size f cd))).any (·.1)=false:=by rfl):Gg (jI P w K mg base N qual scope f cd A outer av br E) E (.Call (.Name x p) (e::es) [] pos) (BV F n g):=⟨have ha:=ha.o;by
 obtain⟨fn,fd,ps,G,hm,rE,hb⟩:=R8
 refine PE.imp (An (X:=jI P w K mg base N qual scope f cd A outer av br E) (E:=E) G (hr.mono hk) hg hm rE hb .nil (fun pins σ H s e s' I h=>Ru (fun _ _ h=>h) I h) ha gF he bX) fun σ H Q ag=>?_
 obtain⟨ρ,w',t,nm,gd,e,k'⟩:=ag
 unfold BV at e
 split at e
 next ds ρ1 h1=>
  split at e
  next hn=>
   refine⟨ρ,w',t,ds,ρ1,gd,h1,fun vs H1 w1 g1 aD r1=>?_⟩
   show BU K n F (vs++[]) H1 Q E
   rw[ZO]
   refine⟨by rw[<- r1.length];exact hn,ds,fun a=>(w1 a).map fun _=>Ow.f,nm,fun a o e=>?_,⟨fun a o e=>?_,g1.wl.tb⟩,?_,e,fun C H2 w2 nv vf bg=>k' C H2 w1 nv ⟨fun a o ew=>?_,vf.tb⟩ (aD.trans ⟨fun a x e n=>?_,fun a o ew no=>?_⟩)⟩
   ·try dsimp only at e
    cases ew:w1 a with
    | none=>rw[ew]at e;cases e
    | some o'=>rw[ew]at e;cases e;rfl
   ·try dsimp only at e
    cases ew:w1 a with
    | none=>rw[ew]at e;cases e
    | some o'=>exact g1.wl a o' ew
   ·exact af.freeze (fun a n=>by show(w1 a).map _=_;rw[n];rfl) r1 nM
   ·obtain⟨fg,q⟩:=g1.wl a o ew
    have:=(bg.keep a .f (by show(w1 a).map _=_;rw[ew];rfl) (fun i z=>nomatch z)).1
    exact⟨fg,by rw[this];exact q⟩
   ·exact⟨(bg.bu a x e (by show(w1 a).map _=_;rw[n];rfl)).1,n⟩
   ·exact⟨(bg.keep a .f (by show(w1 a).map _=_;rw[ew];rfl) (fun i z=>nomatch z)).1,ew⟩
  ·cases e
 ·cases e⟩
end
abbrev rJ:=aR->Option (Str×aR)
def CE (Y:Cx)(pins:List (Addr×Obj))(σ:St)(H:Hp)(w:Wn)(nm:Str)(ρ1:aR)(ev:Value)(s':Shared):Prop:=
 ∃ s1 H1 w1 a C t B H',ev=.ref a/\Inv Y.iR pins σ H1 s1/\Good Y.K ρ1 σ H1 w1 0/\Go H w H1 w1/\oS Y.prog Y.w Y.stack H1 s1 a C t B H' s'/\nsIn Y.K mainGlobals nm=some (some (.ref C))/\(∀ b o,H1 b=some o->Sm o (H' b))/\TB Y.K H'
def R9 (Y:Cx)(st:Stmt)(y:rJ):Prop:=∀ (pins:List (Addr×Obj)) (s:Shared) (σ:St) (H:Hp) (ρ:aR) (w:Wn) (nm:Str) (ρ1:aR),Inv Y.iR pins σ H s->Good Y.K ρ σ H w 0->y ρ=some (nm,ρ1)->
 wpAny (model Y.prog Y.w) Y.A (exec st Y.env) (fun _ _=>False) (CE Y pins σ H w nm ρ1) s
structure Gh (Y:Cx) (e:Stmt) (y:rJ):Prop where mk::o:R9 Y e y
def R_ (Y:Cx)(ss:List Stmt)(y:rJ):Prop:=∀ (pins:List (Addr×Obj)) (s:Shared) (σ:St) (H:Hp) (ρ:aR) (w:Wn) (nm:Str) (ρ1:aR),Inv Y.iR pins σ H s->Good Y.K ρ σ H w 0->y ρ=some (nm,ρ1)->
 wpAny (model Y.prog Y.w) Y.A (execs ss Y.env) (fun _ _=>False) (CE Y pins σ H w nm ρ1) s
structure Gi (Y:Cx) (e:List Stmt) (y:rJ):Prop where mk::o:R_ Y e y
def vT (Fx:List D->Option Str)(n:Nat)(g:bT):rJ:=fun ρ=>match g ρ with
 | some (ds,ρ1)=>if ds.length=n then(Fx ds).map fun nm=>(nm,ρ1)else none
 | none=>none
def vU (L:List Str)(f:aJ)(y:rJ)(ie ik:Nat):aJ:=fun ρ=>match y ρ with
 | some (nm,ρ1)=>if nm∈L then some (.nx (((ρ1.set ie (some (.exc nm,9))).set ik (some (.exc nm,9))).set ie none))else none
 | none=>f ρ
section
variable {Y:Cx}{c e:Expr}{es:List Expr}{g:bT}{gt:cz}{x y:rJ}{a b ss:List Stmt}{st:Stmt}{pos:Pos}
def Sa(h:Gh Y st y):Gi Y [st] y:=⟨have h:=h.o;fun pins s σ H ρ w nm ρ1 I gd e=>
 Yz (aU (h pins s σ H ρ w nm ρ1 I gd e) fun _ _ z=>z.elim)⟩
def Sb{z u:Str}{Fx:List D->Option Str}{k:Nat}{yp fp aq iT:Pos}(CX:kS Y.prog Y.w Y.K Y.mg Y.base k z n Fx)(hr:aQ j Y.A)(hk:k<=j)(ha:fi Y.iR (e::es) g)(Sd:Gl Y z:=by rfl)(Se:(z==("__debug__":Str))=false:=by decide)(Sf:swapsWith (.Call (.Name z fp) (e::es) [] aq) (some (.Name u yp)) iT.line Y.env=pure false:=by rfl)(he:starEach (e::es) Y.env=(false,eval e Y.env)::starEach es Y.env:=by rfl)(bX:(backTo aq (starEach es Y.env)).any (·.1)=false:=by rfl):Gh Y (.Assign [.Name u yp] (.Call (.Name z fp) (e::es) [] aq) iT) (vT Fx n g):=⟨have ha:=ha.o;by
 intro pins s σ H ρ w nm ρ1 I gd ee
 unfold vT at ee
 split at ee
 next ds ρ2 h1=>
  split at ee
  next hn=>
   obtain⟨BS,hx,e0⟩:=Qw.mp ee
   cases e0
   obtain⟨fn,fd,ps,G,hm,rE,hb⟩:=CX
   refine wpAny_Assign_Name ?_ Sf
   refine Yh (uI (X:=Y.iR) I Sd hm ?_ Se)
   refine PySem.W.callWith_K (h₀:=Y.base) I.ok.mod.uD rE (ZB (ha aq pins s σ H (fun vs H1=>∃ w1,Good Y.K ρ1 σ H1 w1 0/\Go H w H1 w1/\af Y.K H1 w1 .f 0 ds vs []) I ⟨ρ,w,0,ds,ρ1,gd,h1,fun vs H1 w1 g1 aD r1=>⟨w1,g1,aD,r1⟩⟩) (fun us s1 Bm=>?_) (fun _ _ z=>False.elim z)) he bX
   obtain⟨vs,H1,I1,rv,w1,g1,aD,r1⟩:=Bm
   refine⟨I1.eL,?_⟩
   have jy:BU Y.K n Fx vs H1 (fun _ _=>False) (fun c _ H'=>∃ C,c=.ref C/\nsIn Y.K mainGlobals nm=some (some (.ref C))/\(∀ b o,H1 b=some o->Sm o (H' b))/\TB Y.K H'):=by
    refine⟨by rw[<- r1.length];exact hn,ds,fun a=>(w1 a).map fun _=>Ow.f,nm,fun a o e=>?_,⟨fun a o e=>?_,g1.wl.tb⟩,?_,hx,fun C H2 w2 nv vf bg=>⟨C,rfl,nv,fun b o e=>?_,vf.tb⟩⟩
    ·try dsimp only at e
     cases ew:w1 a with
     | none=>rw[ew]at e;cases e
     | some o'=>rw[ew]at e;cases e;rfl
    ·try dsimp only at e
     cases ew:w1 a with
     | none=>rw[ew]at e;cases e
     | some o'=>exact g1.wl a o' ew
    ·exact af.freeze (fun a n=>by show(w1 a).map _=_;rw[n];rfl) r1 nM
    ·cases ew:w1 b with
     | none=>exact(bg.bu b o e (by show(w1 b).map _=_;rw[ew];rfl)).1
     | some o'=>exact sm (((bg.keep b .f (by show(w1 b).map _=_;rw[ew];rfl) (fun i z=>nomatch z)).1).trans e)
   have hl:us.length=ps.length:=by rw[<- rv.length];exact G.len _ _ _ _ jy
   have xT:=hb s1 us I1.eL (by rw[ZO];exact hl)
   rw[ZO]at xT
   refine Ve (Jl (G.run Y.A Y.stack s1 H1 ⟨us,[]⟩ us vs _ _ (hr.mono hk) I1.uM xT rv jy) fun r s' hq=>?_)
   cases r with
   | ok fl=>
    cases fl with
    | ret u=>obtain⟨_,_,_,z⟩:=I1.after hq;exact z.2.elim
    | next=>exact False.elim hq
    | brk=>exact False.elim hq
    | cont=>exact False.elim hq
   | error ev=>
    obtain⟨a,C,t,B,H',rfl,F',C',eC,nv,oX,B8⟩:=hq
    cases eC
    exact⟨s1,H1,w1,a,C,t,B,H',rfl,I1,g1,aD,F',nv,oX,B8⟩
  ·cases ee
 ·cases ee⟩
def Sg{R nn kx:Str}{L:List Str}{f:aJ}{ie ik:Nat}{np kp vp apos mq:Pos}(hU:oW Y.K Y.mg R L)(hf:fR Y.iR ss f)(hx:Gi Y ss y)(hN:Y.N.Nodup)(rH:Y.N[ie]? = some nn)(tT:Y.N[ik]? = some kx)(ff:Y.stack=Y.env::Y.outer:=by rfl)(BX:Y.env.frame=some Y.env.locals:=by rfl)(bH:Y.env.scope.names.lookup nn=some .local:=by rfl)(yM:Y.env.scope.names.lookup kx=some .local:=by rfl)(hg:Gl Y R:=by rfl)(gF:(R==("__debug__":Str))=false:=by decide)(vN:(nn==("__debug__":Str))=false:=by decide)(BZ:(nn==("__classdict__":Str))=false:=by decide)(qT:swapsWith (.Name nn vp) (some (.Name kx kp)) apos.line Y.env=pure false:=by rfl):jC Y.iR (.Try ss [.ExceptHandler (some (.Name R np)) (some nn) [.Assign [.Name kx kp] (.Name nn vp) apos] mq] [] [] pos) (vU L f y ie ik):=⟨have hf:=hf.o;have hx:=hx.o;by
 intro pins s σ H Dn I hh
 obtain⟨ρ,w,o,gd,ee,K'⟩:=hh
 unfold vU at ee
 refine wpAny_Try_except ?_
 split at ee
 next nm ρ1 h1=>
  split at ee
  next hL=>
   cases ee
   obtain⟨RA,hR,BY,hmg,dF⟩:=hU
   refine ZB (hx pins s σ H ρ w nm ρ1 I gd h1) (fun _ _ z=>z.elim) fun ev s' q=>?_
   obtain⟨s1,H1,w1,a,C,t,B,H',rfl,I1,g1,aD,F',nv,oX,B8⟩:=q
   obtain⟨Si,bO⟩:=dF nm hL C nv
   refine RF (X:=Y.iR) I1 F' ff BX hN rH tT bH yM hR BY bO hmg hg gF vN BZ qT fun s5 oe xF I5=>?_
   have vV:ie<σ.length:=by rw[I.len];exact(Qr.mp rH).1
   have B9:ik<σ.length:=by rw[I.len];exact(Qr.mp tT).1
   have B_:=F'.free
   obtain⟨g2,bg⟩:=g1.grow (H':=upd H' a (tW a oe)) (fun b o q=>by
    obtain⟨y,ey,_⟩:=(oX b o q).is
    unfold upd
    rw[Qj (fun z=>by rw[<- z,ey]at B_;cases B_)]
    exact oX b o q) (B8.upd rfl (.inl B_))
   have rep:∀ w',Rep Y.K (upd H' a (tW a oe)) w' .f 0 (.exc nm) (.ref a) []:=fun w'=>.exc (ob:=oe) (u:=.ext fun h=>h.get? a=some oe) (by unfold upd;rw[Qi rfl];rfl) ⟨C,xF,Si⟩ (fun _ z=>nomatch z)
   obtain⟨g3,nC⟩:=g2.rg (i:=ie) vV (rep _)
   obtain⟨g4,ma⟩:=g3.rg (i:=ik) (by rw[QN];exact B9) (rep _)
   obtain⟨g5,iq⟩:=g4.unset (i:=ie) (v:=none) (by rw[QN,QN];exact vV)
   exact⟨_,_,I5,K' _ _ _ (by rw[QN,QN,QN]) g5 ((((aD.trans bg).trans nC).trans ma).trans iq)⟩
  ·cases ee
 ·refine ZB (hf pins s σ H Dn I ⟨ρ,w,o,gd,ee,K'⟩) (fun fl s1 q=>?_) (fun _ _ z=>False.elim z)
  cases fl with
  | next=>exact Yd q
  | brk=>exact q
  | cont=>exact q
  | ret u=>exact q⟩
end
end L3
namespace L3
open PySem PySem.Spec PyProof.Rows L2
def Rep.rK{K:PySem.W.Frag}{H:Hp}{w:Wn}{o:Ow}{q:Nat}{ds:List D}{v:V}{F:List Addr}(r:Rep K H w o q (.lst ds) v F)(hq:q<=1):∃ a vs,v=.ref a/\cn K H a vs/\af K H w o 0 ds vs []:=by
 cases r with
 | kl h r=>exact⟨_,_,rfl,h.sq,r⟩
 | shr h n r=>exact⟨_,_,rfl,.inl h,r⟩
 | own h n r ne=>
  rename_i q' _ _ _
  obtain rfl:q'=0:=by omega
  have e:=r.zero
  subst e
  exact⟨_,_,rfl,cn.of h,r⟩
end L3
namespace L3
open PySem PySem.Spec PyProof.Rows PySem.W L2
variable {Q:Bool->Shared->Prop}
abbrev met (ks:List Int):List Int:=firstMet (fun i=>ks.getD i 0) ks.length
def Gj:∀ {ks:List Int} {us:List Value},aY (ks.map V.int) us->IntsAre us ks
 | [],_,h=>by cases h;exact .nil
 | k::ks,_,h=>by
  cases h with
  | cons r rs=>
   obtain⟨t,rfl⟩:=r
   exact .cons k t (Gj rs)
def Gk{K:PySem.W.Frag}{H:Hp}{w:Wn}{o:Ow}:∀ {ks:List Int} {vs:List V} {F:List Addr},af K H w o 0 (ks.map D.int) vs F->vs=ks.map V.int
 | [],_,_,h=>by cases h;rfl
 | k::ks,_,_,h=>by
  cases h with
  | cons r rs _=>rw[dG r,Gk rs];rfl
def bl (m:Nat):List Nat:=(List.range 5).filter fun i=>m.testBit i
def bt (m:Nat)(led:Bool):SetTable:={ mask:=if(bl m).length<5 then 7 else 31,place:=(bl m).toArray,dummies:=#[],finger:=0,led:=led,moves:=if(bl m).length<5 then 0 else 1,plain:=true }
def Ca (m:Nat)(z:Nat->Tok):Array (Int×Value):=((bl m).map fun v:Nat=>(Int.ofNat v,Value.int (Int.ofNat v) (z v))).toArray
def so (m:Nat)(z:Nat->Tok)(ep:Nat)(led:Bool):Obj:={ cls:=.type "set",dict:=none,data:=.set (Ca m z) ep (bt m led) }
def bor (m v:Nat):Nat:=m ||| 1 <<< v
def Cb:∀ m:Nat,m<32->∀ v:Nat,v<5->bor m v<32:=by decide +kernel
def Sj:∀ m:Nat,m<32->∀ v:Nat,v<5->(v∈bl m ↔ m.testBit v=true):=by decide +kernel
def vW(m:Nat){v:Nat}(h:v∈bl m):v<5:=by
 unfold bl at h;rw[Zr]at h;exact QJ.mp h.1
def Sk:∀ n:Nat,n<9->coversAll (Array.range n) n=true:=by decide +kernel
def mb (val:Nat->Nat):Nat->Nat
 | 0=>0
 | i+1=>bor (mb val i) (val i)
def Gm{val:Nat->Nat}{n:Nat}(hv:∀ i,i<n->val i<5):∀ i,i<=n->mb val i<32
 | 0,_=>by show 0<32;decide
 | i+1,h=>Cb _ (Gm hv i (by omega)) _ (hv i (by omega))
section
variable {prog:Program}{w:World}{A:Around}{E:Value->Shared->Prop}{s:Shared}
abbrev cb (w:World):Bool:=w.params.followText "set-order"
def Gn(led:Bool):(so 0 (fun _=>0) 0 led)={ cls:=.type "set",dict:=none,data:=.set #[] 0 (.fresh 0 0 led) }:=by unfold so;congr 1
def Sl(a:Value){Q₁:Value->Shared->Prop}(h:Q₁ (.ref s.heap.objs.size) { s with heap:=s.heap.push (so 0 (fun _=>0) 0 (!cb w)) }) :
  codeAny (model prog w) A (.call (.builtin "set.__new__") ⟨[.type "set",a],[]⟩) (wants Q₁ E) s:=by
 refine YZ ?_
 show wpAny _ A.in1 (do checkBuiltinCall "set.__new__" ⟨[.type "set",a],[]⟩;again (.builtin "set.__new__" ⟨[.type "set",a],[]⟩)) _ _ s
 refine Qa (YN (Ua a) (Qc ⟨YK JJ _,ZA Ub ?_⟩))
 rw[ZF JJ _]
 unfold Builtin.«set.__new__» Builtin.Frozenset.newClass
 have bO:=sub_set_self
 obtain⟨hp,g,d,tk,os⟩:=s
 dsimp only
 wp_walk
 refine JZ (Qc ?_)
 dsimp only
 simp only[newObj]
 refine Qa (wpAny_alloc (Qc ?_))
 rw[Gn]at h
 exact Qc h
end
def Gp:∀ m:Nat,m<32->(bl m).length<=5:=by decide +kernel
def Gq{α:Type}(next:Nat->Nat):∀ (fuel k:Nat) (left:List α) (out:Array α),left.length=fuel->(pickOrder.go next fuel k left out).toList.Perm (out.toList++left)
 | 0,k,left,out,h=>by
  rw[List.eq_nil_of_length_eq_zero h,ZO];exact .rfl
 | fuel+1,k,left,out,h=>by
  unfold pickOrder.go
  have bL:next k % left.length<left.length:=VY _ (by omega)
  rw[Qb bL]
  dsimp only
  refine(Gq next fuel (k+1) _ _ (by rw[Uk,Qi bL];omega)).trans ?_
  rw[Array.toList_push,ZH]
  refine Uc _ ?_
  rw[List.eraseIdx_eq_take_drop_succ]
  have e:left=left.take (next k % left.length)++left[next k % left.length]::left.drop (next k % left.length+1):=by
   rw[List.getElem_cons_drop];exact(Yv _ _).symm
  conv=>rhs;rw[e]
  show List.Perm (left[next k % left.length]::(left.take (next k % left.length)++left.drop (next k % left.length+1))) _
  exact List.perm_middle.symm
def Gr{α:Type}(next:Nat->Nat)(xs:Array α):(pickOrder next xs).toList.Perm xs.toList:=by
 unfold pickOrder
 exact Gq next _ 0 _ #[] (by simp)
def Gs:entryFor table "set.__iter__" = some Builtin.«frozenset.__iter__»:=
 entryFor_alias (id':="frozenset.__iter__") (by kernel_rfl) rfl (by decide +kernel) (by kernel_rfl)
def ll:Slot "set_iterator" "__next__" "set_iterator.__next__" :=
 .of (owner:="set_iterator") (n:="__next__") (by rw[YW,JI];kernel_rfl) (by decide +kernel) (by decide +kernel) (by decide +kernel)
  (by first|exact .inl (by decide +kernel)|exact .inr (by decide +kernel)) (by rw[Yp];kernel_rfl)
def yP:entryFor table "set_iterator.__next__" = some Builtin.«set_iterator.__next__»:=entryFor_of_tree (by kernel_rfl)
def yQ(a:Value):argsOk "set_iterator.__next__" ⟨[a],[]⟩:=by unfold argsOk;kernel_rfl
def yR:Slot "set_iterator" "__iter__" "set_iterator.__iter__" :=
 .of (owner:="set_iterator") (n:="__iter__") (by rw[YW,JI];kernel_rfl) (by decide +kernel) (by decide +kernel) (by decide +kernel)
  (by first|exact .inl (by decide +kernel)|exact .inr (by decide +kernel)) (by rw[Yp];kernel_rfl)
def Gu(a:Value):argsOk "set_iterator.__iter__" ⟨[a],[]⟩:=by unfold argsOk;kernel_rfl
def Gv:entryFor table "set_iterator.__iter__" = some Builtin.«dict_keyiterator.__iter__»:=
 entryFor_alias (id':="dict_keyiterator.__iter__") (by kernel_rfl) rfl (by decide +kernel) (by kernel_rfl)
def io (a:Addr)(sl i n ep:Nat):Obj:={ cls:=.type "set_iterator",dict:=none,data:=.fields #[.int (Int.ofNat sl) 0,.int (Int.ofNat i) 0,.ref a,.int (Int.ofNat n) 0,.int (Int.ofNat ep) 0],slots:=#[] }
def wk (w:World)(a:Addr)(m:Nat)(z:Nat->Tok)(ep:Nat):Array (Int×Value):=if cb w then pickOrder (w.params.setOrder a ep) (Ca m z)else Ca m z
section
variable {prog:Program}{w:World}{A:Around}{E:Value->Shared->Prop}{s:Shared}{a I:Addr}{m ep:Nat}{z:Nat->Tok}
def tZ(h:Q (cb w) s):wpAny (model prog w) A setsByText Q E s:=by
 unfold setsByText
 exact Qa (JZ (Qc h))
def Gw(hT:s.TypeIs (.ref a) "set")(h:Q false s):wpAny (model prog w) A (Builtin.List.listLengthHint (.ref a)) Q E s:=by
 unfold Builtin.List.listLengthHint
 refine Qa (YV hT PySem.F.slot_set_len.lookup ?_)
 generalize rG:("set.__len__":String)=Sn
 wp_delta
 rw[show splitId Sn=some ("set","__len__")from by subst rG;decide +kernel]
 subst rG
 refine Qa (J0 (T:="set") (b:=true) hT (by rw[Yp];kernel_rfl) ?_)
 refine wpAny_ite_split (fun my=>absurd my (by decide)) (fun _=>?_)
 refine wpAny_ite_split (fun _=>?_) (fun my=>absurd (by decide +kernel) my)
 refine Qa (VX hT ?_)
 exact Qc h
end
section
variable {X:Cx}{pins:List (Addr×Obj)}{σ:St}{H:Hp}{s:Shared}{a:Addr}{h1 h':Heap}{o:HO}{t':Nat}
def vX{P:Program}{w:World}{h:Heap}(x:cP P w H h)(k:∀ b u,h.get? b=some u->h1.get? b=some u)(hp:h1.objs.size<=a):H a=none:=by
 cases q:H a with
 | none=>rfl
 | some u=>exact absurd (Qs ((x a u q).fA (h':=h1) (H':=H) (fun b u _ e=>k b u e) (fun _ e=>e) (fun _ _ e=>e)).lt hp) (Q6 _)
def yS(I:Inv X pins σ H s)(k1:∀ b u,s.heap.get? b=some u->h1.get? b=some u)(hp:h1.objs.size<=a)(k:∀ b u,s.heap.get? b=some u->h'.get? b=some u)(new:cR X.prog X.w (upd H a o) h' a o) :
  Inv X pins σ (upd H a o) { s with heap:=h',toks:=t' }:=by
 have hn:=vX I.aw k1 hp
 refine I.un ⟨fun b u q _ _ _=>k b u q,fun b u q _ _ _=>⟨u.slots,k b u q⟩,fun b u q n _=>?_,fun b u q _=>⟨u,k b u q⟩,fun b xs q=>by rw[a0 (iC q hn)];exact q,fun b u xs q=>by rw[a0 (iC q hn)];exact q,
  fun b ps q=>⟨#[],by rw[a0 (iC q hn),q];simp⟩⟩ fun b u e=>?_
 ·rw[a0 (Qz (Qs (Qm (k1 b u q)) hp))];exact n
 ·by_cases hb:b=a
  ·subst hb;rw[fO]at e;cases e;exact new
  ·rw[a0 hb]at e
   exact(I.aw b u e).fA (fun c v _ q=>k c v q) (fun c q=>by rw[a0 (iC q hn)];exact q) fun c xs q=>by rw[a0 (iC q hn)];exact q
end
abbrev nK (ks:List Nat):Nat:=mb (fun i=>ks.getD i 0) ks.length
def uU:∀ {ks:List Int} {us:List Value},IntsAre us ks->aY (ks.map V.int) us
 | _,_,.nil=>.nil
 | _,_,.cons k t r=>.cons ⟨t,rfl⟩ (uU r)
end L3
namespace L3
open PySem PySem.Spec PyProof.Rows L2
def bQ (lo:Int)(n:Nat):List D:=(List.range n).map fun i=>.int (lo+Int.ofNat i)
def t4(lo:Int)(n:Nat):(bQ lo n).length=n:=by simp[bQ]
def It.bQ{K:PySem.W.Frag}{lo:Int}{n:Nat}:kO K (tz lo n) (bQ lo n) fun _ _=>True:=by
 refine⟨fun i H w _ hi=>by rw[t4]at hi;exact hi,fun i H w x H' d _ _ hd y=>?_,fun H w _=>by rw[t4];exact Qg _,fun _ _ _ _ _ _ _=>trivial⟩
 have hi:i<n:=by have:=(Qr.mp hd).1;rw[t4]at this;exact this
 have e:x=.int (lo+(i:Int)):=y.2
 have ed:d=.int (lo+Int.ofNat i):=by
  have:(L3.bQ lo n)[i]? = some (.int (lo+Int.ofNat i)):=by simp[L3.bQ,hi]
  rw[hd]at this
  exact QC this
 obtain⟨rfl,_⟩:=y
 subst ed
 rw[e]
 exact⟨Mo.oH,.int _,trivial⟩
@[simp] def yT (g:bT):jD:=fun ρ=>match g ρ with
 | some ([.int i,.int j],ρ1)=>if -500<=i/\i<=500 /\ -500<=j/\j<=500 then some (bQ i (j-i).toNat,ρ1)else none
 | _=>none
section
variable {X:Cx}{a b tg:Expr}{p pos:Pos}
def Sr{g:bT}(hm:X.mg "range" = none)(ha:fi X [a,b] g)(hg:Gl X "range":=by rfl)(hs:starEach [a,b] X.env=[(false,eval a X.env),(false,eval b X.env)]:=by rfl)(kG:starEach [b] X.env=[(false,eval b X.env)]:=by rfl):q_ X tg (.Call (.Name "range" p) [a,b] [] pos) (yT g):=⟨have ha:=ha.o;PI.imp (Mi hg hm ha hs kG) fun σ H R ag=>by
 obtain⟨ρ,w,t,ds,ρ',gd,ee,k⟩:=ag
 unfold yT at ee
 split at ee
 next i j ρ1 h1=>
  split at ee
  next hn=>
   cases ee
   refine⟨ρ,w,t,[.int i,.int j],_,gd,h1,fun vs H1 w1 g1 aD r1=>?_⟩
   have hv:vs=[.int i,.int j]:=by
    have l:=r1.length
    match vs,l with
    | [v,u],_=>
     obtain⟨v',h1,h2⟩:=r1.get (i:=0) rfl
     cases h1
     obtain⟨u',h3,h4⟩:=r1.get (i:=1) rfl
     cases h3
     rw[dG h2,dG h4]
   subst hv
   refine⟨i,j,rfl,⟨by omega,by omega,by omega,by omega⟩,k _ _ H1 w1 g1 aD It.bQ trivial ?_⟩
   rw[t4]
   exact kI (by omega)
  ·cases ee
 ·cases ee⟩
end
end L3
namespace L3
open PySem PySem.Spec PyProof.Rows PySem.W L2
end L3
namespace L3
open PySem PySem.Spec PyProof.Rows L2
variable {i:Nat}
def pW (fa:aB)(i:Nat):aB:=fun ρ=>match fa ρ with
 | some (d,_,ρ1)=>match ρ1[i]? with
  | some (some (e,_))=>match vj d e with
   | some r=>some (r,9,ρ1)
   | none=>none
  | _=>none
 | none=>none
section
variable {X:Cx}{a:Expr}{fa:aB}{pos p1:Pos}
def Ss{K:PySem.W.Frag}:∀ σ H Q,tD K (pW fa i) σ H Q->kH (yA K true) (tD K fa) (fK i) σ H Q:=fun σ H Q ag=>by
 obtain⟨ρ,w,t,r',q,ρ',gd,ee,k⟩:=ag
 unfold pW at ee
 split at ee
 next d q0 ρ1 h1=>
  split at ee
  next e q1 e1=>
   split at ee
   next r hd=>
    cases ee
    unfold vj at hd
    split at hd
    next hk=>
     cases hi:inD d e with
     | none=>rw[hi]at hd;cases hd
     | some b=>
      rw[hi]at hd
      cases hd
      refine⟨ρ,w,t,d,q0,ρ',gd,h1,fun v H1 w1 F g1 aD r1=>?_⟩
      obtain⟨u,F',h3,h4⟩:=g1.slot i _ q1 e1
      exact⟨u,h3,d,e,b,⟨_,_,_,_,r1⟩,⟨_,_,_,_,h4⟩,hk.1,hk.2,hi,k _ H1 _ [] (g1.drop (t':=t)).up (aD.drop gd.wt) (.bl _)⟩
    ·cases hd
   ·cases ee
  ·cases ee
 ·cases ee
def Gx{k:Nat}{x:Str}(hr:aQ k X.A)(ha:QD X a fa)(hb:QE X (.Name x p1) (fK i))(hm:behindInMarks .NotIn (.Name x p1)=false:=by with_unfolding_all rfl):gK X (.Compare a [.NotIn] [.Name x p1] pos) (bA (pW fa i)):=⟨have ha:=ha.o;have hb:=hb.o;PT.imp (Ex (O4 (vk hr)) ha hb hm) (Bd Ss)⟩
end
end L3
namespace L3
open PySem PySem.Spec PyProof.Rows PySem.W L2
end L3
namespace L3
open PySem PySem.Spec PyProof.Rows L2
end L3
namespace L3
open PySem PySem.Spec PyProof.Rows PySem.W L2
def Su{α β:Type}{f:α->β}{ps qs:List β}(h:ps.Perm qs):∀ {l:List α},qs=l.map f->∃ l':List α,l'.Perm l/\ps=l'.map f:=by
 induction h with
 | nil=>
  intro l e
  have:=J4.mp e.symm
  subst this
  exact⟨[],.nil,rfl⟩
 | cons x _ ih=>
  intro l e
  cases l with
  | nil=>cases e
  | cons a l=>
   rw[QK]at e
   cases e
   obtain⟨l',p,e'⟩:=ih rfl
   exact⟨a::l',p.cons a,by rw[e'];rfl⟩
 | swap x y _=>
  intro l e
  match l,e with
  | [],e=>cases e
  | [a],e=>simp at e
  | a::b::l,e=>
   rw[QK,QK]at e
   cases e
   exact⟨b::a::l,.swap a b l,rfl⟩
 | trans _ _ l0 l3=>
  intro l e
  obtain⟨l2,p2,e2⟩:=l3 e
  obtain⟨l1,p1,e1⟩:=l0 e2
  exact⟨l1,p1.trans p2,e1⟩
end L3
namespace L3
open PySem PySem.SetTable
variable {Q:Bool->Shared->Prop}{a bx:Addr}{ep i j m mask n:Nat}{h h':Heap}{hs kx:List Int}{o:Obj}{xs:Array Nat}
def Rs (xs:Array Nat):Prop:=∀ a b,a<b->b<xs.size->xs.getD a 0<xs.getD b 0
def Gy(h:i<xs.size)(a b:Nat):xs.getD i a=xs.getD i b:=by
 unfold Array.getD
 rw[Us h,Us h]
def Cc(r:Rs xs)(j:Nat):∀ (fuel lo hi:Nat),hi-lo<=fuel->lo<=hi->hi<=xs.size->(∀ i,i<lo->xs.getD i 0<j)->(∀ i,hi<=i->i<xs.size->j<=xs.getD i 0)->
  below.go xs j fuel lo hi<=xs.size/\(∀ i,i<below.go xs j fuel lo hi->xs.getD i 0<j)/\(∀ i,below.go xs j fuel lo hi<=i->i<xs.size->j<=xs.getD i 0)
 | 0,lo,hi,hf,hl,hs,h1,h2=>by
  unfold below.go
  exact⟨by omega,h1,fun i a b=>h2 i (by omega) b⟩
 | fuel+1,lo,hi,hf,hl,hs,h1,h2=>by
  unfold below.go
  by_cases c:lo<hi
  ·rw[Qi c]
   have hm:(lo+hi) / 2<xs.size:=by omega
   by_cases d:xs.getD ((lo+hi) / 2) j<j
   ·rw[Qi d]
    rw[Gy hm j 0]at d
    refine Cc r j fuel _ hi (by omega) (by omega) hs (fun i cS=>?_) h2
    by_cases e:i=(lo+hi) / 2
    ·rw[e];exact d
    ·exact Va (r i _ (by omega) hm) d
   ·rw[Qj d]
    rw[Gy hm j 0]at d
    refine Cc r j fuel lo _ (by omega) (by omega) (by omega) h1 (fun i a b=>?_)
    by_cases e:i=(lo+hi) / 2
    ·rw[e];omega
    ·have:=r ((lo+hi) / 2) i (by omega) b
     omega
  ·rw[Qj c]
   exact⟨by omega,h1,fun i a b=>h2 i (by omega) b⟩
def vY(r:Rs xs)(j:Nat):below xs j<=xs.size/\(∀ i,i<below xs j->xs.getD i 0<j)/\(∀ i,below xs j<=i->i<xs.size->j<=xs.getD i 0):=
 Cc r j xs.size 0 xs.size (by omega) (by omega) (Qg _) (fun _ h=>absurd h (Za _)) (fun i a b=>by omega)
def Sv(r:Rs xs)(h:xs[i]? = some j):below xs j=i:=by
 obtain⟨a,b,c⟩:=vY r j
 have hi:i<xs.size:=(Jd.mp h).1
 have e:xs.getD i 0=j:=by rw[QI,h];rfl
 by_cases l:i<below xs j
 ·have:=b i l;omega
 ·by_cases l2:below xs j<i
  ·have h1:=c (below xs j) (Qg _) (by omega)
   have h2:=r (below xs j) i l2 hi
   omega
  ·omega
def vZ{t:SetTable}(r:Rs t.place)(h:t.place[i]? = some j):t.slot j=.live i:=by
 unfold SetTable.slot
 rw[Sv r h]
 show(if(t.place[i]? == some j)=true then Slot.live i else _)=_
 rw[h]
 simp
def Sw{t:SetTable}(hd:t.dummies = #[])(h:∀ i:Nat,t.place[i]? ≠ some j):t.slot j=.empty:=by
 unfold SetTable.slot SetTable.has
 rw[hd]
 have:(t.place[below t.place j]? == some j)=false:=by
  rw[Z8];exact h _
 simp[this]
def v5{t:SetTable}(r:Rs t.place)(hd:t.dummies = #[])(j:Nat):(∃ i:Nat,t.place[i]? = some j/\t.slot j=.live i)\/((∀ i:Nat,t.place[i]? ≠ some j)/\t.slot j=.empty):=by
 by_cases h:∃ i:Nat,t.place[i]? = some j
 ·obtain⟨i,e⟩:=h
  exact .inl ⟨i,e,vZ r e⟩
 ·have h':∀ i:Nat,t.place[i]? ≠ some j:=fun i e=>h ⟨i,e⟩
  exact .inr ⟨h',Sw hd h'⟩
def kg (mask:Nat)(p:Probe):Probe:=if p.more > 0 then { p with j:=p.j+1,more:=p.more-1 }else { p with j:=(leap mask p.i p.perturb).1,more:=runEnd mask (leap mask p.i p.perturb).1-(leap mask p.i p.perturb).1,i:=(leap mask p.i p.perturb).1,perturb:=(leap mask p.i p.perturb).2 }
def bE (mask:Nat)(h:Int):Probe:={ j:=bits h % (mask+1),more:=runEnd mask (bits h % (mask+1))-bits h % (mask+1),i:=bits h % (mask+1),perturb:=bits h,dummy:=none }
def aW (mask:Nat)(p:Probe):Nat->Probe
 | 0=>p
 | m+1=>aW mask (kg mask p) m
def mz(mask:Nat):∀ (m k:Nat) (p:Probe),aW mask p (m+k)=aW mask (aW mask p m) k
 | 0,k,p=>by rw[Yr];rfl
 | m+1,k,p=>by
  rw[Uw]
  exact mz mask m k (kg mask p)
def lp (mask a pb:Nat):Probe:={ j:=a,more:=runEnd mask a-a,i:=a,perturb:=pb,dummy:=none }
def Cd(mask:Nat):∀ (k:Nat) (p:Probe),k<=p.more->aW mask p k={ p with j:=p.j+k,more:=p.more-k }
 | 0,p,_=>rfl
 | k+1,p,h=>by
  show aW mask (kg mask p) k=_
  have e:kg mask p={ p with j:=p.j+1,more:=p.more-1 }:=by unfold kg;rw[Qi (by omega)]
  rw[e,Cd mask k _ (by show k<=p.more-1;omega)]
  show({ p with j:=p.j+1+k,more:=p.more-1-k }:Probe)={ p with j:=p.j+(k+1),more:=p.more-(k+1) }
  congr 1
  ·omega
  ·omega
def Sx(mask a:Nat):runEnd mask a-a<=9:=by unfold runEnd;split<;>omega
def Gz(mask a pb:Nat):aW mask (lp mask a pb) (runEnd mask a-a+1)=lp mask (leap mask a pb).1 (leap mask a pb).2:=by
 rw[mz,Cd mask (runEnd mask a-a) (lp mask a pb) (Qg _)]
 show kg mask { lp mask a pb with j:=a+(runEnd mask a-a),more:=runEnd mask a-a-(runEnd mask a-a) }=_
 unfold kg
 rw[Qj (by show ¬ runEnd mask a-a-(runEnd mask a-a) > 0;omega)]
 rfl
def lst (mask:Nat):Nat->Nat×Nat->Nat×Nat
 | 0,x=>x
 | s+1,x=>lst mask s (leap mask x.1 x.2)
def GA(mask:Nat):∀ (s:Nat) (x:Nat×Nat),∃ m,m<=10*s/\aW mask (lp mask x.1 x.2) m=lp mask (lst mask s x).1 (lst mask s x).2
 | 0,x=>⟨0,Qg _,rfl⟩
 | s+1,x=>by
  obtain⟨m,hm,e⟩:=GA mask s (leap mask x.1 x.2)
  have h:=Sx mask x.1
  refine⟨runEnd mask x.1-x.1+1+m,by omega,?_⟩
  rw[mz,Gz]
  exact e
def GB(mask:Nat):∀ (s r:Nat) (x:Nat×Nat),lst mask (s+r) x=lst mask r (lst mask s x)
 | 0,r,x=>by rw[Yr];rfl
 | s+1,r,x=>by rw[Uw];exact GB mask s r _
def GC(mask:Nat):∀ (s:Nat) (x:Nat×Nat),(lst mask s x).2=x.2 / 32 ^ s
 | 0,x=>by rw[Nat.pow_zero,Nat.div_one];rfl
 | s+1,x=>by
  show(lst mask s (leap mask x.1 x.2)).2=_
  rw[GC mask s,Nat.pow_succ']
  show x.2 / 32 / 32 ^ s=_
  rw[Nat.div_div_eq_div_mul]
def GD(mask:Nat):∀ (s:Nat) (x:Nat×Nat),x.1<=mask->(lst mask s x).1<=mask
 | 0,_,h=>h
 | s+1,x,_=>GD mask s _ (by show(x.1*5+1+x.2 / 32) % (mask+1)<=mask;exact Y0.mp (VY _ (JB mask)))
def nN (mask:Nat):Nat->Nat->Nat
 | 0,a=>a
 | s+1,a=>nN mask s ((a*5+1) % (mask+1))
def GF(mask:Nat):∀ (s a:Nat),lst mask s (a,0)=(nN mask s a,0)
 | 0,_=>rfl
 | s+1,a=>by
  show lst mask s ((a*5+1+0 / 32) % (mask+1),0 / 32)=_
  rw[Nat.zero_div,Nat.add_zero]
  exact GF mask s _
def yU(mask:Nat):∀ (s r a:Nat),nN mask (s+r) a=nN mask r (nN mask s a)
 | 0,r,a=>by rw[Yr];rfl
 | s+1,r,a=>by rw[Uw];exact yU mask s r _
def Ce (mask:Nat):Nat->Nat->List Nat
 | 0,_=>[]
 | s+1,a=>a::Ce mask s ((a*5+1) % (mask+1))
def GG(mask:Nat):∀ (n a:Nat) {e:Nat},e∈Ce mask n a->∃ s,s<n/\nN mask s a=e
 | 0,_,_,h=>nomatch h
 | n+1,a,e,h=>by
  rcases Qt.mp h with rfl|h
  ·exact⟨0,JB _,rfl⟩
  ·obtain⟨s,hs,q⟩:=GG mask n _ h
   exact⟨s+1,Nat.succ_lt_succ hs,q⟩
structure Mk (mask:Nat):Prop where
 all:∀ e,e<=mask->∃ s,s<mask+1/\nN mask s 0=e
 back:nN mask (mask+1) 0=0
 odd:mask % 2=1
 dO:mask<=511
def Mk.of(mask:Nat)(o:mask % 2=1)(fw:mask<=511)(h:((List.range (mask+1)).all fun e=>(Ce mask (mask+1) 0).contains e)=true)(b:nN mask (mask+1) 0=0):Mk mask:=
 ⟨fun e he=>GG mask _ 0 (by
   have:=YA.mp h e (QJ.mpr (by omega))
   exact Yw.mp this),b,o,fw⟩
def GH:Mk 7:=.of 7 rfl (by decide) (by decide +kernel) (by decide +kernel)
def Sy:Mk 31:=.of 31 rfl (by decide) (by decide +kernel) (by decide +kernel)
def Sz:Mk 127:=.of 127 rfl (by decide) (by decide +kernel) (by decide +kernel)
def SA:Mk 511:=.of 511 rfl (by decide) (by decide +kernel) (by decide +kernel)
def Mk.any(k:Mk mask){a e:Nat}(ha:a<=mask)(he:e<=mask):∃ s,s<mask+1/\nN mask s a=e:=by
 obtain⟨s0,h0,e0⟩:=k.all a ha
 obtain⟨s1,h1,e1⟩:=k.all e he
 by_cases c:s0<=s1
 ·refine⟨s1-s0,by omega,?_⟩
  rw[<- e0,<- yU,show s0+(s1-s0)=s1 by omega]
  exact e1
 ·refine⟨s1+(mask+1)-s0,by omega,?_⟩
  rw[<- e0,<- yU,show s0+(s1+(mask+1)-s0)=(mask+1)+s1 by omega,yU,k.back]
  exact e1
def SD(h:Int):bits h<2 ^ 64:=by unfold bits;omega
def Cf(k:Mk mask)(h:Int){e:Nat}(he:e<=mask):∃ m,m<10*turns mask/\(aW mask (bE mask h) m).j=e/\∃ s,s<turns mask/\(lst mask s (bits h % (mask+1),bits h)).1=e:=by
 have h0:bits h % (mask+1)<=mask:=Y0.mp (VY _ (JB mask))
 have z:(lst mask 13 (bits h % (mask+1),bits h)).2=0:=by
  rw[GC]
  exact VP (Qs (SD h) (by decide))
 have SE:=GD mask 13 (bits h % (mask+1),bits h) h0
 obtain⟨s,hs,es⟩:=k.any SE he
 have e1:lst mask (13+s) (bits h % (mask+1),bits h)=(e,0):=by
  rw[GB]
  have:lst mask 13 (bits h % (mask+1),bits h)=((lst mask 13 (bits h % (mask+1),bits h)).1,0):=by rw[<- z]
  rw[this,GF,es]
 obtain⟨m,hm,em⟩:=GA mask (13+s) (bits h % (mask+1),bits h)
 rw[e1]at em
 refine⟨m,by unfold turns;omega,?_,13+s,by unfold turns;omega,by rw[e1]⟩
 have:bE mask h=lp mask (bits h % (mask+1)) (bits h):=rfl
 rw[this,em]
 rfl
def GI(mask:Nat):∀ (m:Nat) (p:Probe),p.dummy=none->(aW mask p m).dummy=none
 | 0,_,h=>h
 | m+1,p,h=>GI mask m _ (by unfold kg;split<;>exact h)
def GJ(t:SetTable)(hashAt:Nat->Int)(h:Int)(r:Rs t.place)(hd:t.dummies = #[]):∀ (fuel:Nat) (p:Probe),p.dummy=none->(∃ m,m<fuel/\t.slot (aW t.mask p m).j=.empty)->
  ∃ m,m<fuel/\(∀ m',m'<m->∃ i,t.slot (aW t.mask p m').j=.live i/\hashAt i≠h)/\((t.slot (aW t.mask p m).j=.empty/\probe.go t hashAt h fuel p=some (.empty (aW t.mask p m).j none))\/∃ i,t.slot (aW t.mask p m).j=.live i/\hashAt i=h/\probe.go t hashAt h fuel p=some (.candidate (aW t.mask p m).j i (aW t.mask p (m+1))))
 | 0,_,_,⟨m,hm,_⟩=>absurd hm (Za _)
 | fuel+1,p,hp,⟨M,hM,eM⟩=>by
  rcases v5 r hd p.j with⟨i,_,e⟩|⟨_,e⟩
  ·by_cases c:hashAt i=h
   ·refine⟨0,JB _,fun _ z=>absurd z (Za _),.inr ⟨i,e,c,?_⟩⟩
    show probe.go t hashAt h (fuel+1) p=some (.candidate p.j i (kg t.mask p))
    unfold probe.go
    rw[e]
    show(if(hashAt i==h)=true then _ else _)=_
    rw[Qi (by rw[c];exact Ja h)]
    rfl
   ·have n0:M≠0:=fun z=>by
     subst z
     have:t.slot p.j=.empty:=eM
     rw[e]at this;cases this
    obtain⟨M',rfl⟩:=YQ n0
    have jA:(kg t.mask p).dummy=none:=by unfold kg;split<;>exact hp
    obtain⟨m,hm,a,b⟩:=GJ t hashAt h r hd fuel (kg t.mask p) jA ⟨M',by omega,eM⟩
    have go:probe.go t hashAt h (fuel+1) p=probe.go t hashAt h fuel (kg t.mask p):=by
     conv=>lhs;unfold probe.go
     rw[e]
     show(if(hashAt i==h)=true then _ else _)=_
     rw[Qj (by rw[ZE];exact c)]
     rfl
    refine⟨m+1,by omega,fun m' fF=>?_,?_⟩
    ·match m' with
     | 0=>exact⟨i,e,c⟩
     | m'+1=>exact a m' (by omega)
    ·rw[go]
     exact b
  ·refine⟨0,JB _,fun _ z=>absurd z (Za _),.inl ⟨e,?_⟩⟩
   show probe.go t hashAt h (fuel+1) p=some (.empty p.j none)
   unfold probe.go
   rw[e]
   show some (Met.empty p.j p.dummy)=_
   rw[hp]
structure fG (t:SetTable) (hs:List Int):Prop where
 sz:t.place.size=hs.length
 rs:Rs t.place
 nd:t.dummies = #[]
 rd:Mk t.mask
 le:∀ (i j:Nat),t.place[i]? = some j->j<=t.mask
 room:hs.length<=t.mask
 v7:∀ (i j:Nat) (h:Int),t.place[i]? = some j->hs[i]? = some h->∃ m,m<10*turns t.mask/\(aW t.mask (bE t.mask h) m).j=j/\∀ m',m'<m->∃ i',t.slot (aW t.mask (bE t.mask h) m').j=.live i'
def Cg:∀ {l l':List Nat},l.Nodup->(∀ x∈l,x∈l')->l.length<=l'.length
 | [],_,_,_=>QS _
 | a::l,l',nd,h=>by
  have ha:=h a Qk
  have i:=Cg (l:=l) (l':=l'.erase a) (Q9.mp nd).2 fun x hx=>by
   have ne:x≠a:=fun z=>(Q9.mp nd).1 (z ▸ hx)
   exact(YR ne).mpr (h x (Qh _ hx))
  rw[Ya ha]at i
  have:0<l'.length:=Ys ha
  show l.length+1<=l'.length
  omega
section
variable {t:SetTable}{hs:List Int}(T:fG t hs)
include T
theorem fG.hole:∃ e,e<=t.mask/\t.slot e=.empty:=by
 by_cases h:∃ e,e<=t.mask/\t.slot e=.empty
 ·exact h
 ·have all:∀ e∈List.range (t.mask+1),e∈t.place.toList:=fun e he=>by
   have vF:=QJ.mp he
   rcases v5 T.rs T.nd e with⟨i,a,_⟩|⟨_,a⟩
   ·obtain⟨hi,q⟩:=Jd.mp a
    rw[<- q]
    exact YM.mpr (VB hi)
   ·exact absurd ⟨e,by omega,a⟩ h
  have:=Cg YF all
  rw[QP,QH,T.sz]at this
  have:=T.room
  omega
theorem fG.met(h:Int):∃ m,m<10*turns t.mask/\t.slot (aW t.mask (bE t.mask h) m).j=.empty/\∀ m',m'<m->∃ i,t.slot (aW t.mask (bE t.mask h) m').j=.live i:=by
 obtain⟨e,he,q⟩:=T.hole
 obtain⟨M,hM,eM,_⟩:=Cf T.rd h he
 have ex:∃ m,t.slot (aW t.mask (bE t.mask h) m).j=.empty:=⟨M,by rw[eM];exact q⟩
 have key:∀ k,(∃ m,m<k/\t.slot (aW t.mask (bE t.mask h) m).j=.empty)->∃ m,m<k/\t.slot (aW t.mask (bE t.mask h) m).j=.empty/\∀ m',m'<m->t.slot (aW t.mask (bE t.mask h) m').j ≠ .empty:=by
  intro k
  induction k with
  | zero=>exact fun⟨m,hm,_⟩=>absurd hm (Za _)
  | succ k ih=>
   intro ⟨m,hm,em⟩
   by_cases c:∃ m,m<k/\t.slot (aW t.mask (bE t.mask h) m).j=.empty
   ·obtain⟨m',a,b⟩:=ih c
    exact⟨m',by omega,b⟩
   ·exact⟨m,hm,em,fun m' fF z=>c ⟨m',by omega,z⟩⟩
 obtain⟨m,hm,em,bm⟩:=key (10*turns t.mask) ⟨M,hM,by rw[eM];exact q⟩
 refine⟨m,hm,em,fun m' fF=>?_⟩
 rcases v5 T.rs T.nd (aW t.mask (bE t.mask h) m').j with⟨i,_,a⟩|⟨_,a⟩
 ·exact⟨i,a⟩
 ·exact absurd a (bm m' fF)
end
def tF{α:Type}(xs:Array α)(p:Nat)(x:α)(hp:p<=xs.size)(i:Nat):(insertAt xs p x)[i]? = if i<p then xs[i]? else if i=p then some x else xs[i-1]?:=by
 have e:(insertAt xs p x).toList=xs.toList.take p++x::xs.toList.drop p:=by
  unfold insertAt
  simp
  exact VZ (by rw[JX,QH];exact Qg _)
 rw[<- QV,e]
 by_cases h1:i<p
 ·rw[Qi h1,Q0 (by rw[Zm,QH];omega),Z0 h1,QV]
 ·rw[Qj h1,Zt (by rw[Zm,QH];omega),Zm,QH,Nat.min_eq_left hp]
  by_cases h2:i=p
  ·rw[Qi h2,h2,Ux];rfl
  ·rw[Qj h2]
   obtain⟨k,rfl⟩:∃ k,i=p+k+1:=⟨i-p-1,by omega⟩
   rw[show p+k+1-p=k+1 by omega,ZC,List.getElem?_drop,QV]
   rfl
def GK{α:Type}(xs:Array α)(p:Nat)(x:α)(hp:p<=xs.size):(insertAt xs p x).size=xs.size+1:=by
 unfold insertAt
 simp
 omega
def Ci(h:xs[i]? = some j):xs.getD i 0=j:=by rw[QI,h];rfl
def yV(h:i<xs.size):xs[i]? = some (xs.getD i 0):=by
 unfold Array.getD
 rw[Us h]
 exact Q1 h
def SF(r:Rs xs)(hj:∀ i:Nat,xs[i]? ≠ some j):Rs (insertAt xs (below xs j) j):=by
 obtain⟨a,b,c⟩:=vY r j
 have sz:=GK xs (below xs j) j a
 have g:∀ i,i<xs.size+1->(insertAt xs (below xs j) j).getD i 0=if i<below xs j then xs.getD i 0 else if i=below xs j then j else xs.getD (i-1) 0:=fun i hi=>by
  refine Ci ?_
  rw[tF xs _ j a]
  by_cases h1:i<below xs j
  ·rw[Qi h1,Qi h1];exact yV (by omega)
  ·rw[Qj h1,Qj h1]
   by_cases h2:i=below xs j
   ·rw[Qi h2,Qi h2]
   ·rw[Qj h2,Qj h2];exact yV (by omega)
 have c':∀ i,below xs j<=i->i<xs.size->j<xs.getD i 0:=fun i h1 h2=>by
  have:=c i h1 h2
  have ne:xs.getD i 0≠j:=fun z=>hj i (by rw[yV h2,z])
  omega
 intro x y SG hy
 rw[sz]at hy
 rw[g x (by omega),g y hy]
 by_cases h1:y<below xs j
 ·rw[Qi (by omega),Qi h1];exact r x y SG (by omega)
 ·rw[Qj h1]
  by_cases h2:y=below xs j
  ·rw[Qi h2,Qi (by omega)];exact b x (by omega)
  ·rw[Qj h2]
   by_cases h3:x<below xs j
   ·rw[Qi h3]
    have:=b x h3
    have:=c' (y-1) (by omega) (by omega)
    omega
   ·rw[Qj h3]
    by_cases h4:x=below xs j
    ·rw[Qi h4];exact c' (y-1) (by omega) (by omega)
    ·rw[Qj h4];exact r (x-1) (y-1) (by omega) (by omega)
def gM {α:Type}(l:List α)(p:Nat)(x:α):List α:=l.take p++x::l.drop p
def Cj{α:Type}(l:List α)(p:Nat)(x:α)(hp:p<=l.length)(i:Nat):(gM l p x)[i]? = if i<p then l[i]? else if i=p then some x else l[i-1]?:=by
 unfold gM
 by_cases h1:i<p
 ·rw[Qi h1,Q0 (by rw[Zm];omega),Z0 h1]
 ·rw[Qj h1,Zt (by rw[Zm];omega),Zm,Nat.min_eq_left hp]
  by_cases h2:i=p
  ·rw[Qi h2,h2,Ux];rfl
  ·rw[Qj h2]
   obtain⟨k,rfl⟩:∃ k,i=p+k+1:=⟨i-p-1,by omega⟩
   rw[show p+k+1-p=k+1 by omega,ZC,List.getElem?_drop]
   rfl
def rL{α:Type}(l:List α)(p:Nat)(x:α):(gM l p x).length=l.length+1:=by
 unfold gM
 rw[Qo,Zh,Zm,JX]
 omega
def fG.put{t:SetTable}(T:fG t hs){h:Int}(hm:m<10*turns t.mask)(em:t.slot (aW t.mask (bE t.mask h) m).j=.empty)(bm:∀ m',m'<m->∃ i,t.slot (aW t.mask (bE t.mask h) m').j=.live i)(hj:(aW t.mask (bE t.mask h) m).j<=t.mask)(hr:hs.length+1<=t.mask) :
  (t.put (aW t.mask (bE t.mask h) m).j).2<=hs.length/\(t.put (aW t.mask (bE t.mask h) m).j).1.mask=t.mask/\fG (t.put (aW t.mask (bE t.mask h) m).j).1 (gM hs (t.put (aW t.mask (bE t.mask h) m).j).2 h):=by
 generalize Ck:(aW t.mask (bE t.mask h) m).j=j at *
 have ne:∀ i:Nat,t.place[i]? ≠ some j:=fun i e=>by rw[vZ T.rs e]at em;cases em
 have pe:t.put j=({ t with place:=insertAt t.place (below t.place j) j,dummies:=#[] },below t.place j):=by
  unfold SetTable.put SetTable.has
  rw[T.nd]
  simp
 rw[pe]
 obtain⟨a,b,c⟩:=vY T.rs j
 have sz:=T.sz
 have oN:Rs (insertAt t.place (below t.place j) j):=SF T.rs ne
 have lv:∀ (k i:Nat),t.slot k=.live i->∃ i',({ t with place:=insertAt t.place (below t.place j) j,dummies:=#[] }:SetTable).slot k=.live i':=fun k i e=>by
  rcases v5 T.rs T.nd k with⟨i',e',_⟩|⟨_,e'⟩
  ·refine⟨if i'<below t.place j then i' else i'+1,vZ oN ?_⟩
   show(insertAt t.place (below t.place j) j)[_]? = some k
   rw[tF t.place _ j a]
   by_cases h1:i'<below t.place j
   ·rw[Qi h1,Qi h1];exact e'
   ·rw[Qj h1,Qj (by omega),Qj (by omega)]
    exact e'
  ·rw[e]at e';cases e'
 refine⟨by show below t.place j<=hs.length;omega,rfl,?_⟩
 refine⟨by show(insertAt t.place (below t.place j) j).size=_;rw[GK _ _ _ a,rL];omega,oN,rfl,T.rd,fun i k e=>?_,by rw[rL];exact hr,fun i k h' e eh=>?_⟩
 ·have e':(insertAt t.place (below t.place j) j)[i]? = some k:=e
  rw[tF t.place _ j a]at e'
  by_cases h1:i<below t.place j
  ·rw[Qi h1]at e';exact T.le i k e'
  ·rw[Qj h1]at e'
   by_cases h2:i=below t.place j
   ·rw[Qi h2]at e';cases e';exact hj
   ·rw[Qj h2]at e';exact T.le _ k e'
 ·have e':(insertAt t.place (below t.place j) j)[i]? = some k:=e
  have pX:(gM hs (below t.place j) h)[i]? = some h':=eh
  rw[tF t.place _ j a]at e'
  rw[Cj hs _ h (by omega)]at pX
  have old:∀ i0,t.place[i0]? = some k->hs[i0]? = some h'->∃ m,m<10*turns t.mask/\(aW t.mask (bE t.mask h') m).j=k/\∀ m',m'<m->∃ i',({ t with place:=insertAt t.place (below t.place j) j,dummies:=#[] }:SetTable).slot (aW t.mask (bE t.mask h') m').j=.live i':=fun i0 x y=>by
   obtain⟨m0,q1,q2,q3⟩:=T.v7 i0 k h' x y
   refine⟨m0,q1,q2,fun m' fF=>?_⟩
   obtain⟨i',q⟩:=q3 m' fF
   exact lv _ _ q
  by_cases h1:i<below t.place j
  ·rw[Qi h1]at e' pX;exact old _ e' pX
  ·rw[Qj h1]at e' pX
   by_cases h2:i=below t.place j
   ·rw[Qi h2]at e' pX
    cases e'
    cases pX
    refine⟨m,hm,Ck,fun m' fF=>?_⟩
    obtain⟨i',q⟩:=bm m' fF
    exact lv _ _ q
   ·rw[Qj h2]at e' pX;exact old _ e' pX
def v8(mask:Nat)(h:Int)(m:Nat):(aW mask (bE mask h) m).j<=mask:=by
 have key:∀ (m:Nat) (p:Probe),p.j+p.more<=mask->(aW mask p m).j<=mask:=by
  intro m
  induction m with
  | zero=>intro p hp;show p.j<=mask;omega
  | succ m ih=>
   intro p hp
   refine ih _ ?_
   unfold kg
   split
   ·show p.j+1+(p.more-1)<=mask;omega
   ·show(leap mask p.i p.perturb).1+(runEnd mask (leap mask p.i p.perturb).1-(leap mask p.i p.perturb).1)<=mask
    have:(leap mask p.i p.perturb).1<=mask:=Y0.mp (VY _ (JB mask))
    unfold runEnd
    split<;>omega
 refine key m _ ?_
 show bits h % (mask+1)+(runEnd mask (bits h % (mask+1))-bits h % (mask+1))<=mask
 have:bits h % (mask+1)<=mask:=Y0.mp (VY _ (JB mask))
 unfold runEnd
 split<;>omega
def fG.fresh(finger moves:Nat)(led:Bool):fG (.fresh finger moves led) []:=
 ⟨rfl,fun a b _ h=>absurd h (Za _),rfl,GH,fun i j e=>by
   have:(#[]:Array Nat)[i]? = some j:=e
   simp at this,QS _,fun i j h e _=>by
   have:(#[]:Array Nat)[i]? = some j:=e
   simp at this⟩
abbrev ls:=Array (Option Nat)
def iK (ow:ls)(j:Nat):Bool:=(ow.getD j (some 0)).isNone
def SH{p:Nat->Bool}:(∃ k,k<n/\(List.range n).find? p=some k/\p k=true/\∀ k',k'<k->p k'=false)\/((List.range n).find? p=none/\∀ k',k'<n->p k'=false):=by
 cases h:(List.range n).find? p with
 | none=>exact .inr ⟨rfl,fun k' hk=>by
   have:=List.find?_eq_none.mp h k' (QJ.mpr hk)
   simpa using this⟩
 | some k=>
  rw[List.find?_range_eq_some]at h
  refine .inl ⟨k,QJ.mp h.2.1,rfl,h.1,fun k' ke=>?_⟩
  have:=h.2.2 k' ke
  simpa using this
def GL(mask:Nat)(ow:ls):∀ (fuel:Nat) (x:Nat×Nat),(∃ s,s<fuel/\iK ow (lst mask s x).1=true)->∃ m,layClean.free mask ow fuel x.1 x.2=some (aW mask (lp mask x.1 x.2) m).j/\iK ow (aW mask (lp mask x.1 x.2) m).j=true/\∀ m',m'<m->iK ow (aW mask (lp mask x.1 x.2) m').j=false
 | 0,_,⟨s,hs,_⟩=>absurd hs (Za _)
 | fuel+1,x,⟨s,hs,es⟩=>by
  have run:∀ k,k<=runEnd mask x.1-x.1->(aW mask (lp mask x.1 x.2) k).j=x.1+k:=fun k hk=>by rw[Cd mask k _ hk];rfl
  have ge:x.1<=runEnd mask x.1:=by unfold runEnd;split<;>omega
  rcases SH (n:=runEnd mask x.1+1-x.1) (p:=fun k=>(ow.getD (x.1+k) (some 0)).isNone)with⟨k,hk,e,pk,bk⟩|⟨e,bk⟩
  ·refine⟨k,?_,?_,fun m' fF=>?_⟩
   ·unfold layClean.free
    rw[e,run k (by omega)]
   ·rw[run k (by omega)];exact pk
   ·rw[run m' (by omega)];exact bk m' fF
  ·have s0:s≠0:=fun z=>by
    subst z
    have h1:(ow.getD (x.1+0) (some 0)).isNone=false:=bk 0 (by omega)
    have h2:(ow.getD x.1 (some 0)).isNone=true:=es
    rw[Nat.add_zero,h2]at h1
    cases h1
   obtain⟨s',rfl⟩:=YQ s0
   obtain⟨m,a,b,c⟩:=GL mask ow fuel (leap mask x.1 x.2) ⟨s',by omega,es⟩
   have go:∀ m,aW mask (lp mask x.1 x.2) (runEnd mask x.1-x.1+1+m)=aW mask (lp mask (leap mask x.1 x.2).1 (leap mask x.1 x.2).2) m:=fun m=>by rw[mz,Gz]
   refine⟨runEnd mask x.1-x.1+1+m,?_,?_,fun m' fF=>?_⟩
   ·rw[go,<- a]
    conv=>lhs;unfold layClean.free
    rw[e]
   ·rw[go];exact b
   ·by_cases h1:m'<=runEnd mask x.1-x.1
    ·rw[run m' h1];exact bk m' (by omega)
    ·obtain⟨q,rfl⟩:∃ q,m'=runEnd mask x.1-x.1+1+q:=⟨m'-(runEnd mask x.1-x.1+1),by omega⟩
     rw[go]
     exact c q (by omega)
def fq (mask:Nat)(ow:ls):List (Nat×Nat):=(List.range (mask+1)).filterMap fun j=>(ow.getD j none).map (j,·)
def Cm{α β:Type}{f g:α->Option β}:∀ {l:List α},(∀ x∈l,g x=f x)->l.filterMap g=l.filterMap f
 | [],_=>rfl
 | x::l,h=>by
  rw[Ju,Ju,h x Qk,Cm fun y hy=>h y (Qh _ hy)]
def GN{α β:Type}[DecidableEq α]{f g:α->Option β}{a:α}{b:β}(hf:f a=none)(hg:g a=some b):∀ {l:List α},l.Nodup->a∈l->(∀ x∈l,x≠a->g x=f x)->(l.filterMap g).Perm (b::l.filterMap f)
 | [],_,h,_=>nomatch h
 | x::l,nd,h,e=>by
  by_cases c:x=a
  ·subst c
   have same:l.filterMap g=l.filterMap f:=Cm fun y hy=>e y (Qh _ hy) fun z=>(Q9.mp nd).1 (z ▸ hy)
   rw[Jt hg,Yb hf,same]
  ·have ha:a∈l:=by
    rcases Qt.mp h with z|z
    ·exact absurd z.symm c
    ·exact z
   have ih:=GN hf hg (Q9.mp nd).2 ha fun y hy=>e y (Qh _ hy)
   have ex:=e x Qk c
   cases q:f x with
   | none=>
    rw[q]at ex
    rw[Yb ex,Yb q]
    exact ih
   | some y=>
    rw[q]at ex
    rw[Jt ex,Jt q]
    exact(ih.cons y).trans (List.Perm.swap b y _)
structure ir (mask:Nat) (hs:List Int) (ow:ls) (js:List Nat):Prop where
 sz:ow.size=mask+1
 pm:(fq mask ow).Perm js.zipIdx
 v7:∀ j k,j<=mask->ow.getD j none=some k->∃ h m,hs[k]? = some h/\m<10*turns mask/\(aW mask (bE mask h) m).j=j/\∀ m',m'<m->iK ow (aW mask (bE mask h) m').j=false
def v_{ow:ls}(h:j<ow.size):iK ow j=(ow.getD j none).isNone:=by
 unfold iK Array.getD
 rw[Us h,Us h]
def yW{ow:ls}{k:Nat}:(j,k)∈fq mask ow ↔ j<=mask/\ow.getD j none=some k:=by
 unfold fq
 rw[Yg]
 constructor
 ·rintro ⟨x,hx,e⟩
  rw[Qw]at e
  obtain⟨y,a,b⟩:=e
  cases b
  exact⟨by have:=QJ.mp hx;omega,a⟩
 ·rintro ⟨a,b⟩
  exact⟨j,QJ.mpr (by omega),by rw[b];rfl⟩
def SI{ow:ls}(sz:ow.size=mask+1)(h:(fq mask ow).length<=mask):∃ e,e<=mask/\iK ow e=true:=by
 by_cases c:∃ e,e<=mask/\iK ow e=true
 ·exact c
 ·have all:∀ e∈List.range (mask+1),e∈(fq mask ow).map (·.1):=fun e he=>by
   have vF:=QJ.mp he
   cases q:ow.getD e none with
   | none=>exact absurd ⟨e,by omega,by rw[v_ (by omega),q];rfl⟩ c
   | some k=>exact Qx.mpr ⟨(e,k),yW.mpr ⟨by omega,q⟩,rfl⟩
  have:=Cg YF all
  rw[QP,Qe]at this
  omega
def ir.add(K:Mk mask){ow:ls}{js:List Nat}(O:ir mask hs ow js)(h:Int)(hh:hs[js.length]? = some h)(room:js.length<=mask) :
  ∃ j,layClean.free mask ow (turns mask) (bits h % (mask+1)) (bits h)=some j/\ir mask hs (ow.setIfInBounds j (some js.length)) (js++[j]):=by
 have len:(fq mask ow).length=js.length:=by rw[O.pm.length_eq,Vl]
 obtain⟨e,he,q⟩:=SI O.sz (by omega)
 obtain⟨_,_,_,s,lg,es⟩:=Cf K h he
 obtain⟨m,a,b,c⟩:=GL mask ow (turns mask) (bits h % (mask+1),bits h) ⟨s,lg,by rw[es];exact q⟩
 have a':layClean.free mask ow (turns mask) (bits h % (mask+1)) (bits h)=some (aW mask (bE mask h) m).j:=a
 have b':iK ow (aW mask (bE mask h) m).j=true:=b
 have c':∀ m',m'<m->iK ow (aW mask (bE mask h) m').j=false:=c
 have hm:m<10*turns mask:=by
  obtain⟨M,hM,eM,_⟩:=Cf K h he
  by_cases z:m<10*turns mask
  ·exact z
  ·have:=c' M (by omega)
   rw[eM,q]at this
   cases this
 have jl:=v8 mask h m
 refine⟨(aW mask (bE mask h) m).j,a',?_⟩
 generalize hj:(aW mask (bE mask h) m).j=j at *
 have sz:=O.sz
 have get:∀ x,(ow.setIfInBounds j (some js.length)).getD x none=if x=j then some js.length else ow.getD x none:=fun x=>by
  rw[QI,QI,Array.getElem?_setIfInBounds]
  by_cases z:x=j
  ·subst z;rw[Qi rfl,Qi (by omega),Qi rfl];rfl
  ·rw[Qj fun y=>z y.symm,Qj z]
 have jn:ow.getD j none=none:=by
  have:=b'
  rw[v_ (by omega)]at this
  exact Option.isNone_iff_eq_none.mp this
 have hl:∀ x,x<=mask->iK ow x=false->iK (ow.setIfInBounds j (some js.length)) x=false:=fun x hx y=>by
  rw[v_ (by omega)]at y
  rw[v_ (by rw[VF];omega),get]
  by_cases z:x=j
  ·rw[Qi z];rfl
  ·rw[Qj z];exact y
 refine⟨by rw[VF];exact sz,?_,fun x k hx e=>?_⟩
 ·have p1:(fq mask (ow.setIfInBounds j (some js.length))).Perm ((j,js.length)::fq mask ow):=GN (a:=j) (by rw[jn];rfl) (by rw[get,Qi rfl];rfl) YF (QJ.mpr (by omega)) fun x _ z=>by rw[get,Qj z]
  have e:(js++[j]).zipIdx=js.zipIdx++[(j,js.length)]:=by rw[List.zipIdx_append];simp
  rw[e]
  exact p1.trans ((O.pm.cons _).trans (List.perm_append_singleton _ _).symm)
 ·rw[get]at e
  by_cases z:x=j
  ·rw[Qi z]at e
   cases e
   subst z
   exact⟨h,m,hh,hm,hj,fun m' fF=>hl _ (v8 mask h m') (c' m' fF)⟩
  ·rw[Qj z]at e
   obtain⟨h',m0,q1,q2,q3,q4⟩:=O.v7 x k hx e
   exact⟨h',m0,q1,q2,q3,fun m' fF=>hl _ (v8 mask h' m') (q4 m' fF)⟩
def ir.start(mask:Nat)(hs:List Int):ir mask hs (Array.replicate (mask+1) none) []:=by
 have g:∀ j,(Array.replicate (mask+1) (none:Option Nat)).getD j none=none:=fun j=>by
  rw[QI,Array.getElem?_replicate]
  split<;>rfl
 refine⟨Array.size_replicate,?_,fun j k _ e=>by rw[g]at e;cases e⟩
 have:fq mask (Array.replicate (mask+1) none)=[]:=by
  unfold fq
  exact List.filterMap_eq_nil_iff.mpr fun j _=>by rw[g];rfl
 rw[this]
 exact List.Perm.nil
def SJ(K:Mk mask)(hs:List Int)(room:hs.length<=mask):∃ ow js,layClean mask hs.toArray=some ow/\js.length=hs.length/\ir mask hs ow js:=by
 have key:∀ (r:List Int) (ow:ls) (js:List Nat),ir mask hs ow js->(∀ i h,r[i]? = some h->hs[js.length+i]? = some h)->js.length+r.length<=mask->
   ∃ yX wa,r.foldl (fun(acc:Option (ls×Nat)) h=>(do
    let (owner,k) <- acc
    let j <- layClean.free mask owner (turns mask) (bits h % (mask+1)) (bits h)
    pure (owner.setIfInBounds j (some k),k+1))) (some (ow,js.length))=some (yX,wa.length)/\wa.length=js.length+r.length/\ir mask hs yX wa:=by
  intro r
  induction r with
  | nil=>intro ow js O _ _;exact⟨ow,js,rfl,rfl,O⟩
  | cons h r ih=>
   intro ow js O e len
   rw[Zh]at len
   obtain⟨j,ej,O'⟩:=O.add K h (e 0 h rfl) (by omega)
   obtain⟨yX,wa,e1,e2,e3⟩:=ih _ (js++[j]) O' (fun i x hx=>by
    have:=e (i+1) x (by rw[ZC];exact hx)
    rw[Qo]
    show hs[js.length+1+i]? = some x
    rw[show js.length+1+i=js.length+(i+1)by omega]
    exact this) (by rw[Qo];show js.length+1+r.length<=mask;omega)
   refine⟨yX,wa,?_,by rw[e2,Qo];show js.length+1+r.length=js.length+(r.length+1);omega,e3⟩
   rw[V4]
   have:(do
    let (owner,k) <- some (ow,js.length)
    let j <- layClean.free mask owner (turns mask) (bits h % (mask+1)) (bits h)
    pure (owner.setIfInBounds j (some k),k+1):Option (ls×Nat))=some (ow.setIfInBounds j (some js.length),(js++[j]).length):=by
    show(layClean.free mask ow (turns mask) (bits h % (mask+1)) (bits h)).bind _=_
    rw[ej,Qo]
    rfl
   rw[this]
   exact e1
 obtain⟨ow,js,e1,e2,e3⟩:=key hs _ [] (ir.start mask hs) (fun i h e=>by rw[Jj,Yr];exact e) (by rw[Jj,Yr];exact room)
 refine⟨ow,js,?_,by rw[e2,Jj,Yr],e3⟩
 unfold layClean
 rw[List.foldl_toArray]
 have GO:=e1
 rw[Jj]at GO
 rw[GO]
 rfl
def SK(mask:Nat)(ow:ls):(fq mask ow).Pairwise fun a b=>a.1<b.1:=by
 unfold fq
 refine List.Pairwise.filterMap _ (fun a a' h b hb b' fU=>?_) List.pairwise_lt_range
 have e1:(ow.getD a none).map (a,·)=some b:=hb
 have e2:(ow.getD a' none).map (a',·)=some b':=fU
 obtain⟨_,_,rfl⟩:=Qw.mp e1
 obtain⟨_,_,rfl⟩:=Qw.mp e2
 exact h
def SM(K:Mk mask)(hs:List Int)(room:hs.length<=mask)(finger moves:Nat)(led plain:Bool):∃ (pl od:List Nat),laid mask finger moves led plain hs.toArray=some ({ mask,place:=pl.toArray,dummies:=#[],finger,led,moves,plain },od.toArray)/\od.Perm (List.range hs.length) /\
  fG { mask,place:=pl.toArray,dummies:=#[],finger,led,moves,plain } (od.map fun k=>hs.getD k 0):=by
 obtain⟨ow,js,e,hl,O⟩:=SJ K hs room
 have up:=SK mask ow
 have len:(fq mask ow).length=hs.length:=by rw[O.pm.length_eq,Vl,hl]
 refine⟨(fq mask ow).map (·.1),(fq mask ow).map (·.2),?_,?_,?_⟩
 ·unfold laid
  rw[e]
  rfl
 ·have:=O.pm.map (·.2)
  rw[List.zipIdx_map_snd,hl,<- Ug]at this
  exact this
 ·have get:∀ (i j:Nat),((fq mask ow).map (·.1)).toArray[i]? = some j->∃ k,(fq mask ow)[i]? = some (j,k):=fun i j h=>by
   rw[Je,Ql,Qw]at h
   obtain⟨⟨a,b⟩,h1,h2⟩:=h
   exact⟨b,by rw[h1];cases h2;rfl⟩
  have rs:Rs ((fq mask ow).map (·.1)).toArray:=fun a b my hb=>by
   rw[Qn,Qe]at hb
   have h1:((fq mask ow).map (·.1)).toArray[a]? = some ((fq mask ow)[a]'(by omega)).1:=by rw[Je,Ql,Qb (by omega)];rfl
   have h2:((fq mask ow).map (·.1)).toArray[b]? = some ((fq mask ow)[b]'hb).1:=by rw[Je,Ql,Qb hb];rfl
   rw[Ci h1,Ci h2]
   exact Jg.mp up a b (by omega) hb my
  have mem:∀ {i:Nat} {x:Nat×Nat},(fq mask ow)[i]? = some x->x∈fq mask ow:=fun h=>by
   obtain⟨hi,q⟩:=Qr.mp h
   rw[<- q];exact Q4 hi
  refine⟨?_,rs,rfl,K,fun i j h=>?_,?_,fun i j h hp hh=>?_⟩
  ·show((fq mask ow).map (·.1)).toArray.size=_
   rw[Qn,Qe,Qe,Qe]
  ·obtain⟨k,q⟩:=get i j h
   exact(yW.mp (mem q)).1
  ·rw[Qe,Qe,len];exact room
  ·obtain⟨k,q⟩:=get i j hp
   rw[Ql,Ql,q]at hh
   have SN:hs.getD k 0=h:=by cases hh;rfl
   obtain⟨jm,ek⟩:=yW.mp (mem q)
   obtain⟨h',m,q1,q2,q3,q4⟩:=O.v7 j k jm ek
   have:h'=h:=by rw[<- SN,Qf,q1];rfl
   subst this
   refine⟨m,q2,q3,fun m' fF=>?_⟩
   have rM:=q4 m' fF
   have SO:=v8 mask h' m'
   rw[v_ (by rw[O.sz];omega)]at rM
   cases c:ow.getD (aW mask (bE mask h') m').j none with
   | none=>rw[c]at rM;cases rM
   | some k'=>
    have mm:=yW.mpr ⟨SO,c⟩
    obtain⟨i',cS,qi⟩:=Zf mm
    refine⟨i',vZ rs ?_⟩
    show((fq mask ow).map (·.1)).toArray[i']? = some _
    rw[Je,Ql,Qb cS,qi]
    rfl
def GP:∀ n,n<512->(sizeAbove n-1=7/\n<8)\/(sizeAbove n-1=15/\8<=n/\n<16)\/(sizeAbove n-1=31/\16<=n/\n<32)\/(sizeAbove n-1=63/\32<=n/\n<64)\/(sizeAbove n-1=127/\64<=n/\n<128)\/(sizeAbove n-1=255/\128<=n/\n<256)\/(sizeAbove n-1=511/\256<=n/\n<512):=by decide +kernel
def SQ:Mk 15:=.of 15 rfl (by decide) (by decide +kernel) (by decide +kernel)
def SR:Mk 63:=.of 63 rfl (by decide) (by decide +kernel) (by decide +kernel)
def SS:Mk 255:=.of 255 rfl (by decide) (by decide +kernel) (by decide +kernel)
def GQ(h:n<512):Mk (sizeAbove n-1)/\n<=sizeAbove n-1:=by
 rcases GP n h with⟨e,a⟩|⟨e,_,a⟩|⟨e,_,a⟩|⟨e,_,a⟩|⟨e,_,a⟩|⟨e,_,a⟩|⟨e,_,a⟩<;>rw[e]
 ·exact⟨GH,by omega⟩
 ·exact⟨SQ,by omega⟩
 ·exact⟨Sy,by omega⟩
 ·exact⟨SR,by omega⟩
 ·exact⟨Sz,by omega⟩
 ·exact⟨SS,by omega⟩
 ·exact⟨SA,by omega⟩
section
variable {prog:Program}{w:World}{K:Type}[DecidableEq K]{knd:KeyKind prog w K}{A:Around}{E:Value->Shared->Prop}{s:Shared}
def SU(n:Nat){v:Value}(h:carriedByValue v=true):ofAClassStatement n v=pure false:=by
 cases v with
 | ref a=>simp[carriedByValue]at h
 | _=>first|rfl|simp[ofAClassStatement]|(unfold ofAClassStatement;rfl)
def GR{ks:List K}(n:Nat)(hk:IsTupleKey knd s.heap ks a)(h:Q false s):wpAny (model prog w) A (ofAClassStatement (n+1) (.ref a)) Q E s:=by
 have hT:=hk.typeIs
 obtain⟨o,items,k,ho,hc,hd,hi⟩:=hk
 unfold ofAClassStatement
 refine Qa (VX hT ?_)
 dsimp only
 rw[Qi (by decide)]
 refine Qa (Qc ?_)
 simp only[ZS,Qu,Zp]
 refine Qa (Vi ho hd ?_)
 dsimp only
 refine Qa ?_
 show wpAny _ _ (forIn items _ _) _ _ s
 rw[<- Array.forIn_toList]
 refine JY _ (fun bc r s'=>r.1=none/\s'=s/\∀ v∈bc,carriedByValue v=true) _ ?_ ?_ _ _ ⟨rfl,rfl,hi.byValue⟩
 ·rintro v bc r s' ⟨hr,rfl,dF⟩
  rw[SU _ (dF v Qk)]
  refine Qa (Qc ?_)
  simp only[Qu,Zp]
  exact Qc ⟨rfl,rfl,fun u qX=>dF u (Qh _ qX)⟩
 ·rintro ⟨r1,r2⟩ s' ⟨hr,rfl,_⟩
  simp only at hr
  subst hr
  exact Qc h
def SV{kx:List K}(hx:IsTupleKey knd s.heap kx bx)(l:List Value)(hl:∀ y∈l,∃ k b,y=.ref b/\IsTupleKey knd s.heap k b)(h:Q false s):wpAny (model prog w) A (searchCouldBeSeen (.ref bx) l) Q E s:=by
 unfold searchCouldBeSeen
 refine Qa ?_
 refine JY _ (fun bc r s'=>r.1=none/\s'=s/\∀ y∈bc,∃ k b,y=.ref b/\IsTupleKey knd s.heap k b) _ ?_ ?_ _ _ ⟨rfl,rfl,hl⟩
 ·rintro y bc r s' ⟨hr,rfl,dF⟩
  obtain⟨k,b,rfl,hb⟩:=dF y Qk
  have pY:∀ y∈bc,∃ k b,y=.ref b/\IsTupleKey knd s'.heap k b:=fun u hu=>dF u (Qh _ hu)
  dsimp only
  by_cases c:(bx==b||(carriedByValue (.ref bx)&&carriedByValue (.ref b)))=true
  ·rw[Qi c]
   exact Qc ⟨rfl,rfl,pY⟩
  ·rw[Qj c]
   refine Qa (wpAny_eqIsQuiet_tuple hx ?_)
   simp only[ZS,Qu,Zp]
   refine Qa (wpAny_eqIsQuiet_tuple hb ?_)
   simp only[ZS,Qu,Zp]
   refine Qa (GR 7 hx ?_)
   simp only[Qu,Zp]
   refine Qa (GR 7 hb ?_)
   simp only[Qu,Zp]
   exact Qc ⟨rfl,rfl,pY⟩
 ·rintro ⟨r1,r2⟩ s' ⟨hr,rfl,_⟩
  simp only at hr
  subst hr
  exact Qc h
structure dI (knd:KeyKind prog w K) (h:Heap) (es:Array (Int×Value)) (t:SetTable) (kl:List (List K)) (bs:List Addr):Prop where
 es:es.toList=(kl.zip bs).map fun x=>(tupleKeyHash knd x.1,Value.ref x.2)
 len:kl.length=bs.length
 is:∀ (i:Nat) (k:List K) (b:Addr),kl[i]? = some k->bs[i]? = some b->IsTupleKey knd h k b
 tb:fG t (kl.map (tupleKeyHash knd))
 nd:kl.Nodup
section
variable {es:Array (Int×Value)}{t:SetTable}{kl:List (List K)}{bs:List Addr}
def dI.size(S:dI knd h es t kl bs):es.size=kl.length:=by
 rw[<- QH,S.es,Qe,Z7,S.len,JC]
def dI.fits(S:dI knd h es t kl bs):t.fits es.size=true:=by
 unfold SetTable.fits SetTable.fill
 have e1:=S.tb.sz
 have e2:=S.tb.room
 have e3:=S.size
 rw[Qe]at e1 e2
 rw[S.tb.nd,e3,e1]
 simp
 exact e2
def dI.get(S:dI knd h es t kl bs){k:List K}(hk:kl[i]? = some k):∃ b,bs[i]? = some b/\es[i]? = some (tupleKeyHash knd k,Value.ref b)/\IsTupleKey knd h k b:=by
 obtain⟨hi,_⟩:=Qr.mp hk
 have hb:bs[i]? = some (bs[i]'(by rw[<- S.len];exact hi)):=Qb _
 refine⟨_,hb,?_,S.is i k _ hk hb⟩
 rw[<- QV,S.es,Ql,List.zip,Yx,hk,hb]
 rfl
def dI.of(S:dI knd h es t kl bs){x:Int×Value}(hx:es[i]? = some x):∃ k b,kl[i]? = some k/\x=(tupleKeyHash knd k,Value.ref b)/\IsTupleKey knd h k b:=by
 have hi:i<kl.length:=by rw[<- S.size];exact(Jd.mp hx).1
 obtain⟨b,_,e,q⟩:=S.get (Qb hi)
 rw[hx]at e
 exact⟨_,b,Qb hi,QC e,q⟩
def SW{kx:List K}{Q:SetFound->Shared->Prop}(hu:A.units<cLine)(ho:s.heap.get? a=some o)(hd:o.data=.set es ep t)(S:dI knd s.heap es t kl bs)(hx:IsTupleKey knd s.heap kx bx)
  {M:Nat} (hM:M<10*turns t.mask) (eM:t.slot (aW t.mask (bE t.mask (tupleKeyHash knd kx)) M).j=.empty) (bM:∀ m',m'<M->∃ i,t.slot (aW t.mask (bE t.mask (tupleKeyHash knd kx)) m').j=.live i)
  (q1:kx∈kl->Q (.there none) s) (q2:kx ∉ kl->Q (.free (aW t.mask (bE t.mask (tupleKeyHash knd kx)) M).j false) s) :
  ∀ (fuel m:Nat) (kh:Option Probe),kh.getD (t.probeStart (tupleKeyHash knd kx))=aW t.mask (bE t.mask (tupleKeyHash knd kx)) m->m<=M->M-m<fuel->
   (∀ m',m'<m->∀ i,t.slot (aW t.mask (bE t.mask (tupleKeyHash knd kx)) m').j=.live i->kl[i]? ≠ some kx)->wpAny (model prog w) A (setSearchFrom a (.ref bx) (tupleKeyHash knd kx) true fuel kh) Q E s:=by
 intro fuel
 induction fuel with
 | zero=>intro m kh _ _ h _;exact absurd h (Za _)
 | succ fuel ih=>
  intro m kh ff hm hf inv
  generalize hh:tupleKeyHash knd kx=h at *
  unfold setSearchFrom
  refine Qa (ZJ ho hd S.fits ?_)
  dsimp only
  have gw:t.gaveWay=false:=by
   unfold SetTable.gaveWay
   rw[S.tb.rd.odd]
   rfl
  rw[gw]
  simp only[Qu,Zp]
  rw[ff]
  have pn:(aW t.mask (bE t.mask h) m).dummy=none:=GI _ _ _ rfl
  have ex:∃ m1,m1<10*turns t.mask/\t.slot (aW t.mask (aW t.mask (bE t.mask h) m) m1).j=.empty:=⟨M-m,by omega,by rw[<- mz,show m+(M-m)=M by omega];exact eM⟩
  have key:∀ (hashAt:Nat->Int),(∀ i x,es[i]? = some x->hashAt i=x.1)->∃ met,t.probe hashAt h (aW t.mask (bE t.mask h) m)=some met/\((∃ j,met=.empty j none/\kx ∉ kl/\j=(aW t.mask (bE t.mask h) M).j)\/∃ m1 i k b,m+m1<M/\met=.candidate (aW t.mask (bE t.mask h) (m+m1)).j i (aW t.mask (bE t.mask h) (m+m1+1))/\t.slot (aW t.mask (bE t.mask h) (m+m1)).j=.live i/\kl[i]? = some k/\es[i]? = some (tupleKeyHash knd k,Value.ref b)/\IsTupleKey knd s.heap k b/\∀ m',m'<m+m1->∀ i,t.slot (aW t.mask (bE t.mask h) m').j=.live i->kl[i]? ≠ some kx):=by
   intro hashAt hA
   obtain⟨m1,h1,bf,c⟩:=GJ t hashAt h S.tb.rs S.tb.nd (10*turns t.mask) (aW t.mask (bE t.mask h) m) pn ex
   have mB:∀ m',m'<m+m1->∀ i,t.slot (aW t.mask (bE t.mask h) m').j=.live i->kl[i]? ≠ some kx:=fun m' fF i e z=>by
    by_cases l:m'<m
    ·exact inv m' l i e z
    ·obtain⟨i',e',ne⟩:=bf (m'-m) (by omega)
     rw[<- mz,show m+(m'-m)=m' by omega,e]at e'
     cases e'
     obtain⟨b,_,q,_⟩:=S.get z
     exact ne (by rw[hA i _ q];exact hh)
   rcases c with⟨e,g⟩|⟨i,e,eh,g⟩
   ·rw[<- mz]at e g
    have SX:m+m1=M:=by
     by_cases l:m+m1<M
     ·obtain⟨i,q⟩:=bM _ l
      rw[e]at q;cases q
     ·by_cases l2:M<m+m1
      ·obtain⟨i',e',_⟩:=bf (M-m) (by omega)
       rw[<- mz,show m+(M-m)=M by omega,eM]at e'
       cases e'
      ·omega
    refine⟨_,g,.inl ⟨_,rfl,fun z=>?_,by rw[SX]⟩⟩
    obtain⟨i,hi,q⟩:=Zf z
    have hk:kl[i]? = some kx:=by rw[Qb hi,q]
    have bX:t.place[i]? = some (t.place[i]'(by rw[S.tb.sz,Qe];exact hi)):=Q1 _
    obtain⟨m0,z1,z2,z3⟩:=S.tb.v7 i _ h bX (by rw[Ql,hk];exact Jb some hh)
    have lv:=vZ S.tb.rs bX
    rw[<- z2]at lv
    by_cases l:m0<M
    ·exact mB m0 (by omega) i lv hk
    ·by_cases l2:m0=M
     ·rw[l2,eM]at lv;cases lv
     ·obtain⟨i',q'⟩:=z3 M (by omega)
      rw[eM]at q';cases q'
   ·rw[<- mz]at e g
    have lt:m+m1<M:=by
     by_cases l:m+m1<M
     ·exact l
     ·by_cases l2:m+m1=M
      ·rw[l2,eM]at e;cases e
      ·obtain⟨i',e',_⟩:=bf (M-m) (by omega)
       rw[<- mz,show m+(M-m)=M by omega,eM]at e'
       cases e'
    have bX:∃ j,t.place[i]? = some j:=by
     rcases v5 S.tb.rs S.tb.nd (aW t.mask (bE t.mask h) (m+m1)).j with⟨i',a',b'⟩|⟨_,b'⟩
     ·rw[e]at b';cases b';exact⟨_,a'⟩
     ·rw[e]at b';cases b'
    obtain⟨j,hj⟩:=bX
    have hi:i<kl.length:=by
     have:=(Jd.mp hj).1
     rw[S.tb.sz,Qe]at this
     exact this
    obtain⟨b,_,q,r⟩:=S.get (Qb hi)
    refine⟨_,g,.inr ⟨m1,i,_,b,lt,?_,e,Qb hi,q,r,mB⟩⟩
    rw[<- mz]
    rfl
  obtain⟨met,pr,cs⟩:=key _ fun i x hx=>show(es[i]?.map (·.1)).getD 0=x.1 by rw[hx];rfl
  generalize hp:t.probe _ h (aW t.mask (bE t.mask h) m)=SY
  have GS:SY=some met:=by rw[<- hp];exact pr
  subst GS
  clear hp
  dsimp only
  rcases cs with⟨j,rfl,nk,rfl⟩|⟨m1,i,k,b,lt,rfl,lv,ek,ee,kb,mB⟩
  ·exact Qc (q2 nk)
  ·dsimp only
   have sm:t.sameMemory t.moves t.mask=some true:=by unfold SetTable.sameMemory;simp
   cases wb:t.led with
   | false=>
    simp only[Ul,ZD]
    refine Qa (SV hx _ (fun y hy=>?_) ?_)
    ·obtain⟨e,he,rfl⟩:=Qx.mp hy
     have vF:=(Array.mem_filter.mp (YM.mp he)).1
     obtain⟨i',cS,q⟩:=Um vF
     obtain⟨k',b',_,r1,r2⟩:=S.of (i:=i') (x:=e) (by rw[Q1 cS,q])
     exact⟨k',b',by rw[r1],r2⟩
    simp only[Qu,Zp]
    rw[ee]
    dsimp only
    refine Qa (QZ (wpAny_eqBool_tuple hu kb hx ?_))
    refine Qa (ZJ ho hd S.fits ?_)
    dsimp only
    by_cases c:k=kx
    ·rw[Qy c]
     simp only[Uu,ZD]
     exact Qc (q1 (by rw[<- c];exact QB ek))
    ·rw[QW c]
     simp only[Ue,Qu,Zp,sm,ZD,lv,ee]
     refine Qa (wpAny_isSame_ref_self ?_)
     simp only[ZD]
     refine Qa (Qc ?_)
     dsimp only
     exact ih (m+m1+1) (some (aW t.mask (bE t.mask h) (m+m1+1))) rfl (by omega) (by omega) fun m' fF i' e'=>by
      by_cases l:m'<m+m1
      ·exact mB m' l i' e'
      ·have:m'=m+m1:=by omega
       subst this
       rw[lv]at e'
       cases e'
       rw[ek]
       exact fun z=>c (QC z)
   | true=>
    simp only[ZS,Qu,Zp]
    rw[ee]
    dsimp only
    refine Qa (QZ (wpAny_eqBool_tuple hu kb hx ?_))
    refine Qa (ZJ ho hd S.fits ?_)
    dsimp only
    by_cases c:k=kx
    ·rw[Qy c]
     simp only[Uu,ZD]
     exact Qc (q1 (by rw[<- c];exact QB ek))
    ·rw[QW c]
     simp only[Ue,Qu,Zp,sm,ZD,lv,ee]
     refine Qa (wpAny_isSame_ref_self ?_)
     simp only[ZD]
     refine Qa (Qc ?_)
     dsimp only
     exact ih (m+m1+1) (some (aW t.mask (bE t.mask h) (m+m1+1))) rfl (by omega) (by omega) fun m' fF i' e'=>by
      by_cases l:m'<m+m1
      ·exact mB m' l i' e'
      ·have:m'=m+m1:=by omega
       subst this
       rw[lv]at e'
       cases e'
       rw[ek]
       exact fun z=>c (QC z)
end
end
section
variable {prog:Program}{w:World}{A:Around}{E:Value->Shared->Prop}{s:Shared}
def S0{x:List Int}{vs:List Value}(hx:ItemsAre (intKind prog w) x vs):∀ v∈vs,∃ i t,v=.int i t:=by
 induction hx with
 | nil=>intro v hv;simp at hv
 | @cons k v' ks vs h1 _ ih=>
  intro v hv
  rcases Qt.mp hv with rfl|hv
  ·obtain⟨t,rfl⟩:=Ym h1
   exact⟨_,_,rfl⟩
  ·exact ih v hv
theorem S2{ks:List Int}(n:Nat)(hk:IsTupleKey (intKind prog w) s.heap ks a)(h:Q true s):wpAny (model prog w) A (hashByValue (n+1) (.ref a)) Q E s:=by
 have hT:=hk.typeIs
 obtain⟨o,items,k,ho,hc,hd,hi⟩:=hk
 unfold hashByValue
 refine Qa (YV hT F.slot_tuple_hash.lookup ?_)
 dsimp only
 refine Qa (Vi ho hd ?_)
 refine Qa ?_
 show wpAny _ _ (forIn items _ _) _ _ s
 rw[<- Array.forIn_toList]
 refine JY _ (fun bc r s'=>r.1=none/\s'=s/\∀ v∈bc,∃ i t,v=.int i t) _ ?_ ?_ _ _ ⟨rfl,rfl,S0 hi⟩
 ·rintro v bc r s' ⟨hr,rfl,dF⟩
  obtain⟨i,t,rfl⟩:=dF v Qk
  have:hashByValue n (.int i t)=pure true:=by cases n<;>rfl
  rw[this]
  refine Qa (Qc ?_)
  simp only[ZS,Qu,Zp]
  exact Qc ⟨rfl,rfl,fun u qX=>dF u (Qh _ qX)⟩
 ·rintro ⟨r1,r2⟩ s' ⟨hr,rfl,_⟩
  simp only at hr
  subst hr
  exact Qc h
abbrev lu (prog:Program)(w:World):=dI (intKind prog w)
variable {es:Array (Int×Value)}{t:SetTable}{kl:List (List Int)}{bs:List Addr}
def dI.keep(S:lu prog w h es t kl bs)(ho:h.get? a=some o)(hd:o.data=.set es ep t)(sb:Heap.SameBut a h h'):∀ (i:Nat) (k:List Int) (b:Addr),kl[i]? = some k->bs[i]? = some b->IsTupleKey (intKind prog w) h' k b:=fun i k b x y=>pZ ho hd sb (S.is i k b x y)
where
 pZ {a:Addr} {o:Obj} {ep:Nat} {h h':Heap} {es:Array (Int×Value)} {t:SetTable} {k:List Int} {b:Addr} (ho:h.get? a=some o) (hd:o.data=.set es ep t) (sb:Heap.SameBut a h h') (x:IsTupleKey (intKind prog w) h k b):IsTupleKey (intKind prog w) h' k b:=by
  obtain⟨o',items,n,e_,hc,gV,hi⟩:=x
  have bH:b≠a:=by
   rintro rfl
   obtain rfl:o'=o:=QC (e_.symm.trans ho)
   rw[hd]at gV;exact nomatch gV
  exact⟨o',items,n,(sb.2 b bH).trans e_,hc,gV,hi⟩
def S3{α β:Type}{l:List α}{m:List β}(e:l.length=m.length)(p:Nat)(x:α)(y:β):(gM l p x).zip (gM m p y)=gM (l.zip m) p (x,y):=by
 unfold gM
 rw[V7 (by rw[Zm,Zm,e]),Yk]
 congr 1
 ·unfold List.zip;exact List.take_zipWith.symm
 ·congr 1
  unfold List.zip;exact List.drop_zipWith.symm
def GU{α β:Type}(f:α->β)(l:List α)(p:Nat)(x:α):(gM l p x).map f=gM (l.map f) p (f x):=by
 unfold gM
 rw[Zb,QK,List.map_take,List.map_drop]
def Cn{α:Type}(l:List α)(p:Nat)(x:α):(gM l p x).Perm (x::l):=by
 unfold gM
 have:=List.perm_middle (a:=x) (l₁:=l.take p) (l₂:=l.drop p)
 rw[Yv]at this
 exact this
def S4{α:Type}(xs:Array α)(p:Nat)(x:α):(insertAt xs p x).toList=gM xs.toList p x:=by
 unfold insertAt gM
 simp
 exact VZ (by rw[JX,QH];exact Qg _)
def dI.put(S:lu prog w h es t kl bs)(hx:IsTupleKey (intKind prog w) h kx bx)(nk:kx ∉ kl)(hm:m<10*turns t.mask)(em:t.slot (aW t.mask (bE t.mask (tupleKeyHash (intKind prog w) kx)) m).j=.empty)(bm:∀ m',m'<m->∃ i,t.slot (aW t.mask (bE t.mask (tupleKeyHash (intKind prog w) kx)) m').j=.live i)(hr:kl.length+1<=t.mask) :
  lu prog w h (insertAt es (t.put (aW t.mask (bE t.mask (tupleKeyHash (intKind prog w) kx)) m).j).2 (tupleKeyHash (intKind prog w) kx,.ref bx)) (t.put (aW t.mask (bE t.mask (tupleKeyHash (intKind prog w) kx)) m).j).1 (gM kl (t.put (aW t.mask (bE t.mask (tupleKeyHash (intKind prog w) kx)) m).j).2 kx) (gM bs (t.put (aW t.mask (bE t.mask (tupleKeyHash (intKind prog w) kx)) m).j).2 bx):=by
 obtain⟨p1,p2,p3⟩:=S.tb.put hm em bm (v8 _ _ _) (by rw[Qe];exact hr)
 generalize (aW t.mask (bE t.mask (tupleKeyHash (intKind prog w) kx)) m).j=j at *
 rw[Qe]at p1
 generalize (t.put j).2=p at *
 have pm:=Cn kl p kx
 refine⟨?_,?_,fun i k b x y=>?_,?_,?_⟩
 ·rw[S4,S.es,S3 S.len,GU]
 ·rw[rL,rL,S.len]
 ·rw[Cj kl p kx p1]at x
  rw[Cj bs p bx (by rw[<- S.len];exact p1)]at y
  by_cases h1:i<p
  ·rw[Qi h1]at x y;exact S.is i k b x y
  ·rw[Qj h1]at x y
   by_cases h2:i=p
   ·rw[Qi h2]at x y;cases x;cases y;exact hx
   ·rw[Qj h2]at x y;exact S.is _ k b x y
 ·rw[GU];exact p3
 ·exact pm.nodup_iff.mpr (Q9.mpr ⟨nk,S.nd⟩)
end
section
variable {prog:Program}{w:World}{A:Around}{E:Value->Shared->Prop}{s:Shared}
variable {es:Array (Int×Value)}{t:SetTable}{kl:List (List Int)}{bs:List Addr}
def dI.hashes(S:lu prog w h es t kl bs):es.map (·.1)=(kl.map (tupleKeyHash (intKind prog w))).toArray:=by
 apply Vm
 rw[VQ,S.es,Q7]
 have:∀ (l:List (List Int)) (m:List Addr),l.length=m.length->(l.zip m).map ((fun x:Int×Value=>x.1) ∘ fun x=>(tupleKeyHash (intKind prog w) x.1,Value.ref x.2))=l.map (tupleKeyHash (intKind prog w)):=by
  intro l
  induction l with
  | nil=>intro m _;rfl
  | cons a l ih=>
   intro m hm
   cases m with
   | nil=>cases hm
   | cons b m=>rw[Yk,QK,QK,ih m (by simpa using hm)];rfl
 exact this kl bs S.len
def GV{α:Type}{l:List α}{od:List Nat}(d:α)(h:od.Perm (List.range l.length)):(od.map fun k=>l.getD k d).Perm l:=by
 have h1:=h.map fun k=>l.getD k d
 have h2:(List.range l.length).map (fun k=>l.getD k d)=l:=by
  apply ZI
  intro i
  by_cases hi:i<l.length
  ·rw[Ql,Zq hi,Qb hi]
   show some (l.getD i d)=_
   rw[Qf,Qb hi]
   rfl
  ·rw[Q2 (by rw[Qe,QP];omega),Q2 (by omega)]
 rw[h2]at h1
 exact h1
def dI.relaid(S:lu prog w h es t kl bs)(hn:n<512)(hl:kl.length<=n):∃ (t':SetTable) (od:List Nat),t.relaid (es.map (·.1)) n=some (t',od.toArray)/\t'.led=t.led/\t'.plain=t.plain/\t'.mask=sizeAbove n-1/\(∀ k∈od,k<es.size)/\od.length=kl.length /\
  lu prog w h (od.toArray.filterMap fun i=>es[i]?) t' (od.map fun k=>kl.getD k []) (od.map fun k=>bs.getD k 0)/\(od.map fun k=>kl.getD k []).Perm kl:=by
 obtain⟨mk,ln⟩:=GQ hn
 obtain⟨pl,od,e,pm,T⟩:=SM mk (kl.map (tupleKeyHash (intKind prog w))) (by rw[Qe];omega) t.finger (t.movedTo (sizeAbove n-1)) t.led t.plain
 rw[Qe]at pm
 have sz:=S.size
 have lt:∀ k∈od,k<kl.length:=fun k hk=>QJ.mp (pm.mem_iff.mp hk)
 refine⟨{ mask:=sizeAbove n-1,place:=pl.toArray,dummies:=#[],finger:=t.finger,led:=t.led,moves:=t.movedTo (sizeAbove n-1),plain:=t.plain },od,by rw[S.hashes];exact e,rfl,rfl,rfl,fun k hk=>by rw[sz];exact lt k hk,by rw[pm.length_eq,QP],?_,GV [] pm⟩
 have lb:∀ k∈od,k<bs.length:=fun k hk=>by rw[<- S.len];exact lt k hk
 refine⟨?_,by rw[Qe,Qe],fun i k b x y=>?_,?_,(GV [] pm).nodup_iff.mpr S.nd⟩
 ·have e1:(od.toArray.filterMap fun i=>es[i]?).toList=od.filterMap fun i=>es.toList[i]?:=by
   rw[V0]
   exact Cm fun i _=>(QV).symm
  rw[e1,S.es]
  have:∀ (o:List Nat),(∀ k∈o,k<kl.length)->o.filterMap (fun i=>((kl.zip bs).map fun x=>(tupleKeyHash (intKind prog w) x.1,Value.ref x.2))[i]?)=((o.map fun k=>kl.getD k []).zip (o.map fun k=>bs.getD k 0)).map fun x=>(tupleKeyHash (intKind prog w) x.1,Value.ref x.2):=by
   intro o
   induction o with
   | nil=>intro _;rfl
   | cons k o ih=>
    intro h
    have hk:=h k Qk
    have hb:k<bs.length:=by rw[<- S.len];exact hk
    have g:((kl.zip bs).map fun x=>(tupleKeyHash (intKind prog w) x.1,Value.ref x.2))[k]? = some (tupleKeyHash (intKind prog w) (kl.getD k []),Value.ref (bs.getD k 0)):=by
     rw[Ql,List.zip,Yx,Qb hk,Qb hb,Qf,Qb hk,Qf,Qb hb]
     rfl
    rw[Jt g,ih fun j hj=>h j (Qh _ hj)]
    rfl
  exact this od lt
 ·rw[Ql,Qw]at x y
  obtain⟨j,q1,q2⟩:=x
  obtain⟨j',q3,q4⟩:=y
  rw[q1]at q3
  cases q3
  have hj:=lt j (QB q1)
  have hb:=lb j (QB q1)
  rw[Qf,Qb hj]at q2
  rw[Qf,Qb hb]at q4
  exact S.is j k b (by rw[Qb hj];exact Jb some q2) (by rw[Qb hb];exact Jb some q4)
 ·have:(od.map fun k=>kl.getD k []).map (tupleKeyHash (intKind prog w))=od.map fun k=>(kl.map (tupleKeyHash (intKind prog w))).getD k 0:=by
   rw[Q7]
   refine Q5 fun k hk=>?_
   have hj:=lt k hk
   show tupleKeyHash (intKind prog w) (kl.getD k [])=_
   rw[Qf,Qb hj,Qf,Ql,Qb hj]
   rfl
  rw[this]
  exact T
def dI.move{S5:Nat}{e0:Array (Int×Value)}{t0:SetTable}(S:lu prog w h es t kl bs)(ho:h.get? a=some o)(hd:o.data=.set e0 S5 t0)(sb:Heap.SameBut a h h'):lu prog w h' es t kl bs:=
 ⟨S.es,S.len,fun i k b x y=>dI.keep.pZ ho hd sb (S.is i k b x y),S.tb,S.nd⟩
structure rN (prog:Program) (w:World) (h:Heap) (o:Obj) (ep:Nat) (led:Bool) (kl:List (List Int)) (es:Array (Int×Value)) (t:SetTable) (bs:List Addr):Prop where
 d:o.data=.set es ep t
 S:lu prog w h es t kl bs
 pl:t.plain=true
 ld:t.led=led
 rm:kl.length*5<t.mask*3
def S6{Q:Unit->Shared->Prop}(ho:s.heap.get? a=some o)(hd:o.data=.set es ep t)(S:lu prog w s.heap es t kl bs)(hn:n<512)(hl:kl.length<=n)(h4:kl.length*4<=n)(h0:0<n)
  (h:∀ h' je t' iL oY,Heap.SameBut a s.heap h'->h'.get? a=some { o with data:=.set je (ep+1) t' }->lu prog w h' je t' iL oY->iL.Perm kl->t'.plain=t.plain->t'.led=t.led->iL.length*5<t'.mask*3->(∀ b∈oY,b∈bs)->Q () { s with heap:=h' }) :
  wpAny (model prog w) A (setRelay a n) Q E s:=by
 obtain⟨t',od,e,ld,pl,mk,lt,len,S',pm⟩:=S.relaid hn hl
 have ln:=(GQ hn).2
 unfold setRelay
 refine Qa (ZJ ho hd S.fits ?_)
 dsimp only
 have sl:¬ sizeAbove n > sizeLine:=by
  rw[Z1]
  rcases GP n hn with⟨e,_⟩|⟨e,_⟩|⟨e,_⟩|⟨e,_⟩|⟨e,_⟩|⟨e,_⟩|⟨e,_⟩<;>omega
 rw[Qj sl,e]
 have GW:(od.toArray.filterMap fun i=>es[i]?).size=es.size:=by
  rw[S'.size,Qe,len,S.size]
 refine Qa (show wpAny _ _ (do
  if(od.toArray.filterMap fun i=>es[i]?).size != es.size then unsupported "internal:set-table-lost-an-element"
  pure ((od.toArray.filterMap fun i=>es[i]?),t')) _ _ _ from ?_)
 rw[GW]
 simp only[JM,Qu,Zp]
 refine Qc ?_
 dsimp only
 have sb:=QT s.heap a (Obj.putSet (od.toArray.filterMap fun i=>es[i]?) t')
 have hz:(od.toArray.filterMap fun i=>es[i]?).size<=sizeLine:=by rw[GW,S.size,Z1];omega
 refine Yt ho hd (h _ _ t' _ _ sb ?_ (S'.move ho hd sb) pm pl ld ?_ fun b hb=>?_) hz
 ·have:=Zk (Obj.putSet (od.toArray.filterMap fun i=>es[i]?) t') ho (by rw[YG _ _ hd];rfl)
  rw[YG _ _ hd]at this
  exact this
 ·rw[Qe,len,mk]
  omega
 ·obtain⟨k,hk,rfl⟩:=Qx.mp hb
  have:=lt k hk
  rw[S.size,S.len]at this
  rw[Qf,Qb this]
  exact Q4 this
def S7{led:Bool}{Q:Bool->Shared->Prop}(hu:A.units<cLine)(ho:s.heap.get? a=some o)(So:rN prog w s.heap o ep led kl es t bs)(hx:IsTupleKey (intKind prog w) s.heap kx bx)(dO:kl.length<=100)
  (h:∀ h' iO iL je t' oY r,Heap.SameBut a s.heap h'->h'.get? a=some { o with data:=.set je iO t' }->rN prog w h' { o with data:=.set je iO t' } iO led iL je t' oY->iL.Perm (if kx∈kl then kl else kx::kl)->(∀ b∈oY,b=bx\/b∈bs)->Q r { s with heap:=h' }) :
  wpAny (model prog w) A (setAddHashed a (.ref bx) (tupleKeyHash (intKind prog w) kx)) Q E s:=by
 obtain⟨hd,S,pl,ld,rm⟩:=So
 obtain⟨M,hM,eM,bM⟩:=S.tb.met (tupleKeyHash (intKind prog w) kx)
 have odd:=S.tb.rd.odd
 have S8:=S.tb.rd.dO
 unfold setAddHashed setAddHashedIn
 refine QZ (Qa (ZJ ho hd S.fits ?_))
 dsimp only
 have ns:byScan (.ref bx) es=false:=rfl
 rw[ns]
 simp only[Qu,Zp]
 refine Qa (SW (M:=M) hu ho hd S hx hM eM bM (fun iV=>?_) (fun nk=>?_) 100000 0 none rfl (QS _) (by unfold turns at hM;omega) fun _ z=>absurd z (Za _))
 ·dsimp only
  have e:s={ s with heap:=s.heap }:=by cases s;rfl
  refine Qc ?_
  rw[e]
  have eo:({ o with data:=.set es ep t }:Obj)=o:=by obtain⟨c,d,dt,sl⟩:=o;simp only at hd;subst hd;rfl
  refine h s.heap ep kl es t bs _ (VC a s.heap) (by rw[eo];exact ho) ⟨rfl,S,pl,ld,rm⟩ ?_ fun b hb=>.inr hb
  rw[Qi iV]
 ·dsimp only
  refine Qa (ZJ ho hd S.fits ?_)
  dsimp only
  have Sp:=S.put hx nk hM eM bM (by omega)
  generalize hj:(aW t.mask (bE t.mask (tupleKeyHash (intKind prog w) kx)) M).j=j at *
  have wc:(t.put j).1.plain=true:=pl
  have GX:(t.put j).1.led=led:=ld
  have mk':(t.put j).1.mask=t.mask:=rfl
  have S_:(t.put j).1.fill=kl.length+1:=by
   unfold SetTable.fill
   rw[Sp.tb.sz,Sp.tb.nd,Qe,rL]
   rfl
  rw[wc]
  simp only[ZD]
  refine Qa (S2 7 hx ?_)
  simp only[ZD]
  have GY:=Cn kl (t.put j).2 kx
  generalize hes:insertAt es (t.put j).2 (tupleKeyHash (intKind prog w) kx,Value.ref bx)=p6 at *
  generalize ht1:(t.put j).1=t1 at *
  have hz:p6.size<=sizeLine:=by rw[Sp.size,rL,Z1];omega
  refine Qa (Yt ho hd ?_ hz)
  have sb:=QT s.heap a (Obj.putSet p6 t1)
  have t5:(s.heap.update a (Obj.putSet p6 t1)).get? a=some { o with data:=.set p6 (ep+1) t1 }:=by
   have:=Zk (Obj.putSet p6 t1) ho (by rw[YG _ _ hd];rfl)
   rw[YG _ _ hd]at this
   exact this
  have S1:=Sp.move ho hd sb
  have bI:∀ b∈gM bs (t.put j).2 bx,b=bx\/b∈bs:=fun b hb=>Qt.mp ((Cn bs (t.put j).2 bx).mem_iff.mp hb)
  have kT:(gM kl (t.put j).2 kx).length=kl.length+1:=rL _ _ _
  cases t6:t1.tooFull with
  | false=>
   simp only[Ul,VG,Qu,Zp]
   refine Qc (h _ (ep+1) _ p6 t1 _ _ sb t5 ⟨rfl,S1,wc,GX,?_⟩ (by rw[Qj nk];exact GY) bI)
   unfold SetTable.tooFull at t6
   rw[S_]at t6
   rw[kT]
   have:=of_decide_eq_false t6
   omega
  | true=>
   simp only[Ul,VG,ZD]
   have g4:SetTable.grown (es.size+1)=(kl.length+1)*4:=by
    unfold SetTable.grown
    rw[S.size,Qj (by omega)]
   rw[g4]
   refine Qa (S6 (s:={ s with heap:=_ }) t5 rfl S1 (by omega) (by rw[kT];omega) (by rw[kT];omega) (by omega) fun h' je t' iL oY vG kR S' Ta BK Tb Tc Td=>?_)
   exact Qc (h h' _ iL je t' oY _ (sb.trans vG) kR ⟨rfl,S',BK.trans wc,Tb.trans GX,Tc⟩ (by rw[Qj nk];exact Ta.trans GY) fun b hb=>bI b (Td b hb))
end
end L3
namespace L3
open PySem PySem.Spec PyProof.Rows PySem.W L2
variable {Q:Value->Shared->Prop}{ad:Nat->Addr}{h:Heap}{i:Nat}{kl:List (List Int)}
abbrev mC (es:Array (Int×Value))(ep:Nat)(t:SetTable):Obj:={ cls:=.type "set",dict:=none,data:=.set es ep t }
section
variable {prog:Program}{w:World}{A:Around}{R:Result->Shared->Prop}{I:Addr}{fp wr:List Addr}{G:Array GenState->Array GenState->Prop}{n:Nat}{P:Nat->Value->Prop}{St:Nat->Shared->Prop}
def rO (prog:Program)(w:World)(led:Bool)(S:Addr)(ad:Nat->Addr)(n:Nat)(h:Heap)(kl:List (List Int)):Prop:=∃ es ep t bs,h.get? S=some (mC es ep t)/\rN prog w h (mC es ep t) ep led kl es t bs/\∀ b∈bs,∃ j,j<n/\b=ad j
def rO.go{led:Bool}{S:Addr}{h':Heap}(H:rO prog w led S ad n h kl)(hS:∀ o,h.get? S=some o->h'.get? S=some o)(hA:∀ j,j<n->∀ o,h.get? (ad j)=some o->h'.get? (ad j)=some o):rO prog w led S ad n h' kl:=by
 obtain⟨es,ep,t,bs,g,⟨d,T,pl,ld,rm⟩,hb⟩:=H
 refine⟨es,ep,t,bs,hS _ g,⟨d,⟨T.es,T.len,fun i k b x y=>?_,T.tb,T.nd⟩,pl,ld,rm⟩,hb⟩
 obtain⟨o,items,m,ho,hc,hd,hi⟩:=T.is i k b x y
 obtain⟨j,hj,rfl⟩:=hb b (QB y)
 exact⟨o,items,m,hA j hj o ho,hc,hd,hi⟩
def Te(W:WalksS prog w A.in1 I fp wr G n P St)(hu:A.in1.units<cLine)(S:Addr)(we:S ∉ fp)(led:Bool)(hn:n<=100)
  (val:Nat->List Int) (ad:Nat->Addr) (iu:∀ i v,P i v->v=.ref (ad i)) (bH:∀ i,i<n->ad i≠S/\ad i ∉ wr) :
  ∀ (k i:Nat) (s:Shared) (kl:List (List Int)),n-i=k->i<=n->St i s->(∀ j,j<n->IsTupleKey (intKind prog w) s.heap (val j) (ad j))->rO prog w led S ad n s.heap kl->kl.length<=i->(∀ x,x∈kl ↔ ∃ j,j<i/\val j=x)->
   (∀ s' iL,Moved (S::wr) G s s'->rO prog w led S ad n s'.heap iL->(∀ x,x∈iL ↔ ∃ j,j<n/\val j=x)->R (.ok (.ret .none)) s')->
   codeAny (model prog w) A (.builtin "set.update.loop" ⟨[.ref S,.ref I],[]⟩) R s:=by
 have wg:S ∉ wr:=fun h=>we (W.sub _ h)
 have bO:∀ b∈wr,b∈S::wr:=fun b hb=>Qh _ hb
 have tk:∀ {h h':Heap} {k:List Int} {b:Addr},(∀ o,h.get? b=some o->h'.get? b=some o)->IsTupleKey (intKind prog w) h k b->IsTupleKey (intKind prog w) h' k b:=fun q ⟨o,items,m,ho,hc,hd,hi⟩=>⟨o,items,m,q o ho,hc,hd,hi⟩
 intro k
 induction k with
 | zero=>
  intro i s kl hk hi ff hT hS hl hm hR
  have iV:i=n:=by omega
  subst iV
  refine ZA ZG ?_
  rw[ZF Zg _]
  show wpAny _ A.in1 (pyNext (.ref I) >>= _) _ _ s
  refine Qa (W.done s _ _ ff fun s' p7=>?_)
  show wpAny _ A.in1 (ret Value.none) _ _ s'
  exact Qc (hR s' kl (p7.mono bO) (hS.go (fun o e=>p7.heap S o wg e) fun j hj o e=>p7.heap _ o (bH j hj).2 e) hm)
 | succ k ih=>
  intro i s kl hk hi ff hT hS hl hm hR
  have bL:i<n:=by omega
  refine ZA ZG ?_
  rw[ZF Zg _]
  show wpAny _ A.in1 (pyNext (.ref I) >>= _) _ _ s
  refine Qa (W.item i s _ _ bL ff fun v s' hP oV p7=>?_)
  have hv:=iu i v hP
  subst hv
  have Co:∀ j,j<n->IsTupleKey (intKind prog w) s'.heap (val j) (ad j):=fun j hj=>tk (fun o e=>p7.heap _ o (bH j hj).2 e) (hT j hj)
  obtain⟨es,ep,t,bs,g,So,hb⟩:=hS.go (fun o e=>p7.heap S o wg e) fun j hj o e=>p7.heap _ o (bH j hj).2 e
  show wpAny _ A.in1 (holding [Value.ref (ad i)] (setAdd S (.ref (ad i))) >>= _) _ _ s'
  refine Qa (QZ ?_)
  unfold setAdd
  refine QZ ?_
  refine Qa (wpAny_pyHash_tuple hu (Co i bL) ?_)
  refine S7 (s:={ s' with toks:=s'.toks+((val i).length+1) }) hu g So (Co i bL) (by omega) fun h' iO iL je t' oY r oZ Cp Tf pm Cq=>?_
  have Tg:∀ j,j<n->IsTupleKey (intKind prog w) h' (val j) (ad j):=fun j hj=>tk (fun o e=>by rw[oZ.2 _ (bH j hj).1];exact e) (Co j hj)
  have mem:∀ x,x∈iL ↔ ∃ j,j<i+1/\val j=x:=fun x=>by
   rw[pm.mem_iff]
   have ax:x∈(if val i∈kl then kl else val i::kl) ↔ x=val i\/x∈kl:=by
    by_cases c:val i∈kl
    ·rw[Qi c]
     exact⟨.inr,fun z=>z.elim (fun y=>y ▸ c) id⟩
    ·rw[Qj c];exact Qt
   rw[ax,hm x]
   constructor
   ·rintro (rfl|⟨j,a,b⟩)
    ·exact⟨i,by omega,rfl⟩
    ·exact⟨j,by omega,b⟩
   ·rintro ⟨j,a,b⟩
    by_cases c:j=i
    ·subst c;exact .inl b.symm
    ·exact .inr ⟨j,by omega,b⟩
  have len:iL.length<=i+1:=by
   have e:=pm.length_eq
   by_cases c:val i∈kl
   ·rw[Qi c]at e;omega
   ·rw[Qj c,Zh]at e;omega
  refine Qc ⟨YK Zg _,ih (i+1) _ iL (by omega) bL (W.frame _ s' _ _ oV (YC _ _) fun b fU o e=>?_) Tg ⟨je,iO,t',oY,Cp,Tf,fun b fU=>?_⟩ len mem fun nr Cr rP rQ mm=>?_⟩
  ·rw[oZ.2 b (fun h:b=S=>we (by rw[<- h];exact fU))];exact e
  ·rcases Cq b fU with rfl|z
   ·exact⟨i,bL,rfl⟩
   ·exact hb b z
  ·refine hR nr Cr (Moved.trans W.gtrans ((p7.mono bO).then_heap (YC _ _) fun b o fU e=>?_) rP) rQ mm
   rw[oZ.2 b (fun h:b=S=>fU (by rw[h];exact Qk))];exact e
end
section
variable {prog:Program}{w:World}{A:Around}{E:Value->Shared->Prop}{s:Shared}
set_option maxHeartbeats 3200000 in
def Th{t:Addr}{us:List Value}{ks:List (List Int)}(hA:A.handled=none)(hu:A.in1.in1.in1.units<cLine)(ht:s.heap.IsList t us.toArray)(hlen:us.length=ks.length)(hk:∀ (i:Nat) (v:Value),us[i]? = some v->v=.ref (ad i))(t7:∀ i,i<ks.length->IsTupleKey (intKind prog w) s.heap (ks.getD i []) (ad i))(rR:ks.length<=100)
  (q:∀ (h':Heap) (tk:Nat) kl,rO prog w (!cb w) s.heap.objs.size ad ks.length h' kl->(∀ x,x∈kl ↔ ∃ j,j<ks.length/\ks.getD j []=x)->(∀ b o,b<s.heap.objs.size->s.heap.get? b=some o->h'.get? b=some o)->Q (.ref s.heap.objs.size) { s with heap:=h',toks:=tk }) :
  wpAny (model prog w) A (call (.type "set") [.ref t]) Q E s:=by
 have c1:=QX.made
 have c2:=QX.sub
 obtain⟨cc,tl,c3⟩:=QX.mro
 have c4:=QX.notType
 have c5:=QX.canCreate
 have c6:=V1 (.ref t)
 refine Ve (YZ (show wpAny _ _ (callAny (.type "set") _) _ _ _ from Qc ⟨Yi _ (by decide +kernel),ZA VR ?_⟩))
 rw[Around.under_plain (weight_type_call_type "set" [.ref t] []) rfl]
 repeat (any_goals (first|assumption|wp_step))
 refine Jl (Sl (.ref t) (E:=E) (Q₁:=fun ob s1=>ob=.ref s.heap.objs.size/\s1={ s with heap:=s.heap.push (so 0 (fun _=>0) 0 (!cb w)) }) ⟨rfl,rfl⟩) fun r s1 hr=>?_
 cases r with
 | error e=>exact hr
 | ok fl=>
  cases fl with
  | ret ob=>
   obtain⟨rfl,rfl⟩:=hr
   have g0:(s.heap.push (so 0 (fun _=>0) 0 (!cb w))).get? s.heap.objs.size=some (so 0 (fun _=>0) 0 (!cb w)):=Qp _ rfl
   have g1:Shared.TypeIs { s with heap:=s.heap.push (so 0 (fun _=>0) 0 (!cb w)) } (.ref s.heap.objs.size) "set":=⟨_,g0,rfl⟩
   have g2:=QX.init.lookup
   have g3:=QX.init.bind (.ref s.heap.objs.size)
   repeat (any_goals (first|assumption|wp_step))
   refine Jl (Z2 (R:=wants (fun r s2=>r=.none/\∃ h' tk kl,s2={ s with heap:=h',toks:=tk }/\rO prog w (!cb w) s.heap.objs.size ad ks.length h' kl/\(∀ x,x∈kl ↔ ∃ j,j<ks.length/\ks.getD j []=x)/\(∀ b o,b<s.heap.objs.size->s.heap.get? b=some o->h'.get? b=some o)) E)
    QX.init.plain V2 (check_set_init_1 g1 ?_)) fun r2 s2 rS=>?_
   ·obtain⟨ol,iK,j_,nl,wj⟩:=ht
    obtain⟨oc,od,Ti,lS⟩:=ol
    simp only at j_ wj
    subst j_ wj
    have rT:(s.heap.push (so 0 (fun _=>0) 0 (!cb w))).get? t=some _:=Qd _ iK
    have n1:=Uo
    have n2:=Vn
    have n3:(Value.type "list" == Value.type "dict")=false:=by decide
    have tt:(s.heap.push (so 0 (fun _=>0) 0 (!cb w))).IsList t us.toArray:=⟨_,rT,rfl,nl,rfl⟩
    unfold Builtin.«set.__init__» noKeywords Builtin.Frozenset.updateFrom
    generalize Cs:pyIter=PI
    wp_walk
    subst Cs
    refine VA tt (Qa (Uh ?_))
    have lt:=Qm iK
    have e1:(s.heap.push (so 0 (fun _=>0) 0 (!cb w))).objs.size=s.heap.objs.size+1:=ZM ..
    have sz:us.toArray.size=ks.length:=by rw[Qn,hlen]
    have iu:∀ (i:Nat) (v:Value),us.toArray[i]? = some v->v=.ref (ad i):=fun i v hv=>hk i v (by rw[<- hv];simp)
    have alt:∀ i,i<us.toArray.size->ad i<s.heap.objs.size:=fun i hi=>by
     rw[sz]at hi
     obtain⟨o,_,_,ho,_⟩:=t7 i hi
     exact Qm ho
    refine Te (n:=us.toArray.size) ((Walks.list (A:=A.in1.in1.in1) (by simp[hA]) _ t (by rw[e1];exact Qz (Zi lt)) us.toArray).toS) hu s.heap.objs.size (by rw[e1];simp only[Qt,QG,YO,not_or];exact⟨Qz (Zn _),Y8 lt⟩) (!cb w) (by rw[sz];exact rR) (fun i=>ks.getD i []) ad iu (fun i hi=>⟨Qz (alt i hi),by rw[e1];simp only[Qt,QG,YO];exact Qz (Zi (alt i hi))⟩) (us.toArray.size-0) 0 _ [] (by omega) (QS _) ⟨⟨_,Qp _ rfl,rfl,rfl⟩,tt.push _⟩ (fun j hj=>?Tj) ?Ct (QS _) (fun x=>⟨fun z=>(QG z).elim,fun⟨j,z,_⟩=>absurd z (Za _)⟩) ?Cu
    case Tj=>
     rw[sz]at hj
     obtain⟨o,items,m,ho,hc,hd,hi⟩:=t7 j hj
     exact⟨o,items,m,Qd _ (Qd _ ho),hc,hd,hi⟩
    case Ct=>
     refine⟨#[],0,.fresh 0 0 (!cb w),[],Qd _ (g0.trans (Jb some (Gn _))),⟨rfl,⟨rfl,rfl,fun i k b x _=>by simp at x,fG.fresh _ _ _,JR⟩,rfl,rfl,by show 0*5<7*3;decide⟩,fun b hb=>(QG hb).elim⟩
    case Cu=>
     intro s' iL hm hS mm
     rw[sz]at hS mm
     obtain⟨h',g',d',vq,uO⟩:=s'
     cases (show g'=s.gens from hm.gens)
     cases (show d'=s.drawn from hm.drawn)
     cases (show uO=s.os from hm.os)
     refine Qc (show wpAny _ _ (ret Value.none) _ _ _ from Qc ⟨rfl,h',vq,iL,rfl,hS,mm,fun c o hc e=>hm.heap c o ?_ (Qd _ (Qd _ e))⟩)
     rw[e1]
     simp only[Qt,QG,YO,not_or]
     exact⟨Qz hc,Qz (Zi hc)⟩
   ·cases r2 with
    | error e=>exact rS
    | ok Cv=>
     cases Cv with
     | ret r=>
      obtain⟨rfl,h',tk,iL,rfl,hS,mm,kp⟩:=rS
      repeat (any_goals (first|assumption|wp_step))
      exact q _ _ _ hS mm kp
     | _=>exact rS.elim
  | _=>exact hr.elim
end
def Tn{xs:Array Nat}(r:Rs xs)(hi:i<=xs.size):SetTable.below xs (if i=0 then 0 else xs.getD (i-1) 0+1)=i:=by
 by_cases h0:i=0
 ·subst h0
  rw[Qi rfl]
  obtain⟨a,b,c⟩:=vY r 0
  by_cases z:SetTable.below xs 0=0
  ·exact z
  ·exact absurd (b 0 (by omega)) (Za _)
 ·rw[Qj h0]
  obtain⟨a,b,c⟩:=vY r (xs.getD (i-1) 0+1)
  generalize SetTable.below xs (xs.getD (i-1) 0+1)=q at *
  by_cases l:q<i
  ·have h1:=c (i-1) (by omega) (by omega)
   omega
  ·by_cases l2:i<q
   ·have h1:=b i l2
    have h2:=r (i-1) i (by omega) (by omega)
    omega
   ·omega
structure t8 (w:World) (es:Array (Int×Value)) (t:SetTable):Prop where
 ft:t.fits es.size=true
 pl:t.plain=true
 ld:t.led = !cb w
 rs:Rs t.place
 sz:t.place.size=es.size
def rN.gd{prog:Program}{w:World}{o:Obj}{ep:Nat}{es:Array (Int×Value)}{t:SetTable}{bs:List Addr}(S:rN prog w h o ep (!cb w) kl es t bs):t8 w es t:=
 ⟨S.S.fits,S.pl,S.ld,S.S.tb.rs,by rw[S.S.tb.sz,Qe,S.S.size]⟩
def jr (w:World)(a:Addr)(es:Array (Int×Value))(ep:Nat):Array (Int×Value):=if cb w then pickOrder (w.params.setOrder a ep) es else es
def ly (w:World)(t:SetTable)(i:Nat):Nat:=if cb w then 0 else if i=0 then 0 else t.place.getD (i-1) 0+1
def GZ(w:World)(a:Addr)(es:Array (Int×Value))(ep:Nat):(jr w a es ep).toList.Perm es.toList:=by
 unfold jr
 split
 ·exact Gr _ _
 ·exact .rfl
def yY(w:World)(a:Addr)(es:Array (Int×Value))(ep:Nat):(jr w a es ep).size=es.size:=by
 rw[<- QH,(GZ w a es ep).length_eq,QH]
section
variable {prog:Program}{w:World}{A:Around}{E:Value->Shared->Prop}{s:Shared}{a I:Addr}{ep:Nat}{es:Array (Int×Value)}{t:SetTable}
def rV{Q:(Array (Int×Value)×Nat×SetTable)->Shared->Prop}(hm:t8 w es t)(ho:s.heap.get? a=some (mC es ep t))(h:Q (es,ep,t) s):wpAny (model prog w) A (setState a) Q E s:=
 ZJ ho rfl hm.ft h
def To(hm:t8 w es t)(ho:s.heap.get? a=some (mC es ep t))
  (hQ:Q (.ref s.heap.objs.size) { s with heap:=s.heap.push (io a 0 0 es.size ep) }):wpAny (model prog w) A (pyIter (.ref a)) Q E s:=by
 have hT:s.TypeIs (.ref a) "set":=⟨_,ho,rfl⟩
 refine JN hT JK (Q3 JK hT Gs ?_ (VS _))
 unfold Builtin.«frozenset.__iter__» Builtin.Frozenset.slot0 slotArgs
 simp only[List.isEmpty_nil,ZS,Qu,↓reduceIte,bind_assoc,Jj,JM]
 unfold Builtin.Frozenset.addrOf Builtin.Frozenset.sizeOf
 refine Qa (Qc ?_)
 try dsimp only
 refine Qa (Qc ?_)
 have mD:∀ {R:Array (Int×Value)->Shared->Prop},R es s->wpAny (model prog w) A.in1 (setEntries a) R E s:=fun h=>by
  unfold setEntries;exact Qa (rV hm ho (Qc h))
 refine Qa (Qa (mD (Qc ?_)))
 have Cw:∀ {R:Bool->Shared->Prop},R false s->wpAny (model prog w) A.in1 (setDrawn a) R E s:=fun h=>by
  unfold setDrawn
  refine Qa (rV hm ho (Qa (tZ (Qc ?_))))
  have e:(!cb w&&(!t.plain&&decide (es.size > 1)))=false:=by rw[hm.pl];cases cb w<;>rfl
  exact e ▸ h
 refine Qa (Cw ?_)
 simp only[Qu,↓reduceIte]
 refine Qa (Qc ?_)
 have Cy:∀ {R:Nat->Shared->Prop},R ep s->wpAny (model prog w) A.in1 (setEpoch a) R E s:=fun h=>by
  unfold setEpoch;exact Qa (rV hm ho (Qc h))
 refine Qa (Cy ?_)
 unfold newFields
 refine Qa (Zd (Qc ⟨_,rfl,"set_iterator",_,⟨_,Qp _ rfl,rfl⟩,ll.lookup,?_⟩))
 exact hQ
def G0{R:Option (Value×Nat)->Shared->Prop}(hm:t8 w es t)(hi:i<=es.size)(ho:s.heap.get? a=some (mC es ep t))
  (h:R (((jr w a es ep)[i]?).map fun e=>(e.2,ly w t (i+1))) s):wpAny (model prog w) A (setNext a (ly w t i) i ep) R E s:=by
 unfold setNext
 refine Qa (rV hm ho (Qa (tZ ?_)))
 dsimp only
 cases hb:cb w with
 | true=>
  rw[Qi rfl]
  rw[Qj (by simp)]
  refine Qa (m:=setWalk a) ?_
  unfold setWalk
  refine Qa (rV hm ho (Qa (tZ ?_)))
  rw[hb,Qi rfl]
  refine Qa (JZ (Qc (Qc ?_)))
  unfold jr ly at h
  rw[hb]at h
  simp only[↓reduceIte]at h
  unfold ly
  rw[hb,Qi rfl]
  exact h
 | false=>
  rw[Qj (by simp)]
  have lt:t.led=true:=by rw[hm.ld,hb];rfl
  refine(show wpAny _ _ (if((!t.plain&&decide (es.size > 1))=true)then _ else _) _ _ _ from ?_)
  rw[Qj (show ¬ ((!t.plain&&decide (es.size > 1))=true)from by rw[hm.pl];simp)]
  refine Qa (show wpAny _ _ (if((!t.led && !es.isEmpty)=true)then unsupported "set:maker-not-led" else pure ()) _ _ _ from ?_)
  rw[Qj (show ¬ ((!t.led && !es.isEmpty)=true)from by rw[lt];simp)]
  refine Qc ?_
  unfold jr ly at h
  rw[hb]at h
  simp only[Qu,↓reduceIte,Ut,Vo]at h
  unfold ly
  rw[hb]
  simp only[Qu,↓reduceIte]
  refine Qc ?_
  rw[Tn hm.rs (by rw[hm.sz];exact hi)]
  rcases J1 i es.size with bL|Cz
  ·have e1:es[i]? = some es[i]:=Q1 bL
   have e2:t.place[i]? = some (t.place.getD i 0):=yV (by rw[hm.sz];exact bL)
   rw[e1]at h ⊢
   rw[e2]
   exact h
  ·have e1:es[i]? = none:=Zo Cz
   rw[e1]at h ⊢
   exact h
def Tp(hh:A.handled=none)(bH:a≠I)(hm:t8 w es t):Walks prog w A I [I,a] [I] es.size (fun i v=>∃ e,(jr w a es ep)[i]? = some e/\v=e.2)
  (fun i h=>h.get? I=some (io a (ly w t i) i es.size ep)/\h.get? a=some (mC es ep t)) where
 sub:=fun b hb=>by simp at hb;simp[hb]
 frame:=fun _ _ _ st hk=>⟨hk I (by simp) _ st.1,hk a (by simp) _ st.2⟩
 self:=fun i s Q E st hQ=>by
  have hT:s.TypeIs (.ref I) "set_iterator":=⟨_,st.1,rfl⟩
  refine JN hT yR (Q3 yR hT Gv ?_ (Gu _))
  show wpAny _ _ (ret (.ref I)) _ _ s
  exact Qc ⟨_,rfl,"set_iterator",_,hT,ll.lookup,hQ⟩
 item:=fun i s Q E hi st hQ=>by
  have hT:s.TypeIs (.ref I) "set_iterator":=⟨_,st.1,rfl⟩
  unfold pyNext
  refine Qa (Js (Zv (name:=Str.ofString "__next__") hT ll (Q3 ll hT yP ?_ (yQ _))))
  unfold Builtin.«set_iterator.__next__»
  refine Qa (Qc ?_)
  refine Qa (JT st.1 rfl ?_)
  show wpAny _ _ (setEntries a >>= _) _ _ _
  have mD:∀ {R:Array (Int×Value)->Shared->Prop} {E:Value->Shared->Prop},R es s->wpAny (model prog w) A.in1 (setEntries a) R E s:=fun h=>by
   unfold setEntries;exact Qa (rV hm st.2 (Qc h))
  refine Qa (mD ?_)
  dsimp only
  rw[Qj (by simp)]
  show wpAny _ _ (setNext a (ly w t i) i ep >>= _) _ _ _
  refine Qa (G0 hm (ZN hi) st.2 ?_)
  have ew:(jr w a es ep)[i]? = some ((jr w a es ep)[i]'(by rw[yY];exact hi)):=Q1 (by rw[yY];exact hi)
  rw[ew]
  show wpAny _ _ (setField (.ref I) 0 (rawInt (ly w t (i+1))) >>= _) _ _ _
  refine Qa (wpAny_setField_rec st.1 (by simp) fun h1 g1 b1=>?_)
  refine Qa (wpAny_setField_rec (s:={ s with heap:=h1 }) g1 (by simp) fun h2 g2 b2=>?_)
  refine Qc ⟨_,rfl,Qc (hQ _ h2 s.toks ⟨_,ew,rfl⟩ ⟨?_,?_⟩ fun b o hb e=>?_)⟩
  ·rw[g2];simp[io,rawInt]
  ·have n1:=(b1.2 a bH);have n2:=(b2.2 a bH)
   rw[n2,n1];exact st.2
  ·have fU:b≠I:=fun h=>hb (by simp[h])
   rw[b2.2 b fU,b1.2 b fU];exact e
 done:=fun s Q E st hQ=>by
  have hT:s.TypeIs (.ref I) "set_iterator":=⟨_,st.1,rfl⟩
  unfold pyNext
  refine Qa (Js (Zv (name:=Str.ofString "__next__") hT ll (Q3 ll hT yP ?_ (yQ _))))
  unfold Builtin.«set_iterator.__next__»
  refine Qa (Qc ?_)
  refine Qa (JT st.1 rfl ?_)
  show wpAny _ _ (setEntries a >>= _) _ _ _
  have mD:∀ {R:Array (Int×Value)->Shared->Prop} {E:Value->Shared->Prop},R es s->wpAny (model prog w) A.in1 (setEntries a) R E s:=fun h=>by
   unfold setEntries;exact Qa (rV hm st.2 (Qc h))
  refine Qa (mD ?_)
  dsimp only
  rw[Qj (by simp)]
  show wpAny _ _ (setNext a (ly w t es.size) es.size ep >>= _) _ _ _
  refine Qa (G0 hm (Qg _) st.2 ?_)
  have ew:(jr w a es ep)[es.size]? = none:=Zo (by rw[yY];exact Qg _)
  rw[ew]
  show wpAny _ _ (setField (.ref I) 2 .none >>= _) _ _ _
  refine Qa (wpAny_setField_rec st.1 (by simp) fun h1 g1 b1=>?_)
  show wpAny _ _ (newExc (.type "StopIteration") [] >>= _) _ _ _
  refine Qa ?_
  simp only[newExc,newTuple]
  refine Qa (Zd ?_ (by size_fits))
  refine Qa (m:=firstArgMember _ _) (YN (a:=Value.none) (by first|rfl|(simp only[firstArgMember];rfl)) ?_)
  refine Zd ?_ (by size_fits)
  simp only[raiseNew]
  refine Qa (VE ?_)
  rw[show A.in1.handled=none from hh]
  refine Qa (Qc (Uj ?_))
  refine Qa (J0 (T:="StopIteration") (b:=true) ⟨_,Qp _ rfl,rfl⟩ Uq ?_)
  refine Qc (hQ _ s.toks fun b o hb e=>?_)
  have fU:b≠I:=fun h=>hb (by simp[h])
  exact Qd _ (Qd _ (by rw[b1.2 b fU];exact e))
def Tq(hm:t8 w es t):KdlSrc prog w "set" a a es.size (fun i v=>∃ e,(jr w a es ep)[i]? = some e/\v=e.2) (fun h=>h.get? a=some (mC es ep t)) where
 type:=fun _ h=>⟨_,h,rfl⟩
 there:=fun _ h=>⟨Qm h,Qm h⟩
 keep:=fun _ _ h hk=>hk a (.inl rfl) _ h
 notList:=by decide
 notTuple:=by decide
 hint:=fun _ _ _ _ h hq=>Gw ⟨_,h,rfl⟩ hq
 iter:=fun A s hh h=>⟨io a 0 0 es.size ep,_,(fun _ _ hq=>To hm h hq),Tp hh (Qz (Qm h)) hm,⟨by rw[show ly w t 0=0 by unfold ly;split<;>rfl];exact Qp _ rfl,Qd _ h⟩⟩
end
end L3
namespace L3
open PySem PySem.W PyProof.Rows
variable {Q:Bool->Shared->Prop}{a:Addr}{h:Heap}{i j n aO:Nat}{ks:List (Nat×Nat)}{p p0:Array Nat}{vs:List Value}{x:Nat×Nat}
def bb {α:Type}(lt:Nat->Nat->Bool):KasT α->α
 | .ret a=>a
 | .ask i j k=>bb lt (k (lt i j))
def o7{α β:Type}(lt:Nat->Nat->Bool)(f:α->KasT β):∀ t:KasT α,bb lt (t.bind f)=bb lt (f (bb lt t))
 | .ret _=>rfl
 | .ask i j k=>o7 lt f (k (lt i j))
variable {r:Nat->Int}
abbrev cJ (r:Nat->Int)(i j:Nat):Bool:=decide (r i<r j)
abbrev xv (r:Nat->Int)(p:Array Nat)(i:Nat):Int:=r (p.getD i 0)
def CA(p:Array Nat):∀ (f n:Nat),n<=bb (cJ r) (kas_asc p f n)/\bb (cJ r) (kas_asc p f n)<=n+f/\(∀ k,n<=k->k<bb (cJ r) (kas_asc p f n)->xv r p (k-1)<=xv r p k)/\(bb (cJ r) (kas_asc p f n)<n+f->xv r p (bb (cJ r) (kas_asc p f n))<xv r p (bb (cJ r) (kas_asc p f n)-1))
 | 0,n=>⟨Qg _,Qg _,fun k a b=>absurd (ZP a b) (Q6 _),fun h=>absurd h (Q6 _)⟩
 | f+1,n=>by
  have e:bb (cJ r) (kas_asc p (f+1) n)=if xv r p n<xv r p (n-1)then n else bb (cJ r) (kas_asc p f (n+1)):=by
   show bb (cJ r) (if decide (r (p.getD n 0)<r (p.getD (n-1) 0))=true then KasT.ret n else kas_asc p f (n+1))=_
   by_cases c:xv r p n<xv r p (n-1)
   ·rw[Qi c,Qi (Qy c)];rfl
   ·rw[Qj c,Qj (by rw[Zx];exact c)]
  rw[e]
  by_cases c:xv r p n<xv r p (n-1)
  ·rw[Qi c]
   exact⟨Qg _,by omega,fun k a b=>by omega,fun _=>c⟩
  ·rw[Qj c]
   obtain⟨h1,h2,h3,h4⟩:=CA p f (n+1)
   refine⟨by omega,by omega,fun k a b=>?_,fun h=>h4 (by omega)⟩
   by_cases z:k=n
   ·subst z;omega
   ·exact h3 k (by omega) b
def wm{x:Nat->Int}(h:∀ k,1<=k->k<n->x (k-1)<=x k):∀ (i j:Nat),i<=j->j<n->x i<=x j:=by
 intro i j
 induction j with
 | zero=>
  intro a _
  have:i=0:=by omega
  subst this
  exact YS _
 | succ j ih=>
  intro a b
  by_cases z:i=j+1
  ·subst z;exact YS _
  ·exact V3 (ih (by omega) (by omega)) (h (j+1) (by omega) b)
def CB(hj:j<=p.size)(k:Nat):xv r (kas_rev p i j) k=if i<=k/\k<j then xv r p (i+j-1-k)else xv r p k:=by
 unfold kas_rev
 show r ((mirror p i j ((j-i) / 2)).getD k 0)=_
 rw[QI,getElem?_mirror_all hj k]
 split
 ·rw[<- QI]
 ·rw[<- QI]
def p_(p:Array Nat)(i j:Nat):(kas_rev p i j).Perm p:=mirror_perm _ _ _ _
def CC(hj:j<=p.size)(h:∀ k,i<=k->k<j->xv r p k=xv r p (j-1))(k:Nat):xv r (kas_rev p i j) k=xv r p k:=by
 rw[CB hj]
 split
 next c=>
  rw[h (i+j-1-k) (by omega) (by omega),h k c.1 c.2]
 ·rfl
structure Dn (r:Nat->Int) (p0 p:Array Nat) (n q:Nat):Prop where
 pm:p.Perm p0
 le:n<=p0.size
 q1:q<n
 dn:∀ k,1<=k->k<n->xv r p k<=xv r p (k-1)
 eq:∀ k,n-(q+1)<=k->k<n->xv r p k=xv r p (n-1)
def yZ:∀ (f:Nat) (p:Array Nat) (n q:Nat),Dn r p0 p n q->n+f<=p0.size->∃ p' n' q',bb (cJ r) (kas_desc f p n q)=(p',n',q')/\Dn r p0 p' n' q'/\n<=n'/\n'<=n+f
 | 0,p,n,q,h,_=>⟨p,n,q,rfl,h,Qg _,Qg _⟩
 | f+1,p,n,q,h,hf=>by
  have sz:p.size=p0.size:=h.pm.size_eq
  have hq:=h.q1
  have e:bb (cJ r) (kas_desc (f+1) p n q)=if xv r p n<xv r p (n-1)then(if q > 0 then bb (cJ r) (kas_desc f (kas_rev p (n-(q+1)) n) (n+1) 0)else bb (cJ r) (kas_desc f p (n+1) 0))else if xv r p (n-1)<xv r p n then(p,n,q)else bb (cJ r) (kas_desc f p (n+1) (q+1)):=by
   show bb (cJ r) (if decide (r (p.getD n 0)<r (p.getD (n-1) 0))=true then(if q > 0 then kas_desc f (kas_rev p (n-(q+1)) n) (n+1) 0 else kas_desc f p (n+1) 0)else KasT.ask (p.getD (n-1) 0) (p.getD n 0) fun d=>if d=true then KasT.ret (p,n,q)else kas_desc f p (n+1) (q+1))=_
   by_cases c:xv r p n<xv r p (n-1)
   ·rw[Qi c,Qi (Qy c)]
    split<;>rfl
   ·rw[Qj c,Qj (by rw[Zx];exact c)]
    show bb (cJ r) (if decide (r (p.getD (n-1) 0)<r (p.getD n 0))=true then KasT.ret (p,n,q)else kas_desc f p (n+1) (q+1))=_
    by_cases d:xv r p (n-1)<xv r p n
    ·rw[Qi d,Qi (Qy d)];rfl
    ·rw[Qj d,Qj (by rw[Zx];exact d)]
  rw[e]
  by_cases c:xv r p n<xv r p (n-1)
  ·rw[Qi c]
   have step:∀ p1:Array Nat,p1.Perm p0->(∀ k,xv r p1 k=xv r p k)->Dn r p0 p1 (n+1) 0:=fun p1 pm ex=>by
    refine⟨pm,by omega,by omega,fun k a b=>?_,fun k a b=>by rw[show k=n+1-1 by omega]⟩
    rw[ex,ex]
    by_cases z:k=n
    ·subst z;omega
    ·exact h.dn k a (by omega)
   by_cases d:q > 0
   ·rw[Qi d]
    obtain⟨p',n',q',e1,e2,e3,e4⟩:=yZ f _ (n+1) 0 (step _ ((p_ _ _ _).trans h.pm) fun k=>CC (by omega) h.eq k) (by omega)
    exact⟨p',n',q',e1,e2,by omega,by omega⟩
   ·rw[Qj d]
    obtain⟨p',n',q',e1,e2,e3,e4⟩:=yZ f _ (n+1) 0 (step p h.pm fun _=>rfl) (by omega)
    exact⟨p',n',q',e1,e2,by omega,by omega⟩
  ·rw[Qj c]
   by_cases d:xv r p (n-1)<xv r p n
   ·rw[Qi d]
    exact⟨p,n,q,rfl,h,Qg _,by omega⟩
   ·rw[Qj d]
    have en:xv r p n=xv r p (n-1):=by omega
    obtain⟨p',n',q',e1,e2,e3,e4⟩:=yZ f p (n+1) (q+1) ⟨h.pm,by omega,by omega,fun k a b=>by
     by_cases z:k=n
     ·subst z;omega
     ·exact h.dn k a (by omega),fun k a b=>by
     rw[show n+1-1=n by omega]
     by_cases z:k=n
     ·rw[z]
     ·rw[h.eq k (by omega) (by omega),en]⟩ (by omega)
    exact⟨p',n',q',e1,e2,by omega,by omega⟩
structure Up (r:Nat->Int) (p0 p:Array Nat) (n:Nat):Prop where
 pm:p.Perm p0
 n1:1<=n
 le:n<=p0.size
 up:∀ k,1<=k->k<n->xv r p (k-1)<=xv r p k
def G1{q:Nat}(h:Dn r p0 p n q)(hn:aO=p0.size):∃ m p',bb (cJ r) (kas_tail3 n aO p)=(m,p')/\Up r p0 p' m:=by
 have sz:p.size=p0.size:=h.pm.size_eq
 have hl:=h.le
 have hq:=h.q1
 unfold kas_tail3
 rw[o7]
 obtain⟨h1,h2,h3,_⟩:=CA (r:=r) (kas_rev p 0 n) (aO-n) n
 refine⟨_,_,rfl,(p_ _ _ _).trans h.pm,by omega,by omega,fun k a b=>?_⟩
 by_cases z:k<n
 ·rw[CB (by omega),CB (by omega),Qi ⟨by omega,by omega⟩,Qi ⟨by omega,z⟩]
  have:=h.dn (0+n-1-(k-1)) (by omega) (by omega)
  rw[show 0+n-1-(k-1)-1=0+n-1-k by omega]at this
  exact this
 ·exact h3 k (by omega) b
def G2(h:Dn r p0 p (n+1) 0)(hn:aO=p0.size):∃ m p',bb (cJ r) (kas_descPart n aO p)=(m,p')/\Up r p0 p' m:=by
 have hl:=h.le
 unfold kas_descPart
 rw[o7]
 obtain⟨p',n',q',e,d,a,b⟩:=yZ (aO-(n+1)) p (n+1) 0 h (by omega)
 rw[e]
 show ∃ m Tr,bb (cJ r) (if q' > 0 then kas_tail3 n' aO (kas_rev p' (n'-(q'+1)) n')else kas_tail3 n' aO p')=(m,Tr)/\_
 have sz:p'.size=p0.size:=d.pm.size_eq
 have iP:=d.le
 by_cases c:q' > 0
 ·rw[Qi c]
  have ex:∀ k,xv r (kas_rev p' (n'-(q'+1)) n') k=xv r p' k:=fun k=>CC (by omega) d.eq k
  exact G1 (q:=q') ⟨(p_ _ _ _).trans d.pm,d.le,d.q1,fun k a b=>by rw[ex,ex];exact d.dn k a b,fun k a b=>by rw[ex,ex];exact d.eq k a b⟩ hn
 ·rw[Qj c]
  exact G1 d hn
def Ts(h1:1<=p0.size):∃ m p',bb (cJ r) (kas_count p0.size p0)=(m,p')/\Up r p0 p' m:=by
 unfold kas_count
 rw[o7]
 obtain⟨a,b,c,d⟩:=CA (r:=r) p0 (p0.size-1) 1
 generalize bb (cJ r) (kas_asc p0 (p0.size-1) 1)=n at *
 show ∃ m p',bb (cJ r) (if(n==p0.size)=true then KasT.ret (n,p0)else if n > 1 then KasT.ask (p0.getD 0 0) (p0.getD (n-1) 0) fun c=>if c=true then KasT.ret (n,p0)else kas_descPart n p0.size (kas_rev p0 0 n)else kas_descPart n p0.size p0)=(m,p')/\_
 by_cases z:n=p0.size
 ·rw[Qi (by rw[ZE];exact z)]
  exact⟨n,p0,rfl,V8 _,a,by omega,c⟩
 ·rw[Qj (by rw[ZE];exact z)]
  have lt:=d (by omega)
  by_cases y:n > 1
  ·rw[Qi y]
   show ∃ m p',bb (cJ r) (if decide (r (p0.getD 0 0)<r (p0.getD (n-1) 0))=true then KasT.ret (n,p0)else kas_descPart n p0.size (kas_rev p0 0 n))=(m,p')/\_
   by_cases x:xv r p0 0<xv r p0 (n-1)
   ·rw[Qi (Qy x)]
    exact⟨n,p0,rfl,V8 _,a,by omega,c⟩
   ·rw[Qj (by rw[Zx];exact x)]
    have same:∀ k,0<=k->k<n->xv r p0 k=xv r p0 (n-1):=fun k _ hk=>by
     have l1:=wm c 0 k (QS _) hk
     have l2:=wm c k (n-1) (by omega) (by omega)
     omega
    have ex:∀ k,xv r (kas_rev p0 0 n) k=xv r p0 k:=fun k=>CC (by omega) same k
    refine G2 ⟨p_ _ _ _,by omega,by omega,fun k q1 q2=>?_,fun k q1 q2=>by rw[show k=n+1-1 by omega]⟩ rfl
    rw[ex,ex]
    by_cases w:k=n
    ·subst w;omega
    ·rw[same k (QS _) (by omega),same (k-1) (QS _) (by omega)]
     exact YS _
  ·rw[Qj y]
   have n1:n=1:=by omega
   subst n1
   refine G2 ⟨V8 _,by omega,by omega,fun k q1 q2=>?_,fun k q1 q2=>by rw[show k=1+1-1 by omega]⟩ rfl
   rw[show k=1 by omega]
   omega
variable {r:Nat->Int}
def CD{k:Nat}(up:∀ j,1<=j->j<k->xv r p (j-1)<=xv r p j):∀ (f l u:Nat),u-l<=f->l<=u->u<=k->(∀ i,i<l->xv r p i<=xv r p k)->(∀ i,u<=i->i<k->xv r p k<xv r p i)->
  bb (cJ r) (kas_place p k f l u)<=k/\(∀ i,i<bb (cJ r) (kas_place p k f l u)->xv r p i<=xv r p k)/\(∀ i,bb (cJ r) (kas_place p k f l u)<=i->i<k->xv r p k<xv r p i)
 | 0,l,u,hf,hl,hu,h1,h2=>⟨by show l<=k;omega,h1,fun i a b=>h2 i (by have:l<=i:=a;omega) b⟩
 | f+1,l,u,hf,hl,hu,h1,h2=>by
  have e:bb (cJ r) (kas_place p k (f+1) l u)=if l ≥ u then l else if xv r p k<xv r p ((l+u) / 2)then bb (cJ r) (kas_place p k f l ((l+u) / 2))else bb (cJ r) (kas_place p k f ((l+u) / 2+1) u):=by
   show bb (cJ r) (if l ≥ u then KasT.ret l else KasT.ask (p.getD k 0) (p.getD ((l+u) / 2) 0) fun c=>if c=true then kas_place p k f l ((l+u) / 2)else kas_place p k f ((l+u) / 2+1) u)=_
   by_cases c:l ≥ u
   ·rw[Qi c,Qi c];rfl
   ·rw[Qj c,Qj c]
    show bb (cJ r) (if decide (r (p.getD k 0)<r (p.getD ((l+u) / 2) 0))=true then kas_place p k f l ((l+u) / 2)else kas_place p k f ((l+u) / 2+1) u)=_
    by_cases d:xv r p k<xv r p ((l+u) / 2)
    ·rw[Qi d,Qi (Qy d)]
    ·rw[Qj d,Qj (by rw[Zx];exact d)]
  rw[e]
  by_cases c:l ≥ u
  ·rw[Qi c]
   exact⟨by omega,h1,fun i a b=>h2 i (by omega) b⟩
  ·rw[Qj c]
   by_cases d:xv r p k<xv r p ((l+u) / 2)
   ·rw[Qi d]
    refine CD up f l _ (by omega) (by omega) (by omega) h1 fun i a b=>?_
    exact Int.lt_of_lt_of_le d (wm up _ i a b)
   ·rw[Qj d]
    refine CD up f _ u (by omega) (by omega) hu (fun i a=>?_) h2
    have:=wm up i ((l+u) / 2) (by omega) (by omega)
    omega
def Tt{k d:Nat}(hk:k<p.size)(hd:d<=k)(j:Nat):xv r (bubble p k d) j=if j=k-d then xv r p k else if k-d<j/\j<=k then xv r p (j-1)else xv r p j:=by
 show r ((bubble p k d).getD j 0)=_
 rw[QI,getElem?_bubble hk d hd j]
 split
 ·rw[<- QI]
 ·split
  ·rw[<- QI]
  ·rw[<- QI]
def G3:∀ (f:Nat) (p:Array Nat) (k:Nat),Up r p0 p k->k+f=p0.size->Up r p0 (bb (cJ r) (kas_bin f p k)) p0.size
 | 0,p,k,h,hk=>by
  have:k=p0.size:=by omega
  subst this
  exact h
 | f+1,p,k,h,hk=>by
  have sz:p.size=p0.size:=h.pm.size_eq
  have h1:=h.n1
  have ke:k<p.size:=by omega
  obtain⟨a,b,c⟩:=CD (r:=r) (p:=p) (k:=k) h.up k 0 k (by omega) (QS _) (Qg _) (fun _ z=>absurd z (Za _)) (fun i a b=>by omega)
  have e:bb (cJ r) (kas_bin (f+1) p k)=bb (cJ r) (kas_bin f (bubble p k (k-bb (cJ r) (kas_place p k k 0 k))) (k+1)):=o7 _ _ _
  rw[e]
  generalize bb (cJ r) (kas_place p k k 0 k)=l at *
  refine G3 f _ (k+1) ⟨(bubble_perm _ _ _).trans h.pm,by omega,by omega,fun j q1 q2=>?_⟩ (by omega)
  have x:∀ j,xv r (bubble p k (k-l)) j=if j=l then xv r p k else if l<j/\j<=k then xv r p (j-1)else xv r p j:=fun j=>by
   rw[Tt ke (by omega),show k-(k-l)=l by omega]
  rw[x,x]
  by_cases z:j=l
  ·subst z
   rw[Qj (by omega),Qj (by omega),Qi rfl]
   exact b (j-1) (by omega)
  ·rw[Qj z]
   by_cases y:j-1=l
   ·rw[Qi y,Qi ⟨by omega,by omega⟩]
    rw[y]
    exact Int.le_of_lt (c l (Qg _) (by omega))
   ·rw[Qj y]
    by_cases w:l<j
    ·rw[Qi ⟨by omega,by omega⟩,Qi ⟨w,by omega⟩]
     exact h.up (j-1) (by omega) (by omega)
    ·rw[Qj (by omega),Qj (by omega)]
     exact h.up j q1 (by omega)
def Tu(hn:1<=n):(bb (cJ r) (kas_sort n)).Perm (List.toArray (List.range n))/\∀ i j,i<=j->j<n->xv r (bb (cJ r) (kas_sort n)) i<=xv r (bb (cJ r) (kas_sort n)) j:=by
 have s0:(List.toArray (List.range n)).size=n:=by rw[Qn,QP]
 obtain⟨m,p,e,h⟩:=Ts (r:=r) (p0:=List.toArray (List.range n)) (by omega)
 rw[s0]at e
 have e2:bb (cJ r) (kas_sort n)=bb (cJ r) (if m<n then kas_bin (n-max m 1) p (max m 1)else KasT.ret p):=by
  unfold kas_sort
  rw[o7,e]
 have h1:=h.n1
 have hl:=h.le
 rw[s0]at hl
 have up:Up r (List.toArray (List.range n)) (bb (cJ r) (kas_sort n)) (List.toArray (List.range n)).size:=by
  rw[e2]
  by_cases c:m<n
  ·rw[Qi c,show max m 1=m by omega]
   exact G3 _ _ _ h (by omega)
  ·rw[Qj c]
   have:m=(List.toArray (List.range n)).size:=by omega
   rw[<- this]
   exact h
 refine⟨up.pm,fun i j a b=>wm up.up i j a (by rw[s0];exact b)⟩
def gN {α:Type}(lt:Nat->Nat->Bool)(n:Nat):KasT α->Prop
 | .ret _=>True
 | .ask i j k=>i<n/\j<n/\gN lt n (k (lt i j))
def t_{α β:Type}{lt:Nat->Nat->Bool}{f:α->KasT β}:∀ {t:KasT α},gN lt n t->gN lt n (f (bb lt t))->gN lt n (t.bind f)
 | .ret _,_,h=>h
 | .ask _ _ _,h,h'=>⟨h.1,h.2.1,t_ h.2.2 h'⟩
def Vp (n:Nat)(p:Array Nat):Prop:=∀ k,p.getD k 0<n
def Vp.pm{q:Array Nat}(h:Vp n q)(h0:0<n)(e:p.Perm q):Vp n p:=fun k=>by
 by_cases c:k<p.size
 ·have m:p[k]∈q:=e.mem_iff.mp (VB c)
  obtain⟨j,hj,q'⟩:=Um m
  have:p.getD k 0=p[k]:=by unfold Array.getD;rw[Us c];rfl
  rw[this,<- q']
  have:=h j
  unfold Array.getD at this
  rw[Us hj]at this
  exact this
 ·unfold Array.getD
  rw[dif_neg c]
  exact h0
variable {lt:Nat->Nat->Bool}{n:Nat}
def CF(v:Vp n p):∀ f m,gN lt n (kas_asc p f m)
 | 0,_=>trivial
 | f+1,m=>⟨v _,v _,by
  show gN lt n (if lt (p.getD m 0) (p.getD (m-1) 0)=true then KasT.ret m else kas_asc p f (m+1))
  split
  ·trivial
  ·exact CF v f (m+1)⟩
def y6(h0:0<n):∀ (f:Nat) (p:Array Nat) (m q:Nat),Vp n p->gN lt n (kas_desc f p m q)/\Vp n (bb lt (kas_desc f p m q)).1
 | 0,_,_,_,v=>⟨trivial,v⟩
 | f+1,p,m,q,v=>by
  have vr:∀ i j,Vp n (kas_rev p i j):=fun i j=>v.pm h0 (p_ _ _ _)
  have key:gN lt n (if lt (p.getD m 0) (p.getD (m-1) 0)=true then(if q > 0 then kas_desc f (kas_rev p (m-(q+1)) m) (m+1) 0 else kas_desc f p (m+1) 0)else KasT.ask (p.getD (m-1) 0) (p.getD m 0) fun d=>if d=true then KasT.ret (p,m,q)else kas_desc f p (m+1) (q+1)) /\
    Vp n (bb lt (if lt (p.getD m 0) (p.getD (m-1) 0)=true then(if q > 0 then kas_desc f (kas_rev p (m-(q+1)) m) (m+1) 0 else kas_desc f p (m+1) 0)else KasT.ask (p.getD (m-1) 0) (p.getD m 0) fun d=>if d=true then KasT.ret (p,m,q)else kas_desc f p (m+1) (q+1))).1:=by
   split
   ·split
    ·exact y6 h0 f _ _ _ (vr _ _)
    ·exact y6 h0 f _ _ _ v
   ·have k2:gN lt n (if lt (p.getD (m-1) 0) (p.getD m 0)=true then KasT.ret (p,m,q)else kas_desc f p (m+1) (q+1))/\Vp n (bb lt (if lt (p.getD (m-1) 0) (p.getD m 0)=true then KasT.ret (p,m,q)else kas_desc f p (m+1) (q+1))).1:=by
     split
     ·exact⟨trivial,v⟩
     ·exact y6 h0 f _ _ _ v
    exact⟨⟨v _,v _,k2.1⟩,k2.2⟩
  exact⟨⟨v _,v _,key.1⟩,key.2⟩
def G4(h0:0<n)(v:Vp n p)(m aO:Nat):gN lt n (kas_tail3 m aO p)/\Vp n (bb lt (kas_tail3 m aO p)).2:=by
 have vr:Vp n (kas_rev p 0 m):=v.pm h0 (p_ _ _ _)
 unfold kas_tail3
 exact⟨t_ (CF vr _ _) trivial,by rw[o7];exact vr⟩
def G5(h0:0<n)(v:Vp n p)(m aO:Nat):gN lt n (kas_descPart m aO p)/\Vp n (bb lt (kas_descPart m aO p)).2:=by
 unfold kas_descPart
 obtain⟨a,b⟩:=y6 (lt:=lt) h0 (aO-(m+1)) p (m+1) 0 v
 have key:gN lt n (if(bb lt (kas_desc (aO-(m+1)) p (m+1) 0)).2.2 > 0 then kas_tail3 (bb lt (kas_desc (aO-(m+1)) p (m+1) 0)).2.1 aO (kas_rev (bb lt (kas_desc (aO-(m+1)) p (m+1) 0)).1 ((bb lt (kas_desc (aO-(m+1)) p (m+1) 0)).2.1-((bb lt (kas_desc (aO-(m+1)) p (m+1) 0)).2.2+1)) (bb lt (kas_desc (aO-(m+1)) p (m+1) 0)).2.1)else kas_tail3 (bb lt (kas_desc (aO-(m+1)) p (m+1) 0)).2.1 aO (bb lt (kas_desc (aO-(m+1)) p (m+1) 0)).1)/\Vp n (bb lt (if(bb lt (kas_desc (aO-(m+1)) p (m+1) 0)).2.2 > 0 then kas_tail3 (bb lt (kas_desc (aO-(m+1)) p (m+1) 0)).2.1 aO (kas_rev (bb lt (kas_desc (aO-(m+1)) p (m+1) 0)).1 ((bb lt (kas_desc (aO-(m+1)) p (m+1) 0)).2.1-((bb lt (kas_desc (aO-(m+1)) p (m+1) 0)).2.2+1)) (bb lt (kas_desc (aO-(m+1)) p (m+1) 0)).2.1)else kas_tail3 (bb lt (kas_desc (aO-(m+1)) p (m+1) 0)).2.1 aO (bb lt (kas_desc (aO-(m+1)) p (m+1) 0)).1)).2:=by
  split
  ·exact G4 h0 (b.pm h0 (p_ _ _ _)) _ _
  ·exact G4 h0 b _ _
 exact⟨t_ a key.1,by rw[o7];exact key.2⟩
def Tv(h0:0<n)(v:Vp n p)(aO:Nat):gN lt n (kas_count aO p)/\Vp n (bb lt (kas_count aO p)).2:=by
 unfold kas_count
 have a:=CF (lt:=lt) v (aO-1) 1
 generalize kas_asc p (aO-1) 1=t at *
 generalize hm:bb lt t=m
 have vr:Vp n (kas_rev p 0 m):=v.pm h0 (p_ _ _ _)
 have key:gN lt n (if(m==aO)=true then KasT.ret (m,p)else if m > 1 then KasT.ask (p.getD 0 0) (p.getD (m-1) 0) fun c=>if c=true then KasT.ret (m,p)else kas_descPart m aO (kas_rev p 0 m)else kas_descPart m aO p)/\Vp n (bb lt (if(m==aO)=true then KasT.ret (m,p)else if m > 1 then KasT.ask (p.getD 0 0) (p.getD (m-1) 0) fun c=>if c=true then KasT.ret (m,p)else kas_descPart m aO (kas_rev p 0 m)else kas_descPart m aO p)).2:=by
  split
  ·exact⟨trivial,v⟩
  ·split
   ·have k2:gN lt n (if lt (p.getD 0 0) (p.getD (m-1) 0)=true then KasT.ret (m,p)else kas_descPart m aO (kas_rev p 0 m))/\Vp n (bb lt (if lt (p.getD 0 0) (p.getD (m-1) 0)=true then KasT.ret (m,p)else kas_descPart m aO (kas_rev p 0 m))).2:=by
     split
     ·exact⟨trivial,v⟩
     ·exact G5 h0 vr _ _
    exact⟨⟨v _,v _,k2.1⟩,k2.2⟩
   ·exact G5 h0 v _ _
 rw[<- hm]at key
 exact⟨t_ a key.1,by rw[o7];exact key.2⟩
def CG(v:Vp n p)(k:Nat):∀ f l u,gN lt n (kas_place p k f l u)
 | 0,_,_=>trivial
 | f+1,l,u=>by
  show gN lt n (if l ≥ u then KasT.ret l else KasT.ask (p.getD k 0) (p.getD ((l+u) / 2) 0) fun c=>if c=true then kas_place p k f l ((l+u) / 2)else kas_place p k f ((l+u) / 2+1) u)
  split
  ·trivial
  ·refine⟨v _,v _,?_⟩
   show gN lt n (if lt (p.getD k 0) (p.getD ((l+u) / 2) 0)=true then kas_place p k f l ((l+u) / 2)else kas_place p k f ((l+u) / 2+1) u)
   split
   ·exact CG v k f _ _
   ·exact CG v k f _ _
def G6(h0:0<n):∀ (f:Nat) (p:Array Nat) (k:Nat),Vp n p->gN lt n (kas_bin f p k)
 | 0,_,_,_=>trivial
 | f+1,p,k,v=>t_ (CG v k k 0 k) (G6 h0 f _ _ (v.pm h0 (bubble_perm _ _ _)))
def Tw(h0:0<n):gN lt n (kas_sort n):=by
 have v:Vp n (List.toArray (List.range n)):=fun k=>by
  rw[QI,Je]
  by_cases c:k<n
  ·rw[Zq c];exact c
  ·rw[Q2 (by rw[QP];omega)];exact h0
 unfold kas_sort
 obtain⟨a,b⟩:=Tv (lt:=lt) h0 v n
 refine t_ a ?_
 split
 ·exact G6 h0 _ _ _ b
 ·trivial
def G7{α:Type}{cmp:Nat->Nat->(Bool->Shared->Prop)->Shared->Prop}{s:Shared}{Q:α->Shared->Prop}(h:∀ i j C,i<n->j<n->C (lt i j) s->cmp i j C s):∀ {t:KasT α},gN lt n t->Q (bb lt t) s->t.kasWp cmp Q s
 | .ret _,_,q=>q
 | .ask i j k,o,q=>h i j _ o.1 o.2.1 (G7 h o.2.2 q)
abbrev eU (x:Nat×Nat):List Int:=[Int.ofNat x.1,Int.ofNat x.2]
abbrev rk (x:Nat×Nat):Int:=Int.ofNat (x.1*1000+x.2)
section
variable {prog:Program}{w:World}{A:Around}{E:Value->Shared->Prop}{s:Shared}
def G8(b:Bool){x y:Int}{t u:Tok}(h:Q (decide (x<y)) s):wpAny (model prog w) A (oneLt' b (.int x t) (.int y u)) Q E s:=by
 cases b with
 | true=>exact oneLt_int h
 | false=>exact kat_one _ _ (PySem.P.lt_int h)
def CH(k:IsTupleKey (intKind prog w) h (eU x) a):∃ o n t u,h.get? a=some o/\o.cls=.type "tuple" /\ o.data=.seq #[.int (Int.ofNat x.1) t,.int (Int.ofNat x.2) u] n:=by
 obtain⟨o,items,n,ho,hc,hd,hi⟩:=k
 cases cS:items.toList with
 | nil=>rw[cS]at hi;cases hi
 | cons v l=>
  rw[cS]at hi
  cases hi with
  | cons h1 r=>
   cases r with
   | cons h2 r2=>
    cases r2
    obtain⟨t,rfl⟩:=Ym h1
    obtain⟨u,rfl⟩:=Ym h2
    refine⟨o,n,t,u,ho,hc,?_⟩
    rw[hd]
    congr 1
    apply Vm
    rw[cS]
def Tx{y:Nat×Nat}{b:Addr}{f:Bool}(ka:IsTupleKey (intKind prog w) s.heap (eU x) a)(kb:IsTupleKey (intKind prog w) s.heap (eU y) b)(hx:x.2<1000)(hy:y.2<1000)(h:Q (decide (rk x<rk y)) s) :
  wpAny (model prog w) A (keyLt' (tuples' f) (.ref a) (.ref b)) Q E s:=by
 obtain⟨o,n,t,u,ho,_,hd⟩:=CH ka
 obtain⟨o',n',t',u',e_,_,gV⟩:=CH kb
 have e:decide (rk x<rk y)=if Int.ofNat x.1=Int.ofNat y.1 then(if Int.ofNat x.2=Int.ofNat y.2 then false else decide (Int.ofNat x.2<Int.ofNat y.2))else decide (Int.ofNat x.1<Int.ofNat y.1):=by
  have i1:rk x<rk y ↔ x.1*1000+x.2<y.1*1000+y.2:=by show((_:Nat):Int)<((_:Nat):Int) ↔ _;omega
  have i2:Int.ofNat x.1=Int.ofNat y.1 ↔ x.1=y.1:=⟨fun z=>by injection z,fun z=>by rw[z]⟩
  have i3:Int.ofNat x.2=Int.ofNat y.2 ↔ x.2=y.2:=⟨fun z=>by injection z,fun z=>by rw[z]⟩
  have i4:Int.ofNat x.1<Int.ofNat y.1 ↔ x.1<y.1:=by show((_:Nat):Int)<((_:Nat):Int) ↔ _;omega
  have i5:Int.ofNat x.2<Int.ofNat y.2 ↔ x.2<y.2:=by show((_:Nat):Int)<((_:Nat):Int) ↔ _;omega
  simp only[i1,i2,i3,i4,i5]
  by_cases c:x.1=y.1
  ·rw[Qi c]
   by_cases d:x.2=y.2
   ·rw[Qi d];exact QW (by omega)
   ·rw[Qj d];exact Jw.mpr (by omega)
  ·rw[Qj c];exact Jw.mpr (by omega)
 refine kat_lt ho hd e_ gV (kat_cons (VI ?_))
 by_cases c:Int.ofNat x.1=Int.ofNat y.1
 ·rw[Qi c]at e
  rw[ZE.mpr c]
  refine kat_yes (kat_cons (VI ?_))
  by_cases d:Int.ofNat x.2=Int.ofNat y.2
  ·rw[Qi d]at e
   rw[ZE.mpr d]
   refine kat_yes (kat_nil ?_)
   rw[e]at h
   exact h
  ·rw[Qj d]at e
   rw[Z8.mpr d]
   rw[e]at h
   exact kat_no (G8 _ h)
 ·rw[Qj c]at e
  rw[Z8.mpr c]
  rw[e]at h
  exact kat_no (G8 _ h)
def gv (prog:Program)(w:World)(h:Heap)(vs:List Value)(ks:List (Nat×Nat)):Prop:=vs.length=ks.length/\∀ (i:Nat) (x:Nat×Nat),ks[i]? = some x->∃ a,vs[i]? = some (.ref a)/\IsTupleKey (intKind prog w) h (eU x) a
def gv.keep{h':Heap}(P:gv prog w h vs ks)(q:∀ b o,h.get? b=some o->o.cls=.type "tuple"->h'.get? b=some o):gv prog w h' vs ks:=⟨P.1,fun i x e=>by
 obtain⟨a,e1,o,items,n,ho,hc,hd,hi⟩:=P.2 i x e
 exact⟨a,e1,o,items,n,q a o ho hc,hc,hd,hi⟩⟩
def gv.firsts:∀ {h:Heap} {vs:List Value} {ks:List (Nat×Nat)},gv prog w h vs ks->∃ fs:List Value,KatTups h vs fs/\fs.length=ks.length/\∀ v∈fs,∃ i t,v=.int i t
 | h,[],[],_=>⟨[],.nil,rfl,fun v hv=>(QG hv).elim⟩
 | h,[],_::_,P=>nomatch P.1
 | h,_::_,[],P=>nomatch P.1
 | h,v::vs,x::ks,P=>by
  obtain⟨fs,t1,t2,t3⟩:=gv.firsts (vs:=vs) (ks:=ks) (h:=h) ⟨by simpa using P.1,fun i y e=>P.2 (i+1) y (by rw[ZC];exact e)⟩
  obtain⟨a,e,k⟩:=P.2 0 x rfl
  have ev:v=.ref a:=by simpa using e
  subst ev
  obtain⟨o,n,t,u,ho,hc,hd⟩:=CH k
  refine⟨.int (Int.ofNat x.1) t::fs,.cons ho hc hd rfl t1,by rw[Zh,Zh,t2],fun v hv=>?_⟩
  rcases Qt.mp hv with rfl|hv
  ·exact⟨_,_,rfl⟩
  ·exact t3 v hv
def Tz{TC:Bool}{G:Array Nat->Shared->Prop}(P:gv prog w s.heap vs ks)(hb:∀ x∈ks,x.2<1000)(h1:1<=vs.length)
  (hG:∀ p:Array Nat,p.Perm (List.toArray (List.range vs.length))->(∀ i j,i<=j->j<vs.length->rk (ks.getD (p.getD i 0) (0,0))<=rk (ks.getD (p.getD j 0) (0,0)))->G p s) :
  (kas_sort vs.length).kasWp (kas_ask prog w A (tuples' TC) vs) G s:=by
 have so:=Tu (r:=fun i=>rk (ks.getD i (0,0))) h1
 refine G7 (lt:=cJ fun i=>rk (ks.getD i (0,0))) (n:=vs.length) (fun i j C hi hj hC=>?_) (Tw h1) (hG _ so.1 so.2)
 have gi:ks[i]? = some (ks.getD i (0,0)):=by rw[Qf,Qb (by rw[<- P.1];exact hi)];rfl
 have gj:ks[j]? = some (ks.getD j (0,0)):=by rw[Qf,Qb (by rw[<- P.1];exact hj)];rfl
 obtain⟨a,e1,k1⟩:=P.2 i _ gi
 obtain⟨b,e2,k2⟩:=P.2 j _ gj
 unfold kas_ask
 rw[Qf,Qf,e1,e2]
 exact Tx k1 k2 (hb _ (QB gi)) (hb _ (QB gj)) hC
def TF(P:gv prog w h vs ks)(pm:p.Perm (List.toArray (List.range vs.length))):gv prog w h (p.toList.map fun i=>vs.getD i Value.none) (p.toList.map fun i=>ks.getD i (0,0))/\(p.toList.map fun i=>ks.getD i (0,0)).Perm ks:=by
 have pl:p.toList.Perm (List.range vs.length):=by
  have:=Vq.mp pm
  exact this
 refine⟨⟨by rw[Qe,Qe],fun i x e=>?_⟩,?_⟩
 ·rw[Ql,Qw]at e
  obtain⟨k,q1,q2⟩:=e
  have hk:k<vs.length:=QJ.mp (pl.mem_iff.mp (QB q1))
  have gk:ks[k]? = some x:=by rw[<- q2,Qf,Qb (by rw[<- P.1];exact hk)];rfl
  obtain⟨a,e1,k1⟩:=P.2 k x gk
  refine⟨a,?_,k1⟩
  rw[Ql,q1]
  show some (vs.getD k Value.none)=_
  rw[Qf,e1]
  rfl
 ·have h1:=pl.map fun i=>ks.getD i (0,0)
  have h2:(List.range vs.length).map (fun k=>ks.getD k (0,0))=ks:=by
   rw[P.1]
   apply ZI
   intro i
   by_cases hi:i<ks.length
   ·rw[Ql,Zq hi,Qb hi]
    show some (ks.getD i (0,0))=_
    rw[Qf,Qb hi]
    rfl
   ·rw[Q2 (by rw[Qe,QP];omega),Q2 (by omega)]
  rw[h2]at h1
  exact h1
def CI{n:Nat}{P:PySem.Fin->Shared->Prop}(ho:s.heap.get? a=some (seqObj "list" vs.toArray n))(T:gv prog w s.heap vs ks)(hb:∀ x∈ks,x.2<1000)(mE:vs.length<64)
  (h:∀ (out:List Value) (bF:List (Nat×Nat)),gv prog w s.heap out bF->(∀ v∈out,v∈vs)->bF.Perm ks->(∀ i j,i<=j->j<bF.length->rk (bF.getD i (0,0))<=rk (bF.getD j (0,0)))->P (.done (.ret .none)) { s with heap:=sortedHeap s.heap a vs out.toArray }) :
  wpAny (model prog w) A (Builtin.«list.sort» ⟨[.ref a],[]⟩) P E s:=by
 have al:=Qm ho
 have G9:vs.toArray.size=vs.length:=Qn ..
 rw[list_sort_plain]
 refine Qa (listItems_at ho rfl (Qa (listUpdate_at ho rfl ?s1 (by rw[G9,Z1];omega) (QS _))))
 case s1=>
 obtain⟨e1,g1⟩:∃ e1,(s.heap.update a (Obj.mapSeq fun _=>(#[]:Array Value))).get? a=some (seqObj "list" #[] e1):=⟨_,ZX ho fun _=>#[]⟩
 refine Qa (seqEpoch_at g1 rfl (Qa (wpAny_newTuple (Qa (YL (QZ ?s2) (QS _))) (by show vs.length<=_;rw[Z1];omega))))
 case s2=>
 show wpAny (model prog w) A _ P E { s with heap:=((s.heap.update a (Obj.mapSeq fun _=>(#[]:Array Value))).push (seqObj "tuple" vs.toArray 0)).push (seqObj "list" #[] 0) }
 have g2:(((s.heap.update a (Obj.mapSeq fun _=>(#[]:Array Value))).push (seqObj "tuple" vs.toArray 0)).push (seqObj "list" #[] 0)).get? a=some (seqObj "list" #[] e1):=Qd _ (Qd _ g1)
 have T2:gv prog w (((s.heap.update a (Obj.mapSeq fun _=>(#[]:Array Value))).push (seqObj "tuple" vs.toArray 0)).push (seqObj "list" #[] 0)) vs ks:=T.keep fun b o q c=>by
  have ne:b≠a:=fun z=>by
   rw[z,ho]at q
   cases q
   have c':Value.type "list" = Value.type "tuple":=c
   injection c' with TH
   exact absurd TH (by decide)
  exact Qd _ (Qd _ ((Zy _ _ (Jk ne)).trans q))
 generalize hh:((s.heap.update a (Obj.mapSeq fun _=>(#[]:Array Value))).push (seqObj "tuple" vs.toArray 0)).push (seqObj "list" #[] 0)=h2 at *
 have fin:∀ out:List Value,{ s with heap:=h2.update a (Obj.mapSeq fun _=>out.toArray) }={ s with heap:=sortedHeap s.heap a vs out.toArray }:=fun out=>by rw[<- hh];rfl
 dsimp only
 by_cases c2:vs.toArray.size<2
 ·rw[Qi c2,Qi c2]
  refine Qa (Qc ?_)
  rw[StateT.run_pure]
  refine Qa (Qc ?_)
  dsimp only
  have o1:(arrOf (SortSt.mk' general' (vs.toArray.zip vs.toArray) #[] 7 none)).map (·.2)=vs.toArray:=by
   show(vs.toArray.zip vs.toArray).map (·.2)=vs.toArray
   apply Vm
   rw[VQ,Array.toList_zip]
   exact List.map_snd_zip (Qg _)
  rw[o1]
  refine Qa (seqEpoch_at (s:={ s with heap:=h2 }) g2 rfl (Qa (listUpdate_at (s:={ s with heap:=h2 }) g2 rfl ?t1 (QS _) (by rw[G9,Z1];omega))))
  case t1=>
  simp only[JM,Qu,Zp]
  refine Qc ?_
  have r:=h vs ks T (fun _ z=>z) (Ur _) fun i j a b=>by
   have:i=j:=by rw[<- T.1]at b;omega
   rw[this]
   exact YS _
  rw[<- fin]at r
  exact r
 ·rw[Qj c2,Qj c2]
  have v1:2<=vs.length:=by omega
  obtain⟨fs,t1,t2,t3⟩:=T2.firsts
  refine Qa (kat_kind (s:={ s with heap:=h2 }) (T:=.type "int") t1 (by rw[t2,<- T.1];omega) (fun v hv=>?k1) (by decide) ?k2)
  case k1=>
   obtain⟨i,t,rfl⟩:=t3 v hv
   exact .now
  case k2=>
  refine Qa (ZB (kat_run (s:={ s with heap:=h2 }) (Q:=fun kF s'=>s'={ s with heap:=h2 }/\∃ p:Array Nat,p.size=vs.length/\arrOf kF=p.map (kas_item (vs.toArray.zip vs.toArray))/\failedOf kF=none/\p.Perm (List.toArray (List.range vs.length))/\∀ i j,i<=j->j<vs.length->rk (ks.getD (p.getD i 0) (0,0))<=rk (ks.getD (p.getD j 0) (0,0)))
   (G:=fun p s'=>s'={ s with heap:=h2 }/\p.Perm (List.toArray (List.range vs.length))/\∀ i j,i<=j->j<vs.length->rk (ks.getD (p.getD i 0) (0,0))<=rk (ks.getD (p.getD j 0) (0,0)))
   rfl v1 mE (fun p kF s' a1 a2 a3 a4=>⟨a4.1,p,a1,a2,a3,a4.2.1,a4.2.2⟩) (Tz T2 hb (by omega) fun p a1 a2=>⟨rfl,a1,a2⟩)) ?k3 fun _ _ e=>e)
  case k3=>
  rintro ⟨⟨⟩,kF⟩ s' ⟨rfl,p,ps,ar,hf,pm,so⟩
  dsimp only
  have o1:=kat_snds rfl ar
  rw[o1]
  have ol:(p.toList.map fun i=>vs.getD i Value.none).length=vs.length:=by rw[Qe,QH,ps]
  refine Qa (seqEpoch_at (s:={ s with heap:=h2 }) g2 rfl (Qa (listUpdate_at (s:={ s with heap:=h2 }) g2 rfl ?t2 (QS _) (by rw[Qn,ol,Z1];omega))))
  case t2=>
  rw[hf]
  simp only[JM,Qu,Zp]
  refine Qc ?_
  obtain⟨q1,q2⟩:=TF T pm
  have r:=h _ _ q1 (fun v hv=>by
   obtain⟨k,hk,rfl⟩:=Qx.mp hv
   have ke:k<vs.length:=QJ.mp ((Vq.mp pm).mem_iff.mp hk)
   rw[Qf,Qb ke]
   exact Q4 ke) q2 fun i j a b=>by
   rw[Qe,QH,ps]at b
   have g:∀ i,i<vs.length->(p.toList.map fun k=>ks.getD k (0,0)).getD i (0,0)=ks.getD (p.getD i 0) (0,0):=fun i hi=>by
    rw[Qf,Ql,Qb (by rw[QH,ps];exact hi),QI,Q1 (by rw[ps];exact hi)]
    rfl
   rw[g i (by omega),g j b]
   exact so i j a b
  rw[<- fin]at r
  exact r
end
end L3
namespace L3
open PySem PySem.Spec PyProof.Rows PySem.W L2
variable {F:List Addr}{H:Hp}{K:PySem.W.Frag}{Q:Value->Shared->Prop}{a b l:Addr}{d:D}{ds:List D}{ep i q:Nat}{es:Array (Int×Value)}{kl:List (List Int)}{kp ks bF:List (Nat×Nat)}{ai:List (List Key×V)}{o o':Ow}{u v:V}{vs:List V}{w w':Wn}{x y:Nat×Nat}{z:HO}{ρ:aR}{σ:St}
section
variable {prog:Program}{w:World}{A:Around}{E:Value->Shared->Prop}{s:Shared}
def TJ{h:Heap}{t:SetTable}{bs:List Addr}{vs:List Value}(S:lu prog w h es t kl bs)(ek:kl=kp.map eU)(hl:vs.length=es.size)
  (hv:∀ (j:Nat) (v:Value),vs[j]? = some v->∃ e,(jr w a es ep)[j]? = some e/\v=e.2):∃ ks:List (Nat×Nat),gv prog w h vs ks/\ks.Perm kp/\∀ v∈vs,∃ b∈bs,v=.ref b:=by
 have e:vs=(jr w a es ep).toList.map (·.2):=by
  apply ZI
  intro j
  have et:(jr w a es ep).toList[j]? = (jr w a es ep)[j]?:=QV
  rw[Ql,et]
  rcases J1 j vs.length with l|l
  ·obtain⟨x,h1,h2⟩:=hv j _ (Qb l)
   rw[h1,Qb l,h2]
   rfl
  ·rw[Q2 l,Zo (by rw[yY];omega)]
   rfl
 have pm:(jr w a es ep).toList.Perm ((kp.zip bs).map fun x=>(tupleKeyHash (intKind prog w) (eU x.1),Value.ref x.2)):=by
  refine(GZ w a es ep).trans ?_
  rw[S.es,ek]
  have:∀ (l:List (Nat×Nat)) (m:List Addr),((l.map eU).zip m).map (fun x=>(tupleKeyHash (intKind prog w) x.1,Value.ref x.2))=(l.zip m).map fun x=>(tupleKeyHash (intKind prog w) (eU x.1),Value.ref x.2):=by
   intro l
   induction l with
   | nil=>intro m;rfl
   | cons x l ih=>
    intro m
    cases m with
    | nil=>rfl
    | cons b m=>rw[QK,Yk,QK,ih m];rfl
  rw[this]
 obtain⟨zs,zp,ze⟩:=Su (f:=fun x:(Nat×Nat)×Addr=>(tupleKeyHash (intKind prog w) (eU x.1),Value.ref x.2)) pm rfl
 have len:kp.length=bs.length:=by rw[<- S.len,ek,Qe]
 refine⟨zs.map (·.1),⟨by rw[e,ze,Qe,Qe,Qe],fun i x q=>?_⟩,?_⟩
 ·rw[Ql,Qw]at q
  obtain⟨y,q1,rfl⟩:=q
  refine⟨y.2,?_,?_⟩
  ·rw[e,ze,Ql,Ql,q1]
   rfl
  ·obtain⟨i',cS,qi⟩:=Zf (zp.mem_iff.mp (QB q1))
   have q2:(kp.zip bs)[i']? = some y:=by rw[Qb cS,qi]
   rw[List.zip,Yx]at q2
   cases k1:kp[i']? with
   | none=>rw[k1]at q2;cases q2
   | some u=>
    cases k2:bs[i']? with
    | none=>rw[k1,k2]at q2;cases q2
    | some v=>
     rw[k1,k2]at q2
     cases q2
     exact S.is i' (eU u) v (by rw[ek,Ql,k1];rfl) k2
 ·refine⟨(zp.map (·.1)).trans ?_,fun v hv=>?_⟩
  ·rw[VT (by omega)]
  ·rw[e,ze]at hv
   obtain⟨y,hy,rfl⟩:=Qx.mp hv
   obtain⟨x,hx,rfl⟩:=Qx.mp hy
   exact⟨x.2,(YT (zp.mem_iff.mp hx)).2,rfl⟩
def TK{t:SetTable}{bs:List Addr}{Q:Value->Shared->Prop}(hh:A.handled=none)(ho:s.heap.get? a=some (mC es ep t))(So:rN prog w s.heap (mC es ep t) ep (!cb w) kl es t bs)(ek:kl=kp.map eU)(hb:∀ x∈kp,x.2<1000)(dO:kp.length<64)
  (h:∀ (h1:Heap) (h':Heap) (tk:Nat) (us:List Value) (ks:List (Nat×Nat)) (c:Nat),(∀ b o,s.heap.get? b=some o->h1.get? b=some o)->(∀ b o,s.heap.get? b=some o->h'.get? b=some o)->gv prog w s.heap us ks->(∀ v∈us,∃ b∈bs,v=.ref b)->ks.Perm kp->(∀ i j,i<=j->j<ks.length->rk (ks.getD i (0,0))<=rk (ks.getD j (0,0)))->
    h'.get? h1.objs.size=some { cls:=.type "list",data:=.seq us.toArray c }->Q (.ref h1.objs.size) { s with heap:=h',toks:=tk }) :
  wpAny (model prog w) A (call (.builtin "sorted") [.ref a]) Q E s:=by
 have gd:=So.gd
 have sz:es.size=kp.length:=by rw[So.S.size,ek,Qe]
 refine Jh kind_sorted plain_sorted entry_sorted (args_sorted1 _) ?_
 unfold Builtin.«sorted»
 refine Qa (m:=checkCount "sorted" 1 1 _) (Qc (Qa (kdu_collect (A:=A.in1) (Tq gd) hh ho (JU (by omega)) fun h' tk acc hk bP=>?c1)))
 case c1=>
 have hl:acc.toList.length=es.size:=by rw[QH];exact bP.1
 refine Qa (YL ?c2 (by rw[hl];exact JU (by omega)))
 case c2=>
 obtain⟨ks,T,pm,mb⟩:=TJ (a:=a) (ep:=ep) So.S ek hl (fun j v e=>bP.2 j v (by rw[<- QV];exact e))
 have T1:gv prog w (h'.push (seqObj "list" acc.toList.toArray 0)) acc.toList ks:=T.keep fun b o q _=>Qd _ (hk b o q)
 have oL:(h'.push (seqObj "list" acc.toList.toArray 0)).get? h'.objs.size=some (seqObj "list" acc.toList.toArray 0):=Qp _ rfl
 refine Qa (QZ (Q3 Vr ⟨_,oL,rfl⟩ Y1 (CI oL T1 (fun x hx=>hb x (pm.mem_iff.mp hx)) (by rw[hl,sz];exact dO) fun out bF o1 om o2 o3=>⟨_,rfl,?c3⟩) (Vs _)))
 case c3=>
 refine Qc ⟨_,rfl,?c4⟩
 case c4=>
 have ne:∀ b o,s.heap.get? b=some o->b≠h'.objs.size:=fun b o e=>Qz (Qm (hk b o e))
 have up:∀ (G:Heap) (f:Array Value->Array Value),(∀ b o,s.heap.get? b=some o->G.get? b=some o)->∀ b o,s.heap.get? b=some o->(G.update h'.objs.size (Obj.mapSeq f)).get? b=some o:=
  fun G f q b o e=>(Zy _ _ (Jk (ne b o e))).trans (q b o e)
 unfold sortedHeap
 have g1:=ZX oL (fun _=>(#[]:Array Value))
 have g4:=ZX (Qd (seqObj "list" #[] 0) (Qd (seqObj "tuple" acc.toList.toArray 0) g1)) (fun _=>out.toArray)
 refine h h' _ _ out bF _ hk ?c5 ?c6 (fun v hv=>mb v (om v hv)) (o2.trans pm) o3 g4
 case c5=>exact up _ _ fun b o e=>Qd _ (Qd _ (up _ _ (fun b o e=>Qd _ (hk b o e)) b o e))
 case c6=>
  refine⟨o1.1,fun i x q=>?_⟩
  obtain⟨b,e1,k1⟩:=o1.2 i x q
  obtain⟨j,hj,qj⟩:=Zf (om _ (QB e1))
  have gj:ks[j]? = some (ks[j]'(by rw[<- T.1];exact hj)):=Qb _
  obtain⟨b',e2,k2⟩:=T.2 j _ gj
  rw[Qb hj,qj]at e2
  cases e2
  obtain⟨b2,e3,k3⟩:=T1.2 j _ gj
  rw[Qb hj,qj]at e3
  cases e3
  have:=k3.inj k1
  rw[this]at k2
  exact⟨b,e1,k2⟩
end
def S9 (prog:Program)(w:World)(a:Addr)(kp:List (Nat×Nat))(bs:List Addr):Heap->Prop:=fun h=>∃ es ep t,h.get? a=some (mC es ep t)/\es.toList=((kp.map eU).zip bs).map (fun x=>(tupleKeyHash (intKind prog w) x.1,Value.ref x.2))/\(kp.map eU).length=bs.length/\fG t ((kp.map eU).map (tupleKeyHash (intKind prog w)))/\(kp.map eU).Nodup/\t.plain=true/\t.led = !cb w/\(kp.map eU).length*5<t.mask*3
def mH (K:PySem.W.Frag)(H:Hp)(ks:List (Nat×Nat))(dJ:List Addr):Prop:=ks.length=dJ.length/\∀ (i:Nat) (x:Nat×Nat) (b:Addr),ks[i]? = some x->dJ[i]? = some b->H b=some (.tup [.int (Int.ofNat x.1),.int (Int.ofNat x.2)])
def CJ:∀ {dJ:List Addr} {us:List Value},aY (dJ.map V.ref) us->us=dJ.map Value.ref
 | [],_,r=>by cases r;rfl
 | a::dJ,_,r=>by
  cases r with
  | cons h t=>
   cases h
   rw[CJ t]
   rfl
def wo:∀ (dJ:List Addr),aY (dJ.map V.ref) (dJ.map Value.ref)
 | []=>.nil
 | a::dJ=>.cons rfl (wo dJ)
def y7 (l:List Int):Nat×Nat:=((l.getD 0 0).toNat,(l.getD 1 0).toNat)
def G_(x:Nat×Nat):y7 (eU x)=x:=rfl
def CK(h:eU x=eU y):x=y:=by rw[<- G_ x,h,G_]
section
variable {X:Cx}{a:Expr}{fa:aB}{p p2 pos gO:Pos}{pins:List (Addr×Obj)}{σ:St}{H:Hp}{s:Shared}
def qc(I:Inv X pins σ H s)(h:dh X.K H b [.int (Int.ofNat x.1),.int (Int.ofNat x.2)]):IsTupleKey (intKind X.prog X.w) s.heap (eU x) b:=by
 obtain⟨ao,r,⟨o,ho,hc,n,hd⟩,_⟩:=I.tuple h
 refine⟨o,ao.toArray,n,ho,hc,hd,?_⟩
 cases r with
 | cons h1 r1=>
  cases r1 with
  | cons h2 r2=>
   cases r2
   obtain⟨t,rfl⟩:=h1
   obtain⟨u,rfl⟩:=h2
   exact .cons (YH _ _ _ _) (.cons (YH _ _ _ _) .nil)
def TL(hc:X.calm=true)(hu:X.A.units+4<cLine):iE X (.type "set") (fun xs H Q=>∃ t ks dJ,xs=[.ref t]/\cn X.K H t (dJ.map V.ref)/\mH X.K H ks dJ/\ks.length<=100 /\
  ∀ p kp bs,H p=none->kp.Nodup->(∀ x,x∈kp ↔ x∈ks)->mH X.K H kp bs->Q (.ref p) (upd H p (.ext (S9 X.prog X.w p kp bs)))):=by
 intro pins s σ H xs us Q I r hh
 obtain⟨t,ks,dJ,rfl,hq,⟨len,tu⟩,rR,q⟩:=hh
 obtain⟨u,rfl,ru⟩:=jw r
 cases ru
 obtain⟨ao,rv,pl,_⟩:=I.list hq
 have ei:=CJ rv
 subst ei
 have gk:∀ i,i<ks.length->∃ x,ks[i]? = some x/\(ks.map eU).getD i []=eU x/\dJ[i]? = some (dJ.getD i 0):=fun i hi=>by
  refine⟨_,Qb hi,?_,?_⟩
  ·rw[Qf,Ql,Qb hi];rfl
  ·rw[Qf,Qb (by rw[<- len];exact hi)];rfl
 refine Th (ks:=ks.map eU) (ad:=fun i=>dJ.getD i 0) (I.ok.hd hc) (by show X.A.units+1+1+1<cLine;omega) pl.isList (by rw[Qe,Qe,len]) (fun i v e=>?z1) (fun i hi=>?z2) (by rw[Qe];exact rR) fun h' tk kl hS mm o8=>?z3
 case z1=>
  rw[Ql,Qw]at e
  obtain⟨b,e1,rfl⟩:=e
  show Value.ref b=.ref (dJ.getD i 0)
  rw[Qf,e1]
  rfl
 case z2=>
  rw[Qe]at hi
  obtain⟨x,e1,e2,e3⟩:=gk i hi
  rw[e2]
  exact qc I (.inl (.inl (tu i x _ e1 e3)))
 case z3=>
  obtain⟨es,ep,t',bs,g,⟨d,S,wc,ld,rm⟩,hb⟩:=hS
  have ek:kl=(kl.map y7).map eU:=by
   rw[Q7]
   conv=>lhs;rw[<- List.map_id kl]
   refine Q5 fun l hl=>?_
   obtain⟨j,hj,e⟩:=(mm l).mp hl
   rw[Qe]at hj
   obtain⟨x,_,e2,_⟩:=gk j hj
   rw[e2]at e
   rw[<- e]
   rfl
  have TM:S9 X.prog X.w s.heap.objs.size (kl.map y7) bs h':=by
   refine⟨es,ep,t',g,?_⟩
   rw[<- ek]
   exact⟨S.es,S.len,S.tb,S.nd,wc,ld,rm⟩
  refine⟨.ref s.heap.objs.size,_,I.laid (o:=.ext (S9 X.prog X.w s.heap.objs.size (kl.map y7) bs)) (h':=h') (t':=tk) (fun b o e=>o8 b o (Qm e) e) (Qg _) ⟨TM,⟨_,g⟩,fun h1 h2 ⟨es,ep,t,e,r⟩ k=>⟨es,ep,t,k _ e,r⟩⟩,rfl,q _ _ _ (I.aw.fresh (Qg _)) ?z4 (fun x=>?z5) ⟨by rw[Qe];exact S.len,fun i x b e1 e2=>?z6⟩⟩
  case z4=>
   have:=S.nd
   rw[ek]at this
   exact(JO.mp this).imp fun h z=>h (by rw[z])
  case z5=>
   constructor
   ·intro hx
    obtain⟨l,hl,rfl⟩:=Qx.mp hx
    obtain⟨j,hj,e⟩:=(mm l).mp hl
    rw[Qe]at hj
    obtain⟨y,e1,e2,_⟩:=gk j hj
    rw[e2]at e
    rw[<- e]
    exact QB e1
   ·intro hx
    obtain⟨j,hj,e⟩:=Zf hx
    obtain⟨y,e1,e2,_⟩:=gk j hj
    rw[Qb hj,e]at e1
    cases e1
    exact Qx.mpr ⟨eU x,(mm _).mpr ⟨j,by rw[Qe];exact hj,e2⟩,rfl⟩
  case z6=>
   rw[Ql,Qw]at e1
   obtain⟨l,f1,rfl⟩:=e1
   have kb:=S.is i l b f1 e2
   obtain⟨j,hj,rfl⟩:=hb b (QB e2)
   rw[Qe]at hj
   obtain⟨y,g1,g2,g3⟩:=gk j hj
   have sq:=tu j y _ g1 g3
   obtain⟨o,items,n,ho,nj,hd,hi⟩:=qc I (.inl (.inl sq))
   have k2:IsTupleKey (intKind X.prog X.w) h' (eU y) (dJ.getD j 0):=⟨o,items,n,o8 _ o (Qm ho) ho,nj,hd,hi⟩
   have:=kb.inj k2
   subst this
   exact sq
def TN(hc:X.calm=true):iE X (.builtin "sorted") (fun xs H Q=>∃ t kp bs,xs=[.ref t]/\H t=some (.ext (S9 X.prog X.w t kp bs))/\mH X.K H kp bs/\kp.length<64/\(∀ x∈kp,x.2<1000) /\
  ∀ p ks cs,H p=none->ks.Perm kp->(∀ i j,i<=j->j<ks.length->rk (ks.getD i (0,0))<=rk (ks.getD j (0,0)))->mH X.K H ks cs->Q (.ref p) (upd H p (.lst (cs.map V.ref)))):=by
 intro pins s σ H xs us Q I r hh
 obtain⟨t,kp,bs,rfl,hq,⟨len,tu⟩,dO,hb,q⟩:=hh
 obtain⟨u,rfl,ru⟩:=jw r
 cases ru
 obtain⟨⟨es,ep,tb,g,e1,e2,e3,e4,e5,e6,e7⟩,_,_⟩:=I.aw _ _ hq
 have So:rN X.prog X.w s.heap (mC es ep tb) ep (!cb X.w) (kp.map eU) es tb bs:=⟨rfl,⟨e1,e2,fun i k b x y=>by
  rw[Ql,Qw]at x
  obtain⟨z,z1,rfl⟩:=x
  exact qc I (.inl (.inl (tu i z b z1 y))),e3,e4⟩,e5,e6,e7⟩
 refine TK (I.ok.hd hc) g So rfl hb dO fun h1 h' tk us ks c k1 o8 T mb pm so hg=>?_
 obtain⟨cs,rfl⟩:∃ cs:List Addr,us=cs.map Value.ref:=by
  have:∀ (l:List Value),(∀ v∈l,∃ b∈bs,v=.ref b)->∃ cs:List Addr,l=cs.map Value.ref:=by
   intro l
   induction l with
   | nil=>intro _;exact⟨[],rfl⟩
   | cons v l ih=>
    intro h
    obtain⟨cs,e⟩:=ih fun w hw=>h w (Qh _ hw)
    obtain⟨b,_,rfl⟩:=h v Qk
    exact⟨b::cs,by rw[e];rfl⟩
  exact this us mb
 have lc:cs.length=ks.length:=by have:=T.1;rwa [Qe]at this
 refine⟨.ref h1.objs.size,_,yS (o:=.lst (cs.map V.ref)) I k1 (Qg _) o8 ⟨JU (by rw[Qe,lc,pm.length_eq];omega),cs.map Value.ref,c,wo cs,hg⟩,rfl,q _ ks cs (vX I.aw k1 (Qg _)) pm so ⟨lc.symm,fun i x b x1 x2=>?_⟩⟩
 obtain⟨a,y1,y2⟩:=T.2 i x x1
 rw[Ql,x2]at y1
 cases y1
 obtain⟨b',fU,e⟩:=mb (.ref b) (Qx.mpr ⟨b,QB x2,rfl⟩)
 cases e
 obtain⟨j,hj,qj⟩:=Zf fU
 have gj:kp[j]? = some (kp[j]'(by rw[len];exact hj)):=Qb _
 have sq:=tu j _ b gj (by rw[Qb hj,qj])
 have:=CK ((qc I (.inl (.inl sq))).inj y2)
 rw[this]at sq
 exact sq
end
abbrev ay (x:Nat×Nat):D:=.tup [.int (Int.ofNat x.1),.int (Int.ofNat x.2)]
abbrev p9 (k:Nat×Nat):OD:=some (ay k,9)
def o9:List D->Option (List (Nat×Nat))
 | []=>some []
 | .tup [.int (.ofNat i),.int (.ofNat j)]::ds=>if j<1000 then(o9 ds).map ((i,j) :: ·)else none
 | _=>none
def Ha:∀ {ds:List D} {ks:List (Nat×Nat)},o9 ds=some ks->ds=ks.map ay/\∀ x∈ks,x.2<1000:=by
 intro ds
 induction ds with
 | nil=>intro ks h;cases h;exact⟨rfl,fun _ h=>nomatch h⟩
 | cons d ds ih=>
  intro ks h
  unfold o9 at h
  split at h
  ·rename_i e;cases e
  next i j cj e=>
   cases e
   split at h
   next hi=>
    obtain⟨bF,e,rfl⟩:=Qw.mp h
    obtain⟨e1,e2⟩:=ih e
    exact⟨by rw[e1];rfl,fun k hk=>by
     rcases Qt.mp hk with q|q
     ·rw[q];exact hi
     ·exact e2 k q⟩
   ·cases h
  ·cases h
def CL:∀ (ks:List (Nat×Nat)),(∀ x∈ks,x.2<1000)->o9 (ks.map ay)=some ks
 | [],_=>rfl
 | x::ks,h=>by
  show(if x.2<1000 then(o9 (ks.map ay)).map ((x.1,x.2) :: ·)else none)=_
  rw[Qi (h x Qk),CL ks fun y hy=>h y (Qh _ hy)]
  rfl
def jL (ks:List (Nat×Nat)):List (Nat×Nat):=ks.eraseDups.mergeSort fun a b=>decide (rk a<=rk b)
def Hb(hx:x.2<1000)(hy:y.2<1000)(h:rk x=rk y):x=y:=by
 have e:x.1*1000+x.2=y.1*1000+y.2:=by injection h
 have:x.1=y.1:=by omega
 have:x.2=y.2:=by omega
 exact Prod.ext (by assumption) (by assumption)
def TQ(ks:List (Nat×Nat)):(jL ks).Pairwise fun a b=>rk a<=rk b:=by
 have:=Yl (le:=fun a b:Nat×Nat=>decide (rk a<=rk b)) (fun a b c h1 h2=>Qy (V3 (Q8 h1) (Q8 h2))) (fun a b=>by
  rcases Uy (rk a) (rk b)with h|h
  ·rw[Qy h];rfl
  ·rw[Qy h,Uz]) ks.eraseDups
 exact this.imp fun h=>Q8 h
def Hc{α:Type}[BEq α][LawfulBEq α]:∀ (n:Nat) (l:List α),l.length<=n->l.eraseDups.Nodup
 | 0,[],_=>by rw[List.eraseDups_nil];exact JR
 | 0,_::_,h=>absurd h (by simp)
 | n+1,[],_=>by rw[List.eraseDups_nil];exact JR
 | n+1,a::l,h=>by
  rw[List.eraseDups_cons]
  refine Q9.mpr ⟨fun z=>?_,Hc n _ (QU (ZL _ _) (by simpa using h))⟩
  rw[List.mem_eraseDups]at z
  have:=(Zr.mp z).2
  simp at this
def y8:x∈jL ks ↔ x∈ks:=by
 unfold jL
 rw[List.mem_mergeSort,List.mem_eraseDups]
def Hd(ks:List (Nat×Nat)):(jL ks).Nodup:=(J6 _ _).nodup_iff.mpr (Hc _ ks (Qg _))
def CM{α:Type}[DecidableEq α]:∀ {l m:List α},l.Nodup->m.Nodup->(∀ x,x∈l ↔ x∈m)->l.Perm m
 | [],m,_,_,h=>by
  cases m with
  | nil=>exact .nil
  | cons a m=>exact absurd ((h a).mpr Qk) (by simp)
 | a::l,m,h1,h2,h=>by
  have ha:=(h a).mp Qk
  have pP:=Q9.mp h1
  refine List.Perm.trans (List.Perm.cons a (CM pP.2 (h2.erase a) fun x=>?_)) (List.perm_cons_erase ha).symm
  rw[h2.mem_erase_iff]
  constructor
  ·intro hx
   exact⟨fun z=>pP.1 (z ▸ hx),(h x).mp (Qh _ hx)⟩
  ·rintro ⟨ne,hx⟩
   rcases Qt.mp ((h x).mpr hx)with z|z
   ·exact absurd z ne
   ·exact z
def TR(hb:∀ x∈ks,x.2<1000)(nd:kp.Nodup)(mem:∀ x,x∈kp ↔ x∈ks)(pm:bF.Perm kp)(so:∀ i j,i<=j->j<bF.length->rk (bF.getD i (0,0))<=rk (bF.getD j (0,0))):bF=jL ks:=by
 have p1:bF.Perm (jL ks):=CM (pm.nodup_iff.mpr nd) (Hd ks) fun x=>by rw[pm.mem_iff,mem,y8]
 have u1:(bF.map rk).Pairwise (· <= ·):=by
  rw[JO,Jg]
  intro i j hi hj rp
  have:=so i j (by omega) hj
  rw[Qf,Qf,Qb hi,Qb hj]at this
  exact this
 have u2:((jL ks).map rk).Pairwise (· <= ·):=by rw[JO];exact TQ ks
 have e:=lks_uniq (p1.map rk) u1 u2
 have key:∀ (l m:List (Nat×Nat)),(∀ x∈l,x.2<1000)->(∀ x∈m,x.2<1000)->l.map rk=m.map rk->l=m:=by
  intro l
  induction l with
  | nil=>
   intro m _ _ h
   cases m with
   | nil=>rfl
   | cons _ _=>cases h
  | cons a l ih=>
   intro m h1 h2 h
   cases m with
   | nil=>cases h
   | cons b m=>
    rw[QK,QK]at h
    injection h with q1 q2
    rw[Hb (h1 a Qk) (h2 b Qk) q1,ih m (fun x hx=>h1 x (Qh _ hx)) (fun x hx=>h2 x (Qh _ hx)) q2]
 exact key _ _ (fun x hx=>hb x ((mem x).mp (pm.mem_iff.mp hx))) (fun x hx=>hb x (y8.mp hx)) e
def y9 (fa:aB):aB:=fun ρ=>match fa ρ with
 | some (.lst ds,q,ρ1)=>if q<=1 then match o9 ds with
  | some ks=>if ks.length<64 then some (.lst ((jL ks).map ay),1,ρ1)else none
  | none=>none
  else none
 | _=>none
def CN:∀ {ks:List (Nat×Nat)} {vs:List V} {F:List Addr},af K H w o 0 (ks.map ay) vs F->∃ dJ:List Addr,vs=dJ.map V.ref/\mH K H ks dJ
 | [],_,_,h=>by cases h;exact⟨[],rfl,rfl,fun i x b e _=>by simp at e⟩
 | x::ks,_,_,h=>by
  cases h with
  | cons r rs _=>
   obtain⟨dJ,e,l,t⟩:=CN rs
   cases r with
   | @tup _ a fg cj ha hr=>
    have i1:=Gk (ks:=[Int.ofNat x.1,Int.ofNat x.2]) hr
    subst i1 e
    refine⟨a::dJ,rfl,by rw[Zh,Zh,l],fun i y b q1 q2=>?_⟩
    cases i with
    | zero=>cases q1;cases q2;exact ha
    | succ i=>exact t i y b q1 q2
def y_:∀ {ks:List (Nat×Nat)} {dJ:List Addr},mH K H ks dJ->af K H w o 0 (ks.map ay) (dJ.map V.ref) []
 | [],[],_=>.nil
 | [],_::_,h=>nomatch h.1
 | _::_,[],h=>nomatch h.1
 | x::ks,a::dJ,h=>.cons (F:=[]) (G:=[]) (.tup (h.2 0 x a rfl rfl) (.cons (F:=[]) (G:=[]) (.int _) (.cons (F:=[]) (G:=[]) (.int _) .nil nM) nM)) (y_ ⟨by simpa using h.1,fun i y b e1 e2=>h.2 (i+1) y b (by rw[ZC];exact e1) (by rw[ZC];exact e2)⟩) nM
section
variable {X:Cx}{a:Expr}{fa:aB}{p p2 pos gO:Pos}{j:Nat}
def TU(hc:X.calm=true)(hr:aQ j X.A)(hm:X.mg "sorted" = none)(CO:X.mg "set" = none)(ha:QD X a fa)(hb:bootBuiltins "set" = some (.type "set"):=by kernel_rfl)(rW:bootBuiltins "sorted" = some (.builtin "sorted"):=by kernel_rfl)(hg:Gl X "sorted":=by rfl)(CP:Gl X "set":=by rfl)(hs:starEach [a] X.env=(false,eval a X.env)::starEach [] X.env:=by rfl)(bX:(backTo gO (starEach [] X.env)).any (·.1)=false:=by rfl)(kG:starEach [.Call (.Name "set" p2) [a] [] gO] X.env=(false,eval (.Call (.Name "set" p2) [a] [] gO) X.env)::starEach [] X.env:=by rfl)(rX:(backTo pos (starEach [] X.env)).any (·.1)=false:=by rfl):QD X (.Call (.Name "sorted" p) [.Call (.Name "set" p2) [a] [] gO] [] pos) (y9 fa):=⟨have ha:=ha.o;by
 refine PE.imp (nu (TN hc) hg hm rW (gE (qK (TL hc (by have:=hr.un;omega)) CP CO hb (gE ha jf hs) (by decide) (by decide) hs bX) jf kG) (by decide) (by decide) kG rX) fun σ H Q ag=>?_
 obtain⟨ρ,w,t,r',q,ρ',gd,ee,k⟩:=ag
 unfold y9 at ee
 split at ee
 next ds q1 ρ1 h1=>
  split at ee
  next rB=>
   split at ee
   next ks h2=>
    split at ee
    next mE=>
     cases ee
     obtain⟨e,dP⟩:=Ha h2
     subst e
     refine⟨ρ,w,t,_,_,_,gd,h1,fun v H1 w1 F1 g1 aD r1=>?_⟩
     obtain⟨p1,vs,rfl,wq,rs⟩:=r1.rK rB
     obtain⟨dJ,rfl,tu⟩:=CN rs
     refine⟨p1,ks,dJ,rfl,wq,tu,by omega,fun p' kp bs jA nd mem He=>?_⟩
     have up:∀ b o,H1 b=some o->upd H1 p' (.ext (S9 X.prog X.w p' kp bs)) b=some o:=fun b o z=>by
      unfold upd
      rw[Qj (fun y=>by rw[y,jA]at z;cases z)]
      exact z
     have kl:kp.length<=ks.length:=mJ nd fun x hx=>(mem x).mp hx
     refine⟨p',kp,bs,rfl,fO,⟨He.1,fun i x b x1 x2=>up _ _ (He.2 i x b x1 x2)⟩,by omega,fun x hx=>dP x ((mem x).mp hx),fun l bF cs hl pm so wu=>?_⟩
     have es:=TR dP nd mem pm so
     subst es
     have gg:=g1.drop (t':=t)
     obtain⟨g2,bg⟩:=gg.grow (H':=upd H1 p' (.ext (S9 X.prog X.w p' kp bs))) (fun b o z=>sm (up b o z)) (gg.wl.tb.upd rfl (.inl jA))
     obtain⟨a1,a2,a3⟩:=l7 g2 hl (y_ wu)
     exact k _ _ _ _ a1 (((aD.drop gd.wt).trans bg).trans a2) a3
    ·cases ee
   ·cases ee
  ·cases ee
 ·cases ee⟩
where
 mJ:∀ {l l':List (Nat×Nat)},l.Nodup->(∀ x∈l,x∈l')->l.length<=l'.length
 | [],_,_,_=>QS _
 | a::l,l',nd,h=>by
  have ha:=h a Qk
  have i:=mJ (l:=l) (l':=l'.erase a) (Q9.mp nd).2 fun x hx=>by
   have ne:x≠a:=fun z=>(Q9.mp nd).1 (z ▸ hx)
   exact(YR ne).mpr (h x (Qh _ hx))
  rw[Ya ha]at i
  have:0<l'.length:=Ys ha
  show l.length+1<=l'.length
  omega
end
section
variable {prog:Program}{w:World}{A:Around}{E:Value->Shared->Prop}{s:Shared}
def TV{vs:List Value}{Q:Value->Shared->Prop}(hl:s.heap.IsList l vs.toArray)(T:gv prog w s.heap vs kp)(hb:∀ x∈kp,x.2<1000)(dO:vs.length<64)
  (h:∀ (h1:Heap) (h':Heap) (us:List Value) (ks:List (Nat×Nat)) (c:Nat),(∀ b o,s.heap.get? b=some o->h1.get? b=some o)->(∀ b o,s.heap.get? b=some o->h'.get? b=some o)->gv prog w s.heap us ks->(∀ v∈us,v∈vs)->ks.Perm kp->(∀ i j,i<=j->j<ks.length->rk (ks.getD i (0,0))<=rk (ks.getD j (0,0)))->
    h'.get? h1.objs.size=some { cls:=.type "list",data:=.seq us.toArray c }->Q (.ref h1.objs.size) { s with heap:=h' }) :
  wpAny (model prog w) A (call (.builtin "sorted") [.ref l]) Q E s:=by
 refine Jh kind_sorted plain_sorted entry_sorted (args_sorted1 _) ?_
 unfold Builtin.«sorted»
 refine Qa (m:=checkCount "sorted" 1 1 _) (Qc (Qa (collect_list hl ?c1 (by rw[Z1];omega))))
 case c1=>
 have hk:∀ b o,s.heap.get? b=some o->((s.heap.push (seqObj "list" #[] 0)).update s.heap.objs.size (Obj.mapSeq (· ++ vs.toArray))).get? b=some o:=fun b o e=>(Zy _ _ (Y8 (Qm e))).trans (Qd _ e)
 generalize (s.heap.push (seqObj "list" #[] 0)).update s.heap.objs.size (Obj.mapSeq (· ++ vs.toArray))=h' at *
 refine Qa (YL ?c2 (by rw[Z1];omega))
 case c2=>
 have T1:gv prog w (h'.push (seqObj "list" vs.toArray 0)) vs kp:=T.keep fun b o q _=>Qd _ (hk b o q)
 have oL:(h'.push (seqObj "list" vs.toArray 0)).get? h'.objs.size=some (seqObj "list" vs.toArray 0):=Qp _ rfl
 refine Qa (QZ (Q3 Vr ⟨_,oL,rfl⟩ Y1 (CI (s:={ s with heap:=h'.push (seqObj "list" vs.toArray 0) }) oL T1 hb dO fun out bF o1 om o2 o3=>⟨_,rfl,?c3⟩) (Vs _)))
 case c3=>
 refine Qc ⟨_,rfl,?c4⟩
 case c4=>
 have ne:∀ b o,s.heap.get? b=some o->b≠h'.objs.size:=fun b o e=>Qz (Qm (hk b o e))
 have up:∀ (G:Heap) (f:Array Value->Array Value),(∀ b o,s.heap.get? b=some o->G.get? b=some o)->∀ b o,s.heap.get? b=some o->(G.update h'.objs.size (Obj.mapSeq f)).get? b=some o:=
  fun G f q b o e=>(Zy _ _ (Jk (ne b o e))).trans (q b o e)
 unfold sortedHeap
 have g1:=ZX oL (fun _=>(#[]:Array Value))
 have g4:=ZX (Qd (seqObj "list" #[] 0) (Qd (seqObj "tuple" vs.toArray 0) g1)) (fun _=>out.toArray)
 refine h h' _ out bF _ hk ?c5 ?c6 om o2 o3 g4
 case c5=>exact up _ _ fun b o e=>Qd _ (Qd _ (up _ _ (fun b o e=>Qd _ (hk b o e)) b o e))
 case c6=>
  refine⟨o1.1,fun i x q=>?_⟩
  obtain⟨b,e1,k1⟩:=o1.2 i x q
  obtain⟨j,hj,qj⟩:=Zf (om _ (QB e1))
  have gj:kp[j]? = some (kp[j]'(by rw[<- T.1];exact hj)):=Qb _
  obtain⟨b',e2,k2⟩:=T.2 j _ gj
  rw[Qb hj,qj]at e2
  cases e2
  obtain⟨b2,e3,k3⟩:=T1.2 j _ gj
  rw[Qb hj,qj]at e3
  cases e3
  have:=k3.inj k1
  rw[this]at k2
  exact⟨b,e1,k2⟩
end
section
variable {X:Cx}{a:Expr}{fa:aB}{p pos:Pos}
def TX:iE X (.builtin "sorted") (fun xs H Q=>∃ t kp bs,xs=[.ref t]/\cn X.K H t (bs.map V.ref)/\mH X.K H kp bs/\kp.length<64/\(∀ x∈kp,x.2<1000) /\
  ∀ p ks cs,H p=none->ks.Perm kp->(∀ i j,i<=j->j<ks.length->rk (ks.getD i (0,0))<=rk (ks.getD j (0,0)))->mH X.K H ks cs->Q (.ref p) (upd H p (.lst (cs.map V.ref)))):=by
 intro pins s σ H xs us Q I r hh
 obtain⟨t,kp,bs,rfl,hq,⟨len,tu⟩,dO,hb,q⟩:=hh
 obtain⟨u,rfl,ru⟩:=jw r
 cases ru
 obtain⟨ao,rv,pl,_⟩:=I.list hq
 have ei:=CJ rv
 subst ei
 have T0:gv X.prog X.w s.heap (bs.map Value.ref) kp:=⟨by rw[Qe,len],fun i x e=>by
  have hi:=(Qr.mp e).1
  have eb:bs[i]? = some (bs[i]'(by rw[<- len];exact hi)):=Qb _
  exact⟨_,by rw[Ql,eb];rfl,qc I (.inl (.inl (tu i x _ e eb)))⟩⟩
 refine TV pl.isList T0 hb (by rw[Qe,<- len];exact dO) fun h1 h' us ks c k1 o8 T mb pm so hg=>?_
 obtain⟨cs,rfl⟩:∃ cs:List Addr,us=cs.map Value.ref:=by
  have:∀ (l:List Value),(∀ v∈l,v∈bs.map Value.ref)->∃ cs:List Addr,l=cs.map Value.ref:=by
   intro l
   induction l with
   | nil=>intro _;exact⟨[],rfl⟩
   | cons v l ih=>
    intro h
    obtain⟨cs,e⟩:=ih fun w hw=>h w (Qh _ hw)
    obtain⟨b,_,rfl⟩:=Qx.mp (h v Qk)
    exact⟨b::cs,by rw[e];rfl⟩
  exact this us mb
 have lc:cs.length=ks.length:=by have:=T.1;rwa [Qe]at this
 refine⟨.ref h1.objs.size,_,yS (o:=.lst (cs.map V.ref)) (t':=s.toks) I k1 (Qg _) o8 ⟨JU (by rw[Qe,lc,pm.length_eq];omega),cs.map Value.ref,c,wo cs,hg⟩,rfl,q _ ks cs (vX I.aw k1 (Qg _)) pm so ⟨lc.symm,fun i x b x1 x2=>?_⟩⟩
 obtain⟨a,y1,y2⟩:=T.2 i x x1
 rw[Ql,x2]at y1
 cases y1
 obtain⟨b',fU,e⟩:=Qx.mp (mb (.ref b) (Qx.mpr ⟨b,QB x2,rfl⟩))
 cases e
 obtain⟨j,hj,qj⟩:=Zf fU
 have gj:kp[j]? = some (kp[j]'(by rw[len];exact hj)):=Qb _
 have sq:=tu j _ b gj (by rw[Qb hj,qj])
 have:=CK ((qc I (.inl (.inl sq))).inj y2)
 rw[this]at sq
 exact sq
def iM (ks:List (Nat×Nat)):List (Nat×Nat):=ks.mergeSort fun a b=>decide (rk a<=rk b)
def CQ(hb:∀ x∈kp,x.2<1000)(pm:bF.Perm kp)(so:∀ i j,i<=j->j<bF.length->rk (bF.getD i (0,0))<=rk (bF.getD j (0,0))):bF=iM kp:=by
 have p1:bF.Perm (iM kp):=pm.trans (J6 _ _).symm
 have u1:(bF.map rk).Pairwise (· <= ·):=by
  rw[JO,Jg]
  intro i j hi hj rp
  have:=so i j (by omega) hj
  rw[Qf,Qf,Qb hi,Qb hj]at this
  exact this
 have u2:((iM kp).map rk).Pairwise (· <= ·):=by
  rw[JO]
  have:=Yl (le:=fun a b:Nat×Nat=>decide (rk a<=rk b)) (fun a b c h1 h2=>Qy (V3 (Q8 h1) (Q8 h2))) (fun a b=>by
   rcases Uy (rk a) (rk b)with h|h
   ·rw[Qy h];rfl
   ·rw[Qy h,Uz]) kp
  exact this.imp fun h=>Q8 h
 have e:=lks_uniq (p1.map rk) u1 u2
 have key:∀ (l m:List (Nat×Nat)),(∀ x∈l,x.2<1000)->(∀ x∈m,x.2<1000)->l.map rk=m.map rk->l=m:=by
  intro l
  induction l with
  | nil=>
   intro m _ _ h
   cases m with
   | nil=>rfl
   | cons _ _=>cases h
  | cons a l ih=>
   intro m h1 h2 h
   cases m with
   | nil=>cases h
   | cons b m=>
    rw[QK,QK]at h
    injection h with q1 q2
    rw[Hb (h1 a Qk) (h2 b Qk) q1,ih m (fun x hx=>h1 x (Qh _ hx)) (fun x hx=>h2 x (Qh _ hx)) q2]
 exact key _ _ (fun x hx=>hb x (pm.mem_iff.mp hx)) (fun x hx=>hb x ((J6 _ _).mem_iff.mp hx)) e
def CS (fa:aB):aB:=fun ρ=>match fa ρ with
 | some (.lst ds,q,ρ1)=>if q<=1 then match o9 ds with
  | some ks=>if ks.length<64 then some (.lst ((iM ks).map ay),1,ρ1)else none
  | none=>none
  else none
 | _=>none
def TY(hm:X.mg "sorted" = none)(ha:QD X a fa)(rW:bootBuiltins "sorted" = some (.builtin "sorted"):=by kernel_rfl)(hg:Gl X "sorted":=by rfl)(hs:starEach [a] X.env=(false,eval a X.env)::starEach [] X.env:=by rfl)(bX:(backTo pos (starEach [] X.env)).any (·.1)=false:=by rfl):QD X (.Call (.Name "sorted" p) [a] [] pos) (CS fa):=⟨have ha:=ha.o;by
 refine PE.imp (nu TX hg hm rW (gE ha jf hs) (by decide) (by decide) hs bX) fun σ H Q ag=>?_
 obtain⟨ρ,w,t,r',q,ρ',gd,ee,k⟩:=ag
 unfold CS at ee
 split at ee
 next ds q1 ρ1 h1=>
  split at ee
  next rB=>
   split at ee
   next ks h2=>
    split at ee
    next mE=>
     cases ee
     obtain⟨e,dP⟩:=Ha h2
     subst e
     refine⟨ρ,w,t,_,_,_,gd,h1,fun v H1 w1 F1 g1 aD r1=>?_⟩
     obtain⟨p1,vs,rfl,wq,rs⟩:=r1.rK rB
     obtain⟨dJ,rfl,tu⟩:=CN rs
     refine⟨p1,ks,dJ,rfl,wq,tu,mE,dP,fun l bF cs hl pm so wu=>?_⟩
     have es:=CQ dP pm so
     subst es
     obtain⟨a1,a2,a3⟩:=l7 (g1.drop (t':=t)) hl (y_ wu)
     exact k _ _ _ _ a1 ((aD.drop gd.wt).trans a2) a3
    ·cases ee
   ·cases ee
  ·cases ee
 ·cases ee⟩
end
section
variable {prog:Program}{w:World}{A:Around}{E:Value->Shared->Prop}{s:Shared}{it d:Addr}{od:Obj}{es:Array DictEntry}{i ep:Nat}
def TZ(lo:(d==sysModules)=false)(hT:s.TypeIs (.ref d) "dict")(ho:s.heap.get? d=some od)(hd:od.data=.dict es ep)
  (q:Q (.ref s.heap.objs.size) { s with heap:=s.heap.push { cls:=.type "dict_keyiterator",data:=.fields #[.ref d,.int 0 0,.int es.size 0,.int ep 0] } }):wpAny (model prog w) A (pyIter (.ref d)) Q E s:=by
 refine JN hT Yu (Q3 Yu hT PySem.F.entry_dict_iter ?_ (PySem.F.args_dict_iter_1 _))
 unfold Builtin.«dict.__iter__» Builtin.Dict.dictSlotNone
 refine Qa (Qa (Yy hT (show wpAny _ _ (pure (Value.ref d)) _ _ s from Qc (show wpAny _ _ (Builtin.Dict.showsAll d >>= _) _ _ s from ?_))))
 unfold Builtin.Dict.showsAll
 rw[Qj (by rw[lo];exact Ze)]
 refine Qa (Qc (Qa (ZU ho hd (Qa (Yf ho hd (Qa (Zd (Qc ⟨_,rfl,"dict_keyiterator",_,⟨_,Qp _ rfl,rfl⟩,Zz.lookup,?_⟩))))))))
 simpa [rawInt]using q
def T3{Q:Option Value->Shared->Prop}(hit:s.heap.IsKeyIter it d i es.size ep)(wx:s.heap.get? d=some od)(wy:od.data=.dict es ep)(hi:i<es.size)
  (q:∀ h',h'.IsKeyIter it d (i+1) es.size ep->Heap.SameBut it s.heap h'->Q (some es[i].key) { s with heap:=h' }):wpAny (model prog w) A (pyNext (.ref it)) Q E s:=by
 obtain⟨o,ho,hc,hd⟩:=id hit
 unfold pyNext
 refine Qa (Js (Zv (name:=Str.ofString "__next__") hit.typeIs Zz (Q3 Zz hit.typeIs Yc ?body (J9 _))))
 case body=>
 refine Qa (Qc (Qa (Qa (Qa (Z3 hit.typeIs (Qc (Qa (JT ho hd ?b1))))))))
 case b1=>
 simp only[show Builtin.Dict_items.ownsTuple "dict_keyiterator" = false from by decide,Qu,Zp]
 refine(show wpAny _ _ (if(Value.ref d==Value.none)=true then _ else _) _ _ s from ?b2)
 case b2=>
 rw[Qj (show ¬ ((Value.ref d==Value.none)=true)from Ze)]
 refine Qa (Qc (Qa (ZU wx wy ?b3)))
 case b3=>
 rw[Qj (by simp)]
 refine Qa (Qc (Qa (Yf wx wy ?b4)))
 case b4=>
 rw[Qj (by simp)]
 refine Qc ?b5
 case b5=>
 simp only[show ¬ ((i:Int)<0)from by omega,Zp,Yq,Q1 hi]
 refine Qa (Qa (Z3 hit.typeIs (Qc (Qa (wpAny_isOneOf_keyiter hit.typeIs ?b6)))))
 case b6=>
 refine(show wpAny _ _ (setField (.ref it) 1 (rawInt ((i:Int)+1)) >>= _) _ _ s from Qa (Vj ho hd (by simp) ?b7))
 case b7=>
 have oR:(s.heap.update it (Obj.mapFields (·.setIfInBounds 1 (rawInt ((i:Int)+1))))).IsKeyIter it d (i+1) es.size ep:=⟨_,Zk _ ho (Obj.isFreed_of_fields (Yj hd _)),(Obj.cls_mapFields ..).trans hc,by rw[Yj hd];simp[rawInt]⟩
 refine Qa (QZ (Qa (wpAny_isOneOf_keyiter (s:={ s with heap:=s.heap.update it (Obj.mapFields (·.setIfInBounds 1 (rawInt ((i:Int)+1)))) }) oR.typeIs ?b8)))
 case b8=>exact(show wpAny _ _ (pure es[i].key) _ _ _ from Qc (Qc ⟨_,rfl,Qc (q _ oR (QT ..))⟩))
def T4{Q:Option Value->Shared->Prop}(hh:A.handled=none)(hit:s.heap.IsKeyIter it d es.size es.size ep)(wx:s.heap.get? d=some od)(wy:od.data=.dict es ep)
  (q:∀ h',Heap.ExtBut it s.heap h'->Q none { s with heap:=h' }):wpAny (model prog w) A (pyNext (.ref it)) Q E s:=by
 obtain⟨o,ho,hc,hd⟩:=id hit
 unfold pyNext
 refine Qa (Js (Zv (name:=Str.ofString "__next__") hit.typeIs Zz (Q3 Zz hit.typeIs Yc ?body (J9 _))))
 case body=>
 refine Qa (Qc (Qa (Qa (Qa (Z3 hit.typeIs (Qc (Qa (JT ho hd ?b1))))))))
 case b1=>
 simp only[show Builtin.Dict_items.ownsTuple "dict_keyiterator" = false from by decide,Qu,Zp]
 refine(show wpAny _ _ (if(Value.ref d==Value.none)=true then _ else _) _ _ s from ?b2)
 case b2=>
 rw[Qj (show ¬ ((Value.ref d==Value.none)=true)from Ze)]
 refine Qa (Qc (Qa (ZU wx wy ?b3)))
 case b3=>
 rw[Qj (by simp)]
 refine Qa (Qc (Qa (Yf wx wy ?b4)))
 case b4=>
 rw[Qj (by simp)]
 refine Qc ?b5
 case b5=>
 simp only[show ¬ ((es.size:Int)<0)from by omega,Zp,Yq,Zo (Qg es.size)]
 refine Qa (Qa (Z3 hit.typeIs (Qc ?b6)))
 case b6=>
 refine(show wpAny _ _ (setField (.ref it) 0 .none >>= _) _ _ s from Qa (Vj ho hd (by simp) (show wpAny _ _ (newExc (.type "StopIteration") [] >>= _) _ _ _ from Qa ?b7)))
 case b7=>
 simp only[newExc,newTuple]
 refine Qa (Zd (Qa (m:=firstArgMember _ _) (YN (a:=Value.none) (by first|rfl|(simp only[firstArgMember];rfl)) (Zd ?b8 (by size_fits)))) (by size_fits))
 case b8=>
 simp only[raiseNew]
 refine Qa (VE ?b9)
 case b9=>
 rw[show A.in1.handled=none from hh]
 refine Qa (Qc (Uj ?bx))
 case bx=>
 refine Qa (J0 (b:=true) (T:="StopIteration") ⟨_,Qp _ rfl,rfl⟩ Uq (Qc (q _ (((QT ..).extBut.push _).push _))))
def Hf(lo:(d==sysModules)=false)(hc:od.cls=.type "dict")(hd:od.data=.dict es ep):KdlSrc prog w "dict" d d es.size (fun i v=>∃ e,es[i]? = some e/\v=e.key) (fun h=>h.get? d=some od) where
 type:=fun _ h=>⟨_,h,hc⟩
 there:=fun _ h=>⟨Qm h,Qm h⟩
 keep:=fun _ _ h k=>k d (.inl rfl) _ h
 notList:=by decide
 notTuple:=by decide
 hint:=fun _ _ _ _ h q=>kdl_hint_dict ⟨_,h,hc⟩ q
 iter:=fun A s hh h=>⟨_,fun i h'=>h'.IsKeyIter s.heap.objs.size d i es.size ep/\h'.get? d=some od,(fun _ _ q=>TZ lo ⟨_,h,hc⟩ h hd q),{
  sub:=fun b hb=>by simp at hb;simp[hb]
  frame:=fun _ _ _ st k=>⟨st.1.at fun o e=>k _ (by simp) o e,k d (by simp) _ st.2⟩
  item:=fun i s' Q E hi st q=>T3 st.1 st.2 hd hi fun h' cS sb=>q _ h' s'.toks ⟨_,Q1 hi,rfl⟩ ⟨cS,by rw[sb.2 d (Qz (Qm h))];exact st.2⟩ fun b o hb e=>sb.extBut b o (fun z=>hb (by simp[z])) e
  done:=fun s' Q E st q=>T4 hh st.1 st.2 hd fun h' he=>q h' s'.toks fun b o hb e=>he b o (fun z=>hb (by simp[z])) e
  self:=fun _ _ _ _ st q=>wpAny_pyIter_keyiter st.1 q },⟨_,Qp _ rfl,rfl,rfl⟩,Qd _ h⟩
end
section
variable {prog:Program}{w:World}{A:Around}{E:Value->Shared->Prop}{s:Shared}
def T5{ty:String}{r d:Addr}{n:Nat}{Pv:Nat->Value->Prop}{OK:Heap->Prop}{bs:List Addr}{Q:Value->Shared->Prop}(S:KdlSrc prog w ty r d n Pv OK)(hh:A.handled=none)(ho:OK s.heap)(dO:n<64)(hb:∀ x∈kp,x.2<1000)
  (wk:∀ vs:List Value,vs.length=n->(∀ (j:Nat) (v:Value),vs[j]? = some v->Pv j v)->∃ ks:List (Nat×Nat),gv prog w s.heap vs ks/\ks.Perm kp/\∀ v∈vs,∃ b∈bs,v=.ref b)
  (h:∀ (h1:Heap) (h':Heap) (tk:Nat) (us:List Value) (ks:List (Nat×Nat)) (c:Nat),(∀ b o,s.heap.get? b=some o->h1.get? b=some o)->(∀ b o,s.heap.get? b=some o->h'.get? b=some o)->gv prog w s.heap us ks->(∀ v∈us,∃ b∈bs,v=.ref b)->ks.Perm kp->(∀ i j,i<=j->j<ks.length->rk (ks.getD i (0,0))<=rk (ks.getD j (0,0)))->
    h'.get? h1.objs.size=some { cls:=.type "list",data:=.seq us.toArray c }->Q (.ref h1.objs.size) { s with heap:=h',toks:=tk }) :
  wpAny (model prog w) A (call (.builtin "sorted") [.ref r]) Q E s:=by
 refine Jh kind_sorted plain_sorted entry_sorted (args_sorted1 _) ?_
 unfold Builtin.«sorted»
 refine Qa (m:=checkCount "sorted" 1 1 _) (Qc (Qa (kdu_collect (A:=A.in1) S hh ho (JU (by omega)) fun h' tk acc hk bP=>?c1)))
 case c1=>
 have hl:acc.toList.length=n:=by rw[QH];exact bP.1
 refine Qa (YL ?c2 (by rw[hl];exact JU (by omega)))
 case c2=>
 obtain⟨ks,T,pm,mb⟩:=wk acc.toList hl fun j v e=>bP.2 j v (by rw[<- QV];exact e)
 have T1:gv prog w (h'.push (seqObj "list" acc.toList.toArray 0)) acc.toList ks:=T.keep fun b o q _=>Qd _ (hk b o q)
 have oL:(h'.push (seqObj "list" acc.toList.toArray 0)).get? h'.objs.size=some (seqObj "list" acc.toList.toArray 0):=Qp _ rfl
 refine Qa (QZ (Q3 Vr ⟨_,oL,rfl⟩ Y1 (CI oL T1 (fun x hx=>hb x (pm.mem_iff.mp hx)) (by rw[hl];exact dO) fun out bF o1 om o2 o3=>⟨_,rfl,?c3⟩) (Vs _)))
 case c3=>
 refine Qc ⟨_,rfl,?c4⟩
 case c4=>
 have ne:∀ b o,s.heap.get? b=some o->b≠h'.objs.size:=fun b o e=>Qz (Qm (hk b o e))
 have up:∀ (G:Heap) (f:Array Value->Array Value),(∀ b o,s.heap.get? b=some o->G.get? b=some o)->∀ b o,s.heap.get? b=some o->(G.update h'.objs.size (Obj.mapSeq f)).get? b=some o:=
  fun G f q b o e=>(Zy _ _ (Jk (ne b o e))).trans (q b o e)
 unfold sortedHeap
 have g1:=ZX oL (fun _=>(#[]:Array Value))
 have g4:=ZX (Qd (seqObj "list" #[] 0) (Qd (seqObj "tuple" acc.toList.toArray 0) g1)) (fun _=>out.toArray)
 refine h h' _ _ out bF _ hk ?c5 ?c6 (fun v hv=>mb v (om v hv)) (o2.trans pm) o3 g4
 case c5=>exact up _ _ fun b o e=>Qd _ (Qd _ (up _ _ (fun b o e=>Qd _ (hk b o e)) b o e))
 case c6=>
  refine⟨o1.1,fun i x q=>?_⟩
  obtain⟨b,e1,k1⟩:=o1.2 i x q
  obtain⟨j,hj,qj⟩:=Zf (om _ (QB e1))
  have gj:ks[j]? = some (ks[j]'(by rw[<- T.1];exact hj)):=Qb _
  obtain⟨b',e2,k2⟩:=T.2 j _ gj
  rw[Qb hj,qj]at e2
  cases e2
  obtain⟨b2,e3,k3⟩:=T1.2 j _ gj
  rw[Qb hj,qj]at e3
  cases e3
  have:=k3.inj k1
  rw[this]at k2
  exact⟨b,e1,k2⟩
end
abbrev bo (x:Nat×Nat):List Key:=[.inl (Int.ofNat x.1),.inl (Int.ofNat x.2)]
def T6:∀ {ai:List (List Key×V)} {xs:List (List Key×Addr×Value)} {kp:List (Nat×Nat)},KT H ai xs->ai.map (·.1)=kp.map bo->mH K H kp (xs.map (·.2.1)):=by
 intro ai xs kp r
 induction r generalizing kp with
 | nil=>
  intro e
  have:kp=[]:=J4.mp e.symm
  subst this
  exact⟨rfl,fun i x b e1 _=>by simp at e1⟩
 | @cons p q ps qs hq t ih=>
  intro e
  cases kp with
  | nil=>cases e
  | cons x kp=>
   rw[QK,QK]at e
   injection e with e1 e2
   obtain⟨l,tu⟩:=ih e2
   refine⟨by rw[Zh,QK,Zh,l],fun i y b z1 z2=>?_⟩
   cases i with
   | zero=>
    cases z1
    cases z2
    have:=hq.2.1
    rw[e1]at this
    exact this
   | succ i=>exact tu i y b z1 z2
section
variable {X:Cx}
def T7(hc:X.calm=true):iE X (.builtin "sorted") (fun xs H Q=>∃ t ai kp,xs=[.ref t]/\H t=some (.dT ai)/\ai.map (·.1)=kp.map bo/\kp.length<64/\(∀ x∈kp,x.2<1000) /\
  ∀ p ks cs,H p=none->ks.Perm kp->(∀ i j,i<=j->j<ks.length->rk (ks.getD i (0,0))<=rk (ks.getD j (0,0)))->mH X.K H ks cs->Q (.ref p) (upd H p (.lst (cs.map V.ref)))):=by
 intro pins s σ H xs us Q I r hh
 obtain⟨t,ai,kp,rfl,hq,ek,dO,hb,q⟩:=hh
 obtain⟨u,rfl,ru⟩:=jw r
 cases ru
 obtain⟨_,lo,zs,kt,o,es,ep,ho,hx,hd,he,_,_⟩:=tI I.aw hq
 have tu:mH X.K H kp (zs.map (·.2.1)):=T6 kt ek
 have len:es.size=kp.length:=by
  rw[<- QH,he,Qe,tu.1,Qe]
 have gk:∀ (i:Nat) (e:DictEntry),es[i]? = some e->∃ b:Addr,(zs.map (·.2.1))[i]? = some b/\e.key=Value.ref b:=fun i e h=>by
  rw[<- QV,he,Ql,Qw]at h
  obtain⟨z,z1,rfl⟩:=h
  exact⟨z.2.1,by rw[Ql,z1];rfl,rfl⟩
 refine T5 (bs:=zs.map (·.2.1)) (kp:=kp) (Hf lo hx.1 hd) (I.ok.hd hc) ho (by rw[len];exact dO) hb (fun vs hl hv=>?w1) fun h1 h' tk us ks c k1 o8 T mb pm so hg=>?w2
 case w1=>
  refine⟨kp,⟨by rw[hl,len],fun i x e=>?_⟩,Ur _,fun v m=>?_⟩
  ·have hi:=(Qr.mp e).1
   obtain⟨e',q1,q2⟩:=hv i _ (Qb (by rw[hl,len];exact hi))
   obtain⟨b,q3,q4⟩:=gk i e' q1
   exact⟨b,by rw[Qb (by rw[hl,len];exact hi),q2,q4],qc I (.inl (.inl (tu.2 i x b e q3)))⟩
  ·obtain⟨j,hj,qj⟩:=Zf m
   obtain⟨e',q1,q2⟩:=hv j v (by rw[Qb hj,qj])
   obtain⟨b,q3,q4⟩:=gk j e' q1
   exact⟨b,QB q3,by rw[q2,q4]⟩
 case w2=>
  obtain⟨cs,rfl⟩:∃ cs:List Addr,us=cs.map Value.ref:=by
   have:∀ (l:List Value),(∀ v∈l,∃ b∈zs.map (·.2.1),v=.ref b)->∃ cs:List Addr,l=cs.map Value.ref:=by
    intro l
    induction l with
    | nil=>intro _;exact⟨[],rfl⟩
    | cons v l ih=>
     intro h
     obtain⟨cs,e⟩:=ih fun w hw=>h w (Qh _ hw)
     obtain⟨b,_,rfl⟩:=h v Qk
     exact⟨b::cs,by rw[e];rfl⟩
   exact this us mb
  have lc:cs.length=ks.length:=by have:=T.1;rwa [Qe]at this
  refine⟨.ref h1.objs.size,_,yS (o:=.lst (cs.map V.ref)) I k1 (Qg _) o8 ⟨JU (by rw[Qe,lc,pm.length_eq];omega),cs.map Value.ref,c,wo cs,hg⟩,rfl,q _ ks cs (vX I.aw k1 (Qg _)) pm so ⟨lc.symm,fun i x b x1 x2=>?_⟩⟩
  obtain⟨a,y1,y2⟩:=T.2 i x x1
  rw[Ql,x2]at y1
  cases y1
  obtain⟨b',fU,e⟩:=mb (.ref b) (Qx.mpr ⟨b,QB x2,rfl⟩)
  cases e
  obtain⟨j,hj,qj⟩:=Zf fU
  have gj:kp[j]? = some (kp[j]'(by rw[tu.1];exact hj)):=Qb _
  have sq:=tu.2 j _ b gj (by rw[Qb hj,qj])
  have:=CK ((qc I (.inl (.inl sq))).inj y2)
  rw[this]at sq
  exact sq
end
section
variable {α β:Type}[DecidableEq α]
def vL:List α->List β->α->Option β
 | x::ks,d::ds,k=>if x=k then some d else vL ks ds k
 | _,_,_=>none
def ki (ks:List α)(k:α):Bool:=ks.any fun x=>decide (x=k)
def iN:List α->List β->α->β->List β
 | x::ks,d::ds,k,e=>(if x=k then e else d)::iN ks ds k e
 | _,_,_,_=>[]
end
def za{α β:Type}[DecidableEq α](k:α)(e:β):∀ {ks:List α} {ds:List β},ks.length=ds.length->(iN ks ds k e).length=ds.length
 | [],[],_=>rfl
 | x::ks,d::ds,h=>by
  show(iN ks ds k e).length+1=ds.length+1
  rw[za k e (JD h)]
def wz{α:Type}[DecidableEq α](k:α):∀ (ks:List α) (vs:List V),f_ (ks.zip vs) k=vL ks vs k
 | [],_=>rfl
 | _::_,[]=>rfl
 | x::ks,v::vs=>by
  show f_ ((x,v)::ks.zip vs) k=_
  unfold vL
  by_cases h:x=k
  ·rw[xV h,Qi h]
  ·rw[xW h,Qj h,wz k ks vs]
def Hg{α:Type}[DecidableEq α](k:α):∀ (ks:List α) (vs:List V),ks.length=vs.length->((ks.zip vs).any fun kv=>decide (kv.1=k))=ki ks k
 | [],[],_=>rfl
 | x::ks,v::vs,h=>by
  rw[Yk,JH,Hg k ks vs (JD h)]
  rfl
def CT{α:Type}[DecidableEq α](k:α)(u:V)(ks:List α)(vs:List V)(h:ks.length=vs.length) :
  gh (ks.zip vs) k u=if ki ks k=true then ks.zip (iN ks vs k u)else(ks++[k]).zip (vs++[u]):=by
 unfold gh
 rw[Hg k ks vs h]
 by_cases hk:ki ks k=true
 ·rw[Qi hk,Qi hk]
  clear hk
  induction ks generalizing vs with
  | nil=>rfl
  | cons x ks ih=>
   cases vs with
   | nil=>cases h
   | cons v vs=>
    show(if x=k then(x,u)else(x,v))::_=(x,if x=k then u else v)::_
    have:=ih vs (JD h)
    unfold List.zip at this
    rw[this]
    by_cases hx:x=k
    ·rw[Qi hx,Qi hx]
    ·rw[Qj hx,Qj hx]
 ·rw[Qj hk,Qj hk,V7 h]
  rfl
section
variable {K:PySem.W.Frag}{H:Hp}{w:Wn}{o:Ow}
def af.split(r:af K H w o 0 (d::ds) vs []):∃ v us,vs=v::us/\Rep K H w o 0 d v []/\af K H w o 0 ds us []:=by
 generalize hF:([]:List Addr)=F at r
 cases r with
 | @cons _ d' v' cj fg F' G' r s _=>
  have h1:F'=[]:=r.zero
  have h2:G'=[]:=s.zero
  subst h1 h2
  exact⟨v',fg,rfl,r,s⟩
def af.rY(r:Rep K H w o 0 d v [])(s:af K H w o 0 ds vs []):af K H w o 0 (d::ds) (v::vs) []:=.cons (F:=[]) (G:=[]) r s nM
def af.o_(r:af K H w o 0 [] vs []):vs=[]:=by
 have:=r.length
 cases vs with
 | nil=>rfl
 | cons _ _=>cases this
def zb{α:Type}[DecidableEq α](k:α):∀ {ks:List α} {ds:List D} {vs:List V},af K H w o 0 ds vs []->
  (∀ d,vL ks ds k=some d->∃ v,vL ks vs k=some v/\Rep K H w o 0 d v [])/\(vL ks ds k=none->vL ks vs k=none)
 | [],ds,vs,r=>⟨fun d h=>by simp[vL]at h,fun _=>by simp[vL]⟩
 | x::ks,[],vs,r=>by
  rw[r.o_]
  exact⟨fun d h=>by simp[vL]at h,fun _=>by simp[vL]⟩
 | x::ks,d::ds,vs,r=>by
  obtain⟨v,us,rfl,r1,s⟩:=r.split
  have ih:=zb k (ks:=ks) s
  by_cases hx:x=k
  ·simp only[vL,Qi hx]
   exact⟨fun d' h=>by cases h;exact⟨v,rfl,r1⟩,fun h=>by cases h⟩
  ·simp only[vL,Qj hx]
   exact ih
def zc{α:Type}[DecidableEq α](k:α){e:D}(re:Rep K H w o 0 e u []):∀ {ks:List α} {ds:List D} {vs:List V},af K H w o 0 ds vs []->af K H w o 0 (iN ks ds k e) (iN ks vs k u) []
 | [],ds,vs,r=>by simp only[iN];exact .nil
 | x::ks,[],vs,r=>by
  rw[r.o_]
  simp only[iN];exact .nil
 | x::ks,d::ds,vs,r=>by
  obtain⟨v,us,rfl,r1,s⟩:=r.split
  simp only[iN]
  refine .rY ?_ (zc k re s)
  by_cases hx:x=k
  ·rw[Qi hx,Qi hx];exact re
  ·rw[Qj hx,Qj hx];exact r1
end
def zd:D->Option Key
 | .int i=>some (.inl i)
 | .str x=>some (.inr x)
 | _=>none
def zf:List D->Option (List Key)
 | []=>some []
 | d::ds=>match zd d with
  | some k=>(zf ds).map (k :: ·)
  | none=>none
def ua:D->Option (List Key)
 | .tup ds=>zf ds
 | _=>none
def rZ:MK->List D->D->Option (Option D)
 | .t ks,ds,x=>(ua x).map fun y=>vL ks ds y
 | .k ks,ds,x=>(zd x).map fun y=>vL ks ds y
 | .i _ _,_,_=>none
def wA:MK->List D->D->D->Option (MK×List D)
 | .t ks,ds,x,d=>(ua x).map fun y=>if ki ks y=true then(.t ks,iN ks ds y d)else(.t (ks++[y]),ds++[d])
 | .k ks,ds,x,d=>(zd x).map fun y=>if ki ks y=true then(.k ks,iN ks ds y d)else(.k (ks++[y]),ds++[d])
 | .i _ _,_,_,_=>none
section
variable {K:PySem.W.Frag}{H:Hp}{w:Wn}{o:Ow}
def CU{x:D}{k:Key}(h:zd x=some k)(r:Rep K H w o q x v F):v=kV k:=by
 cases x<;>cases h<;>cases r<;>rfl
def Hh:∀ {ds:List D} {ks:List Key} {vs:List V},zf ds=some ks->af K H w o 0 ds vs []->vs=ks.map kV
 | [],ks,vs,h,r=>by
  cases h
  exact r.o_
 | d::ds,ks,vs,h,r=>by
  unfold zf at h
  split at h
  next k hk=>
   obtain⟨bF,e,rfl⟩:=Qw.mp h
   obtain⟨v,us,rfl,r1,s⟩:=r.split
   rw[CU hk r1,Hh e s]
   rfl
  ·cases h
def CV{x:D}{k:List Key}(h:ua x=some k)(r:Rep K H w o q x v F):∃ b,v=.ref b/\H b=some (.tup (k.map kV)):=by
 cases x with
 | tup ds=>
  obtain⟨a,vs,rfl,e,rs⟩:=r.pJ
  rw[Hh h rs]at e
  exact⟨a,rfl,e⟩
 | _=>cases h
def Hi{k:MK}{x:D}{y:V}{r:Option D}(hH:H a=some z)(i:k.Is K vs z)(rs:af K H w o 0 ds vs [])(rx:Rep K H w' o' q x y F)(h:rZ k ds x=some r) :
  ∃ rv,la H a y rv/\(∀ d,r=some d->∃ v,rv=some v/\Rep K H w o 0 d v [])/\(r=none->rv=none):=by
 cases k with
 | t ks=>
  obtain⟨kk,e,rfl⟩:=Qw.mp h
  cases i
  obtain⟨b,rfl,hb⟩:=CV e rx
  refine⟨_,la.t hH hb,?_⟩
  rw[wz]
  exact zb kk rs
 | k ks=>
  obtain⟨kk,e,rfl⟩:=Qw.mp h
  cases i
  rw[CU e rx]
  refine⟨_,la.k hH,?_⟩
  rw[wz]
  exact zb kk rs
 | i C fs=>cases h
def T8{k k':MK}{cj:List D}{x:D}{y:V}(hH:H a=some z)(i:k.Is K vs z)(hl:k.len=ds.length)(dO:ds.length<1000)(rs:af K H w o 0 ds vs [])(rx:Rep K H w' o' q x y F)(rd:Rep K H w o 0 d u [])(h:wA k ds x d=some (k',cj)) :
  ∃ z' fg,oq H a y u (upd H a z')/\k'.Is K fg z'/\k'.len=cj.length/\af K H w o 0 cj fg []:=by
 have lv:=rs.length
 cases k with
 | t ks=>
  obtain⟨kk,e,hh⟩:=Qw.mp h
  cases i
  obtain⟨b,rfl,hb⟩:=CV e rx
  have hl:ks.length=ds.length:=hl
  have dp:=oq.t (v:=u) hH hb (by rw[Z7,<- lv,hl,JC];exact kI (ZN dO))
  rw[CT kk u ks vs (by omega)]at dp
  by_cases hk:ki ks kk=true
  ·rw[Qi hk]at hh dp
   cases hh
   exact⟨_,_,dp,rfl,(hl.trans (za kk d hl).symm),zc kk rd rs⟩
  ·rw[Qj hk]at hh dp
   cases hh
   refine⟨_,_,dp,rfl,?_,af.snoc (F:=[]) (G:=[]) rd rs nM⟩
   show(ks++[kk]).length=_
   rw[Qo,Qo,hl]
   rfl
 | k ks=>
  obtain⟨kk,e,hh⟩:=Qw.mp h
  cases i
  rw[CU e rx]
  have hl:ks.length=ds.length:=hl
  have dp:=oq.k (k:=kk) (v:=u) hH (by rw[Z7,<- lv,hl,JC];exact kI (ZN dO))
  rw[CT kk u ks vs (by omega)]at dp
  by_cases hk:ki ks kk=true
  ·rw[Qi hk]at hh dp
   cases hh
   exact⟨_,_,dp,rfl,(hl.trans (za kk d hl).symm),zc kk rd rs⟩
  ·rw[Qj hk]at hh dp
   cases hh
   refine⟨_,_,dp,rfl,?_,af.snoc (F:=[]) (G:=[]) rd rs nM⟩
   show(ks++[kk]).length=_
   rw[Qo,Qo,hl]
   rfl
 | i C fs=>cases h
end
def T9(v:OX):oz v.ho=false:=by cases v<;>rfl
def MK.CW{k:MK}{x:HO}(h:k.Is K vs x):oz x=false:=by
 obtain⟨v,rfl⟩:=MK.ox h
 exact T9 v
section
variable {K:PySem.W.Frag}{σ:St}{ρ:aR}{t:Nat}
def T_{H1:Hp}{p:Addr}{w1:Wn}{k:MK}(g:Good K ρ σ H1 w1 t)(hp:H1 p=none)(i:k.Is K vs z)(hl:k.len=ds.length)(r:af K H1 w1 .f 0 ds vs []) :
  Good K ρ σ (upd H1 p z) (j0 p (.t t) w1) (t+1)/\Go H1 w1 (upd H1 p z) (j0 p (.t t) w1)/\Rep K (upd H1 p z) (j0 p (.t t) w1) (.t t) 1 (.mp k ds) (.ref p) [p]:=by
 have ne:∀ a x,H1 a=some x->a≠p:=fun a x e=>iC e hp
 have nw:∀ a o,w1 a=some o->a≠p:=fun a o e=>by obtain⟨vs,q⟩:=g.wl a o e;exact ne a _ q
 have st:c_ H1 w1 (upd H1 p z) (j0 p (.t t) w1):=fun a x e n=>⟨sm (by rw[a0 (ne a x e)];exact e),by rw[ia (ne a x e)];exact n⟩
 refine⟨⟨⟨fun a o e=>?_,g.wl.tb.upd (MK.CW i) (.inl hp)⟩,fun a i e=>?_,fun a i e=>?_,g.len,fun i d q e=>?_⟩,⟨st,fun a o e _=>⟨a0 (nw a o e),(ia (nw a o e)).trans e⟩⟩,?_⟩
 ·by_cases h:a=p
  ·subst h
   obtain⟨v,rfl⟩:=MK.ox i
   exact⟨v,fO⟩
  ·rw[ia h]at e
   obtain⟨us,q⟩:=g.wl a o e
   exact⟨us,by rw[a0 h];exact q⟩
 ·by_cases h:a=p
  ·subst h;rw[oB]at e;cases e
  ·rw[ia h]at e;exact g.ws a i e
 ·by_cases h:a=p
  ·subst h;rw[oB]at e;cases e;exact Zn _
  ·rw[ia h]at e;exact Zi (g.wt a i e)
 ·obtain⟨v,F,h1,h2⟩:=g.slot i d q e
  exact⟨v,F,h1,Rep.go g.wl st h2 fun a m=>⟨a0 (nw a _ (h2.aC a m)),(ia (nw a _ (h2.aC a m))).trans (h2.aC a m)⟩⟩
 ·exact .kK fO i oB hl (af.go g.wl st r nM)
def Rep.r_{k:MK}(r:Rep K H w o q (.mp k ds) v F):∃ a vs z,v=.ref a/\H a=some z/\k.Is K vs z/\k.len=ds.length/\af K H w o 0 ds vs []:=by
 cases r with
 | ny h i e l r=>exact⟨_,_,_,rfl,h,i,l,r⟩
 | kK h i e l r=>exact⟨_,_,_,rfl,h,i,l,r⟩
def Good.km{k:MK}(g:Good K ρ σ H w t)(e:ρ[i]? = some (some (.mp k ds,q))) :
  ∃ l vs z,σ[i]? = some (some (.ref l))/\H l=some z/\k.Is K vs z/\k.len=ds.length/\af K H w .f 0 ds vs []:=by
 obtain⟨v,F,h1,h2⟩:=g.slot i _ _ e
 obtain⟨a,vs,z,rfl,x1,x2,x3,x4⟩:=h2.r_
 exact⟨a,vs,z,h1,x1,x2,x3,x4.any g.wl⟩
def Good.sd{k:MK}(g:Good K ρ σ H w t)(e:ρ[i]? = some (some (.mp k ds,1))) :
  ∃ l vs z,σ[i]? = some (some (.ref l))/\H l=some z/\k.Is K vs z/\k.len=ds.length/\af K H w .f 0 ds vs []/\∀ k' cj fg z',k'.Is K fg z'->k'.len=cj.length->af K H w .f 0 cj fg []->
   Good K (ρ.set i (some (.mp k' cj,1))) σ (upd H l z') w t/\Go H w (upd H l z') w:=by
 obtain⟨v,F,h1,h2⟩:=g.slot i _ _ e
 cases h2 with
 | @kK _ l vs _ _ z hl gJ hw hlen rs=>
  refine⟨l,vs,z,h1,hl,gJ,hlen,rs.any g.wl,fun k' cj fg z' i' l' r'=>?_⟩
  have nl:∀ a o,w a=some o->o ≠ .s i->a≠l:=fun a o e n z=>by subst z;rw[hw]at e;exact n (QC e).symm
  have nn:∀ a,w a=none->a≠l:=fun a e z=>by subst z;rw[hw]at e;cases e
  have st:c_ H w (upd H l z') w:=fun a x h n=>⟨sm (by rw[a0 (nn a n)];exact h),n⟩
  refine⟨⟨⟨fun a o h=>?_,g.wl.tb.upd (MK.CW i') (.inr (g.wl l _ hw))⟩,g.ws,g.wt,by rw[QN];exact g.len,fun j d' q' e'=>?_⟩,⟨st,fun a o h n=>⟨a0 (nl a o h (n i)),h⟩⟩⟩
  ·by_cases z:a=l
   ·subst z
    obtain⟨v,rfl⟩:=MK.ox i'
    exact⟨v,fO⟩
   ·obtain⟨us,q⟩:=g.wl a o h
    exact⟨us,by rw[a0 z];exact q⟩
  ·by_cases hj:i=j
   ·subst hj
    rw[QL (Qr.mp e).1]at e'
    cases e'
    exact⟨_,_,h1,.kK fO i' hw l' (af.go g.wl st r' nM)⟩
   ·rw[QM hj]at e'
    obtain⟨v',F',pP,mi⟩:=g.slot j d' q' e'
    exact⟨v',F',pP,Rep.go g.wl st mi fun a m=>⟨a0 (nl a _ (mi.aC a m) (fun z=>hj (by cases z;rfl))),mi.aC a m⟩⟩
end
@[simp] def dv:Option (OD)->Bool
 | some (some (.mp (.t _) _,_))=>true
 | some (some (.mp (.k _) _,_))=>true
 | _=>false
def UA{o:Option (OD)}(h:dv o=true):∃ k ds q,o=some (some (.mp k ds,q))/\(∀ C fs,k ≠ .i C fs):=by
 unfold dv at h
 split at h
 ·exact⟨_,_,_,rfl,fun _ _ z=>nomatch z⟩
 ·exact⟨_,_,_,rfl,fun _ _ z=>nomatch z⟩
 ·cases h
def MK.oQ{k:MK}(i:k.Is K vs z)(n:∀ C fs,k ≠ .i C fs)(e:H a=some z):L2.u4 H a:=by
 cases k with
 | t ks=>cases i;exact .inr ⟨_,.inl e⟩
 | k ks=>cases i;exact .inl ⟨_,.inl e⟩
 | i C fs=>exact absurd rfl (n C fs)
def Good.dv{t:Nat}(g:Good K ρ σ H w t)(h:dv ρ[i]? = true):∃ l,σ[i]? = some (some (.ref l))/\L2.u4 H l:=by
 obtain⟨k,ds,q,e,n⟩:=UA h
 obtain⟨l,vs,z,h1,h2,h3,_,_⟩:=g.km e
 exact⟨l,h1,MK.oQ h3 n h2⟩
@[simp] def CY:aB:=fun ρ=>some (.mp (.t []) [],1,ρ)
def ub (i:Nat)(fk:aB):aB:=fun ρ=>if dv ρ[i]? = true then match fk ρ with
 | some (x,_,ρ1)=>match ρ1[i]? with
  | some (some (.mp k ds,_))=>match rZ k ds x with
   | some (some d)=>some (d,h_ d,ρ1)
   | _=>none
  | _=>none
 | none=>none
 else none
def wB (i:Nat)(fk fv:aB):aJ:=fun ρ=>match fv ρ with
 | some (d,_,ρ1)=>if dv ρ1[i]? = true then match fk ρ1 with
  | some (x,_,ρ2)=>match ρ2[i]? with
   | some (some (.mp k ds,1))=>if ds.length<1000 then match wA k ds x d with
    | some (k',cj)=>some (.nx (ρ2.set i (some (.mp k' cj,1))))
    | none=>none
    else none
   | _=>none
  | none=>none
  else none
 | none=>none
def se:List (List Key)->Option (List (Nat×Nat))
 | []=>some []
 | [.inl i,.inl j]::ks=>if 0<=i/\0<=j/\j<1000 then(se ks).map ((i.toNat,j.toNat) :: ·)else none
 | _=>none
def UB:∀ {ks:List (List Key)} {kp:List (Nat×Nat)},se ks=some kp->ks=kp.map bo/\∀ x∈kp,x.2<1000:=by
 intro ks
 induction ks with
 | nil=>intro kp h;cases h;exact⟨rfl,fun x hx=>nomatch hx⟩
 | cons k ks ih=>
  intro kp h
  unfold se at h
  split at h
  ·rename_i h0;cases h0
  next i j bF h0=>
   cases h0
   split at h
   next hb=>
    obtain⟨o8,e,rfl⟩:=Qw.mp h
    obtain⟨e1,e2⟩:=ih e
    refine⟨?_,fun x hx=>?_⟩
    ·rw[QK,<- e1]
     have h1:Int.ofNat i.toNat=i:=J2 hb.1
     have h2:Int.ofNat j.toNat=j:=J2 hb.2.1
     show _=[Sum.inl (Int.ofNat i.toNat),Sum.inl (Int.ofNat j.toNat)]::_
     rw[h1,h2]
    ·rcases Qt.mp hx with z|z
     ·rw[z];show j.toNat<1000;omega
     ·exact e2 x z
   ·cases h
  ·cases h
def Hj:∀ (kp:List (Nat×Nat)),(∀ x∈kp,x.2<1000)->se (kp.map bo)=some kp
 | [],_=>rfl
 | x::kp,h=>by
  have ih:=Hj kp fun y hy=>h y (Qh _ hy)
  have hx:=h x Qk
  show(if 0<=Int.ofNat x.1/\0<=Int.ofNat x.2/\Int.ofNat x.2<1000 then(se (kp.map bo)).map _ else none)=_
  rw[Qi ⟨Vt _,Vt _,by show(x.2:Int)<1000;omega⟩,ih]
  rfl
section
variable {X:Cx}{a b c e:Expr}{fa fb fc f:aB}{p p1 pos pos' aq apos:Pos}{x:Str}{i:Nat}
def Hk:QD X (.Dict [] [] pos) CY:=⟨PE.imp NK fun σ H Q ag=>by
 obtain⟨ρ,w,t,r',q,ρ',gd,ee,k⟩:=ag
 cases ee
 intro p hp
 obtain⟨a1,a2,a3⟩:=T_ (k:=.t []) (vs:=[]) (ds:=[]) gd hp rfl rfl .nil
 exact k _ _ _ _ a1 a2 a3⟩
def UC{k:Nat}(hr:aQ k X.A)(h:QE X (.Name x p1) (fK i))(hk:QD X b fb)(hs:AD b:=by exact fun _ _=>rfl):QD X (.Subscript (.Name x p1) b pos) (ub i fb):=⟨have h:=h.o;have hk:=hk.o;PE.imp (ND (uW hr) h hk hs) fun σ H Q ag=>by
 obtain⟨ρ,w,t,r',q,ρ',gd,ee,kk⟩:=ag
 unfold ub at ee
 split at ee
 next hd=>
  obtain⟨l,cV,_⟩:=gd.dv hd
  split at ee
  next x0 q1 ρ1 h1=>
   split at ee
   next k0 ds q2 e1=>
    split at ee
    next d hg=>
     cases ee
     refine⟨_,cV,ρ,w,t,_,_,_,gd,h1,fun y H1 w1 F1 g1 aD r1=>?_⟩
     obtain⟨l',vs,z,cO,hH,gJ,_,rs⟩:=(g1.drop (t':=t)).km e1
     rw[cV]at cO
     cases cO
     obtain⟨rv,dg,v1,_⟩:=Hi hH gJ rs r1 hg
     obtain⟨v,rfl,rd⟩:=v1 _ rfl
     exact⟨l,v,rfl,dg,oA kk gd g1 aD (rd.any (g1.drop (t':=t)).wl).jY⟩
    ·cases ee
   ·cases ee
  ·cases ee
 ·cases ee⟩
def UD{k:Nat}(hr:aQ k X.A)(h:QE X (.Name x p1) (fK i))(hk:QD X b fb)(hv:QD X e f)(hs:swapsWith e (some (.Subscript (.Name x p1) b pos')) pos.line X.env=pure false:=by rfl):jC X (.Assign [.Subscript (.Name x p1) b pos'] e pos) (wB i fb f):=⟨have h:=h.o;have hk:=hk.o;have hv:=hv.o;PS.imp (NH (uW hr) h hk hv hs) fun Dn σ H ag=>by
 obtain⟨ρ,w,o,gd,ee,kk⟩:=ag
 unfold wB at ee
 split at ee
 next d q0 ρ1 h0=>
  split at ee
  next hd=>
   split at ee
   next x0 q1 ρ2 h1=>
    split at ee
    next k0 ds e1=>
     split at ee
     next dO=>
      split at ee
      next k' cj hp=>
       cases ee
       refine⟨ρ,w,0,_,_,_,gd,h0,fun u H1 w1 F1 g1 aD r1=>?_⟩
       obtain⟨l,cV,_⟩:=g1.dv hd
       refine⟨_,cV,ρ1,w1,1,_,_,_,g1,h1,fun y H2 w2 F2 g2 bg r2=>?_⟩
       have gg:=g2.drop (t':=0)
       obtain⟨l',vs,z,cO,hH,gJ,hl,rs,mk⟩:=gg.sd e1
       rw[cV]at cO
       cases cO
       have rv:=((r1.gone g1.wl bg).drop (o:=.f) (t':=0) (Qg 0))
       obtain⟨z',fg,dp,i',l',oN⟩:=T8 hH gJ hl dO rs r2 rv hp
       obtain⟨m1,m2⟩:=mk k' cj fg z' i' l' oN
       exact⟨l,_,rfl,dp,kk σ _ _ rfl m1 (((aD.trans bg).drop gd.wt).trans m2)⟩
      ·cases ee
     ·cases ee
    ·cases ee
   ·cases ee
  ·cases ee
 ·cases ee⟩
end
section
variable {P:Program}{w:World}{κ:Type}[DecidableEq κ]{N:HeapKind P w κ}{A:Around}{E:Value->Shared->Prop}{s:Shared}{d:Addr}
def UE{ys:List (κ×Addr×Value)}{k:κ}{v:Value}(room:N.room A)(qd:N.is s.heap k a)(D:s.heap.DictOfH N d ys)(small:ys.length<=sizeLine)
  (q1:∀ p,atKey ys k=some p->Q p.2 { s with toks:=s.toks+N.draws k }) (q2:atKey ys k=none->∀ g,g.DictOfH N d (ys++[(k,a,v)])->Heap.SameBut d s.heap g->Q v { s with heap:=g,toks:=s.toks+N.draws k }) :
  wpAny (model P w) A (dictSetDefault d (.ref a) v) Q E s:=by
 obtain⟨o,es,ep,e1,e2,e3,e4,e5,e6⟩:=D
 unfold dictSetDefault
 refine QZ (Qa (N.pyHash room qd (Qa (wpAny_dictFind_heap (s:={ s with toks:=s.toks+N.draws k }) room qd e1 e3 e4 e5 e6 (fun no=>?n) fun j p hj=>?y))))
 case y=>
  refine Qa (ZU (s:={ s with toks:=s.toks+N.draws k }) e1 e3 ?_)
  rw[entry_at e4 j,hj]
  exact Qa (YB (Qc (q1 p (atKey_of_get e6 hj))))
 case n=>
  have nm:=not_mem_keys_of_get no
  refine Qa (YB (Qa (wpAny_updateDictKeys (hz:=by rw[Y2 e4];exact small) (s:={ s with toks:=s.toks+N.draws k }) e1 e3 (Qc (q2 (atKey_none_of_get no) _ ⟨_,_,ep+1,Zk _ e1 (Y7 (JV e3 _)),e2.mapDictKeys _,JV e3 _,?a,fun y hy=>?b,?c⟩ (QT ..))))))
  case a=>simp[e4,entryOfKey]
  case b=>
   rcases QF.mp hy with z|z
   ·exact N.keeps (e5 y z) e1 e3 (QT ..)
   ·rw[Qv.mp z];exact N.keeps qd e1 e3 (QT ..)
  case c=>
   rw[Zb,Jo]
   refine⟨e6,by simp,fun y hy z hz=>?_⟩
   rw[show z=k by simpa using hz]
   exact fun q=>nm (q ▸ hy)
def UG{ys:List (κ×Addr×Value)}{k:κ}{v:Value}{Q:Unit->Shared->Prop}(room:N.room A)(qd:N.is s.heap k a)(D:s.heap.DictOfH N d ys)(small:ys.length<=sizeLine)
  (q:∀ g,g.DictOfH N d (storedH ys k a v)->Heap.SameBut d s.heap g->Q () { s with heap:=g }):wpAny (model P w) A (dictSetHashed d (.ref a) (N.hash k) v) Q E s:=by
 obtain⟨o,es,ep,e1,e2,e3,e4,e5,e6⟩:=D
 unfold dictSetHashed
 refine QZ (Qa (wpAny_dictFind_heap room qd e1 e3 e4 e5 e6 (fun no=>?n) fun j p hj=>?y))
 case n=>
  have nm:=not_mem_keys_of_get no
  refine Qa (YB (wpAny_updateDictKeys (hz:=by rw[Y2 e4];exact small) e1 e3 (q _ ⟨_,_,ep+1,Zk _ e1 (Y7 (JV e3 _)),e2.mapDictKeys _,JV e3 _,?a,?b,?c⟩ (QT ..))))
  all_goals rw[storedH_new (atKey_none_of_get no)]
  case a=>simp[e4,entryOfKey]
  case b=>
   intro y hy
   rcases QF.mp hy with z|z
   ·exact N.keeps (e5 y z) e1 e3 (QT ..)
   ·rw[Qv.mp z];exact N.keeps qd e1 e3 (QT ..)
  case c=>
   rw[Zb,Jo]
   refine⟨e6,by simp,fun y hy z hz=>?_⟩
   rw[show z=k by simpa using hz]
   exact fun q=>nm (q ▸ hy)
 case y=>
  refine Qa (YB (Qa (wpAny_updateDict e1 e3 (wpAny_point (q _ ⟨_,_,ep,Zk _ e1 (Y7 (Obj.data_mapDict e3 _)),e2.mapDict _,Obj.data_mapDict e3 _,?a,?b,?c⟩ (QT ..))))))
  all_goals rw[storedH_old (atKey_of_get e6 hj)]
  case a=>
   have mm:=modify_map_putAt (entryOfKey N) (fun e:DictEntry=>{ e with val:=v }) k v (fun _ _=>rfl) e6 hj
   rw[<- e4]at mm
   obtain⟨l⟩:=es
   simpa using mm
  case b=>
   intro y hy
   obtain⟨x,hx,rfl⟩:=Qx.mp hy
   unfold putAt
   split<;>exact N.keeps (e5 x hx) e1 e3 (QT ..)
  case c=>rw[keys_map_putAt];exact e6
def mK (ys zs:List (κ×Addr×Value)):List (κ×Addr×Value):=zs.foldl (fun acc x=>storedH acc x.1 x.2.1 x.2.2) ys
def UH(ys:List (κ×Addr×Value))(k:κ)(a:Addr)(v:Value):(storedH ys k a v).length<=ys.length+1:=by
 unfold storedH
 split
 ·rw[Qe];exact Jn _
 ·rw[Qo];exact Qg _
def Hl:∀ (zs ys:List (κ×Addr×Value)),(mK ys zs).length<=ys.length+zs.length
 | [],ys=>Qg _
 | x::zs,ys=>by
  have h1:=Hl zs (storedH ys x.1 x.2.1 x.2.2)
  have h2:=UH ys x.1 x.2.1 x.2.2
  show(mK (storedH ys x.1 x.2.1 x.2.2) zs).length<=_
  rw[Zh];omega
def UI(ys zs:List (κ×Addr×Value))(x:κ×Addr×Value):mK ys (zs++[x])=storedH (mK ys zs) x.1 x.2.1 x.2.2:=by
 unfold mK
 rw[JP]
 rfl
def UJ{nm:String}{o:Addr}{ys zs:List (κ×Addr×Value)}{Q:Unit->Shared->Prop}(room:N.room A)(ne:d≠o)(so:(o==sysModules)=false)(D:s.heap.DictOfH N d ys)(O:s.heap.DictOfH N o zs)(bH:ys ≠ [])(small:ys.length+zs.length<=sizeLine)
  (q:∀ g,g.DictOfH N d (mK ys zs)->Heap.SameBut d s.heap g->Q () { s with heap:=g }):wpAny (model P w) A (Builtin.Dict.mergeDict nm d o) Q E s:=by
 obtain⟨od,UK,epd,d1,d2,d3,d4,d5,d6⟩:=id D
 obtain⟨oo,mL,epo,o1,o2,o3,o4,o5,o6⟩:=id O
 have len:mL.size=zs.length:=Y2 o4
 unfold Builtin.Dict.mergeDict
 rw[Qj (by simpa using ne)]
 unfold Builtin.Dict.showsAll
 rw[Qj (by rw[so];exact Ze)]
 refine Qa (Qc (Qa (ZU o1 o3 ?_)))
 have loop:wpAny (model P w) A (do
   let e0 <- dictEpoch o
   let UL <- dictEntries o
   forIn [:UL.size] PUnit.unit fun j (_:PUnit)=>(do
     let p6 <- dictEntries o
     match p6[j]? with
      | some en=>do
       holding [en.key,en.val] (dictSetHashed d en.key en.hash en.val);let e1 <- dictEpoch o
       if(e1 != e0)=true then do
         (unsupported (toString nm++toString ":source-changed-during-callback"):Sem PUnit);pure (ForInStep.yield PUnit.unit)else pure (ForInStep.yield PUnit.unit)
      | _=>do
       (unsupported "internal:dict-merge":Sem PUnit);pure (ForInStep.yield PUnit.unit):Sem (ForInStep PUnit))
   pure ()) Q E s:=by
  refine Qa (Yf o1 o3 (Qa (ZU o1 o3 (Qa ?_))))
  rw[JS]
  simp only[Std.Legacy.Range.size,Nat.sub_zero,Vo,Nat.div_one]
  refine JY _ (fun bc _ s'=>∃ g i,s'={ s with heap:=g }/\bc=List.range' i (mL.size-i)/\i<=mL.size/\g.DictOfH N d (mK ys (zs.take i))/\Heap.SameBut d s.heap g) _ ?_ ?_ _ _ ⟨s.heap,0,rfl,by simp,QS _,by simpa [mK]using D,VC _ _⟩
  ·rintro x bc b s' ⟨g,i,rfl,hr,hi,hd,hs⟩
   have bL:i<mL.size:=by
    rcases J1 i mL.size with h|h
    ·exact h
    ·rw[Nat.sub_eq_zero_of_le h]at hr;simp at hr
   have UM:mL.size-i=(mL.size-(i+1))+1:=by omega
   rw[UM,YD]at hr
   injection hr with h1 h2
   subst h1
   have Hm:g.get? o=some oo:=(hs.2 o (Jk ne)).trans o1
   refine Qa (ZU (s:={ s with heap:=g }) Hm o3 ?_)
   have hz:zs[x]? = some (zs[x]'(by rw[<- len];exact bL)):=Qb _
   have take1:zs.take (x+1)=zs.take x++[zs[x]'(by rw[<- len];exact bL)]:=by rw[Z6,hz];rfl
   rw[entry_at o4 x,hz]
   have ik:=o5 _ (QB hz)
   generalize zs[x]'(by rw[<- len];exact bL)=y at *
   obtain⟨k,c,v⟩:=y
   have ml:=Hl (zs.take x) ys
   have tl:(zs.take x).length<=zs.length:=by rw[Zm];omega
   refine Qa (QZ (UG (s:={ s with heap:=g }) room (N.keeps ik d1 d3 hs) hd (by omega) fun g2 hd2 kG=>?_))
   refine Qa (Yf (s:={ s with heap:=g2 }) ((kG.2 o (Jk ne)).trans Hm) o3 ?_)
   rw[Qj (by simp)]
   exact Qc ⟨g2,x+1,rfl,h2,bL,by rw[take1,UI];exact hd2,hs.trans kG⟩
  ·rintro b s' ⟨g,i,rfl,hr,hi,hd,hs⟩
   have iV:i=mL.size:=by
    rcases J1 i mL.size with h|h
    ·rw[show mL.size-i=(mL.size-(i+1))+1 by omega,YD]at hr;exact nomatch hr
    ·exact YX hi h
   refine Qc (q g ?_ hs)
   rw[iV,len,ZZ]at hd;exact hd
 dsimp only
 split
 ·refine Qa (ZU d1 d3 ?_)
  split
  next he=>
   have h0:UK = #[]:=Array.isEmpty_iff.mp he
   have:=Y2 d4
   rw[h0]at this
   exact absurd (ZQ.mp this.symm) bH
  ·exact loop
 ·exact loop
end
section
variable {P:Program}{w:World}{κ:Type}[DecidableEq κ](N:HeapKind P w κ)(d a:Addr)
def UN(hd:(d==sysModules)=false)(v:Value) :
  MeetsIn P w (Builtin.«dict.setdefault» ⟨[.ref d,.ref a,v],[]⟩) (fun A R s=>N.room A.in1/\∃ k ys,N.is s.heap k a/\s.heap.DictOfH N d ys/\ys.length<=sizeLine/\(∀ p,atKey ys k=some p->R (.ok (.ret p.2)) { s with toks:=s.toks+N.draws k }) /\
   (atKey ys k=none->∀ g,g.DictOfH N d (ys++[(k,a,v)])->Heap.SameBut d s.heap g->R (.ok (.ret v)) { s with heap:=g,toks:=s.toks+N.draws k })):=
 .of_wp fun A R s ⟨room,k,ys,qd,D,small,r1,r2⟩=>by
  unfold Builtin.«dict.setdefault»
  refine Qa ?_
  unfold Builtin.Dict.keyAndDefault
  refine Qa (Yy D.typeIs ?_)
  show wpAny _ _ (pure (d,Value.ref a,some v)) _ _ s
  refine Qc ?_
  show wpAny _ _ (if(d==sysModules)=true then _ else(dictSetDefault d (.ref a) v >>= _)) _ _ s
  rw[Qj (by rw[hd];exact Ze)]
  exact Qa (UE room qd D small (fun p hp=>Qc ⟨p.2,rfl,r1 p hp⟩) fun no g D' hs=>Qc ⟨v,rfl,r2 no g D' hs⟩)
def UO(o:Addr)(bH:d≠o)(ho:(o==sysModules)=false) :
  MeetsIn P w (Builtin.«dict.update» ⟨[.ref d,.ref o],[]⟩) (fun A R s=>N.room A.in1/\∃ ys zs,s.heap.DictOfH N d ys/\s.heap.DictOfH N o zs/\ys ≠ []/\ys.length+zs.length<=sizeLine/\∀ g,g.DictOfH N d (mK ys zs)->Heap.SameBut d s.heap g->R (.ok (.ret .none)) { s with heap:=g }):=
 .of_wp fun A R s ⟨room,ys,zs,D,O,ne,small,r⟩=>by
  unfold Builtin.«dict.update»
  refine Qa ?_
  unfold Builtin.Dict.selfAndRest
  refine Qa (Yy D.typeIs ?_)
  show wpAny _ _ (pure (d,[Value.ref o])) _ _ s
  refine Qc ?_
  show wpAny _ _ (Builtin.Dict.updateFrom "dict.update" d (.ref o) [] .none) _ _ s
  unfold Builtin.Dict.updateFrom
  refine Qa (VX O.typeIs ?_)
  rw[Qj (by decide)]
  refine Qa ?_
  unfold Builtin.Dict.merge
  refine Qa ?_
  ·unfold Builtin.Dict.readDirectly
   refine Qa (J0 O.typeIs isSubtype_dict_dict ?_)
   simp only[ZS,Qu,Zp]
   refine Qa (YV O.typeIs Yu.lookup (Qc ?_))
   simp only[Ja,ZD]
   refine Qa (Qc (UJ room bH ho D O ne small fun g D' hs=>?_))
   show wpAny _ _ (Builtin.Dict.addKeywords d [] >>= _) _ _ _
   exact Qa (Qc (Qc ⟨.none,rfl,r g D' hs⟩))
end
def qe (ai more:List (List Key×V)):List (List Key×V):=more.foldl (fun acc kv=>gh acc kv.1 kv.2) ai
def Hn:∀ (more ai:List (List Key×V)),(qe ai more).length<=ai.length+more.length
 | [],ai=>Qg _
 | p::r,ai=>by
  have h1:=Hn r (gh ai p.1 p.2)
  have h2:=AB ai p.1 p.2
  show(qe (gh ai p.1 p.2) r).length<=_
  rw[Zh];omega
def KT.UP:∀ {more:List (List Key×V)} {zs:List (List Key×Addr×Value)} {ai:List (List Key×V)} {ys:List (List Key×Addr×Value)},KT H more zs->KT H ai ys->KT H (qe ai more) (mK ys zs):=by
 intro more zs ai ys r
 induction r generalizing ai ys with
 | nil=>intro q;exact q
 | @cons p q ps qs h t ih=>
  intro r0
  obtain⟨h1,h2,h3⟩:=h
  have:=KT.put r0 p.1 h2 h3
  rw[h1]at this
  show KT H (qe (gh ai p.1 p.2) ps) (mK (storedH ys q.1 q.2.1 q.2.2) qs)
  rw[h1]
  exact ih this
section
variable {X:Cx}{pins:List (Addr×Obj)}{σ:St}{H:Hp}{s:Shared}{a:Addr}{A:Around}{E:Value->Shared->Prop}
def UQ{k:List Key}{z:V}{r:Value}(hu:A.units+1<cLine)(I:Inv X pins σ H s)(e:H a=some (.dT ai))(eb:H b=some (.tup (k.map kV)))(hl:ai.length<sizeLine)(rz:bw z r)
  (h1:∀ v u s',f_ ai k=some v->Inv X pins σ H s'->bw v u->Q u s') (h2:f_ ai k=none->∀ s',Inv X pins σ (upd H a (.dT (ai++[(k,z)]))) s'->Q r s'):wpAny (model X.prog X.w) A (call (.builtin "dict.setdefault") [.ref a,.ref b,r]) Q E s:=by
 obtain⟨zl,hd,xs,rel,dd⟩:=tI I.aw e
 have hz:xs.length<=sizeLine:=by rw[<- Jp rel];exact zl
 have rv:=KT.val rel k
 refine call_meetsIn Y3 dd.typeIs PySem.F.entry_dict_setdefault (PySem.F.args_dict_setdefault_3 _ _ _) (UN (tupleKind (jc X.prog X.w)) a b hd r) ⟨Jz hu,k,xs,uY I.aw eb,dd,hz,fun p hp=>?_,fun no g pE hs=>?_⟩
 ·rw[hp]at rv
  cases q:f_ ai k with
  | none=>rw[q]at rv;exact False.elim rv
  | some v=>
   rw[q]at rv
   exact h1 v _ _ q (I.tok _) rv
 ·rw[no]at rv
  have q:f_ ai k=none:=by
   cases q:f_ ai k with
   | none=>rfl
   | some v=>rw[q]at rv;exact False.elim rv
  refine h2 q _ ?_
  obtain⟨o',es,ep,g1,g2,g3,g4,_,g6⟩:=pE
  have put:=KT.put rel k eb rz
  rw[Np _ q,storedH_new no]at put
  refine xY I (by rw[e];exact True.intro) hs ⟨o',g1⟩ ⟨by rw[Qo];exact hl,hd,_,put.keeps fun c ys ec=>?_,o',es,ep,g1,g2,g3,g4,g6⟩
  rw[a0 (zT ec e (fun z=>nomatch z))]
  exact ec
def UR{more:List (List Key×V)}(hu:A.units+1<cLine)(I:Inv X pins σ H s)(e:H a=some (.dT ai))(eb:H b=some (.dT more))(my:a≠b)(bH:ai ≠ [])(hl:ai.length+more.length<=sizeLine)
  (h:∀ s',Inv X pins σ (upd H a (.dT (qe ai more))) s'->Q .none s'):wpAny (model X.prog X.w) A (call (.builtin "dict.update") [.ref a,.ref b]) Q E s:=by
 obtain⟨zl,hd,xs,rel,dd⟩:=tI I.aw e
 obtain⟨_,hd2,zs,wC,BL⟩:=tI I.aw eb
 have lx:ai.length=xs.length:=Jp rel
 have lz:more.length=zs.length:=Jp wC
 refine call_meetsIn VH dd.typeIs PySem.F.entry_dict_update (PySem.F.args_dict_update_2 _ _) (UO (tupleKind (jc X.prog X.w)) a b my hd2) ⟨Jz hu,xs,zs,dd,BL,fun q=>bH (ZQ.mp (by rw[lx,q];rfl)),by omega,fun g pE hs=>?_⟩
 refine h _ ?_
 obtain⟨o',es,ep,g1,g2,g3,g4,_,g6⟩:=pE
 refine xY I (by rw[e];exact True.intro) hs ⟨o',g1⟩ ⟨QU (Hn more ai) hl,hd,_,(KT.UP wC rel).keeps fun c ys ec=>?_,o',es,ep,g1,g2,g3,g4,g6⟩
 rw[a0 (zT ec e (fun z=>nomatch z))]
 exact ec
end
def US (td ty tx:TE):TE:=fun σ H Q=>td σ H fun x H1=>∃ a,x=.ref a/\u4 H1 a/\ty σ H1 fun y H2=>tx σ H2 fun z H3=>∃ ai k b,H3 a=some (.dT ai)/\y=.ref b/\H3 b=some (.tup (k.map kV))/\ai.length<sizeLine/\(∀ v,f_ ai k=some v->Q v H3)/\(f_ ai k=none->Q z (upd H3 a (.dT (ai++[(k,z)]))))
def UT (td te:TE):TE:=fun σ H Q=>td σ H fun x H1=>∃ a,x=.ref a/\u4 H1 a/\te σ H1 fun y H2=>∃ ai more b,y=.ref b/\H2 a=some (.dT ai)/\H2 b=some (.dT more)/\a≠b/\ai ≠ []/\ai.length+more.length<=sizeLine/\Q .aK (upd H2 a (.dT (qe ai more)))
section
variable {X:Cx}{o e f:Expr}{apos aq:Pos}{td ty tx:TE}
def UU(hu:X.A.units+1<cLine)(ho:PE X o td)(he:PE X e ty)(hf:PE X f tx)(m:M2 X o "setdefault" apos e f aq):PE X (.Call (.Attribute o "setdefault" apos) [e,f] [] aq) (US td ty tx):=by
 intro pins s σ H Q I h
 refine wpAny_Call_method m.base m.dO m.line VU Y3 PySem.F.type_dict_setdefault (aU (ho pins s σ H _ I h) fun u s1 ag=>?_)
 obtain⟨x,H1,I1,rx,a,ex,d,q1⟩:=ag
 subst ex
 obtain rfl:u=Value.ref a:=rx
 obtain⟨t1,t2,_⟩:=EZ I1 d
 refine⟨t1,t2,?_⟩
 rw[m.trees]
 refine Yo rfl (JQ (Jx (aU (he pins s1 σ H1 _ I1 q1) fun iv s2 ⟨y,H2,I2,ry,q2⟩=>
  Jx (aU (hf pins s2 σ H2 _ I2 q2) fun fv s3 UW=>Yn ?_))))
 obtain⟨z,H3,I3,rz,ai,k,b,e1,ey,e2,hl,k1,k2⟩:=UW
 subst ey
 obtain rfl:iv=Value.ref b:=ry
 exact UQ hu I3 e1 e2 hl rz (fun v u s' q I' ru=>⟨v,H3,I',ru,k1 v q⟩) fun q s' I'=>⟨z,_,I',rz,k2 q⟩
def UX(hu:X.A.units+1<cLine)(ho:PE X o td)(he:PE X e ty)(m:M1 X o "update" apos e aq):PE X (.Call (.Attribute o "update" apos) [e] [] aq) (UT td ty):=by
 intro pins s σ H Q I h
 refine wpAny_Call_method m.base m.dO m.line VU VH PySem.F.type_dict_update (aU (ho pins s σ H _ I h) fun u s1 ag=>?_)
 obtain⟨x,H1,I1,rx,a,ex,d,q1⟩:=ag
 subst ex
 obtain rfl:u=Value.ref a:=rx
 obtain⟨t1,t2,_⟩:=EZ I1 d
 refine⟨t1,t2,?_⟩
 rw[m.trees]
 refine Yo rfl (JQ (Jx (aU (he pins s1 σ H1 _ I1 q1) fun iv s2 UY=>Yn ?_)))
 obtain⟨y,H2,I2,ry,ai,more,b,ey,e1,e2,my,bH,hl,q2⟩:=UY
 subst ey
 obtain rfl:iv=Value.ref b:=ry
 exact UR hu I2 e1 e2 my bH hl fun s' I'=>⟨.aK,_,I',rfl,q2⟩
end
section
variable {X:Cx}
def UZ(hc:X.calm=true):iE X (.type "list") (fun xs H Q=>∃ t ai,xs=[.ref t]/\H t=some (.dT ai)/\ai.length<=1000 /\
  ∀ (p:Addr) (bs:List Addr),H p=none->bs.length=ai.length->(∀ (i:Nat) (b:Addr),bs[i]? = some b->∃ k v,ai[i]? = some (k,v)/\H b=some (.tup (k.map kV)))->Q (.ref p) (upd H p (.lst (bs.map V.ref)))):=by
 intro pins s σ H xs us Q I r hh
 obtain⟨t,ai,rfl,hq,dO,q⟩:=hh
 obtain⟨u,rfl,ru⟩:=jw r
 cases ru
 obtain⟨_,lo,zs,kt,o,es,ep,ho,hx,hd,he,_,_⟩:=tI I.aw hq
 have lz:ai.length=zs.length:=Jp kt
 have len:es.size=zs.length:=by rw[<- QH,he,Qe]
 refine kdl_call (Hf lo hx.1 hd) (I.ok.hd hc) ho (JU (by rw[len,<- lz];omega)) fun h' tk acc c hk hg hit=>?_
 obtain⟨hn,bP⟩:=hit
 have ea:acc.toList=(zs.map (·.2.1)).map Value.ref:=by
  apply ZI
  intro i
  rw[Ql,Ql,QV]
  by_cases hi:i<zs.length
  ·have h1:acc[i]? = some (acc[i]'(by rw[hn,len];exact hi)):=Q1 _
   obtain⟨e',q1,q2⟩:=bP i _ h1
   rw[<- QV,he,Ql,Qb hi]at q1
   cases q1
   rw[h1,q2,Qb hi]
   rfl
  ·rw[Q2 (VW.mp hi),Zo (by rw[hn,len];exact VW.mp hi)]
   rfl
 refine⟨.ref s.heap.objs.size,_,I.laid (a:=s.heap.objs.size) (o:=.lst ((zs.map (·.2.1)).map V.ref)) (t':=tk) hk (Qg _) ⟨JU (by rw[Qe,Qe];omega),(zs.map (·.2.1)).map Value.ref,c,wo _,?_⟩,rfl,q _ (zs.map (·.2.1)) (I.aw.fresh (Qg _)) (by rw[Qe];exact lz.symm) fun i b hb=>?_⟩
 ·rw[<- ea]
  exact hg
 ·rw[Ql,Qw]at hb
  obtain⟨y,hy,rfl⟩:=hb
  have key:∀ {ai:List (List Key×V)} {zs:List (List Key×Addr×Value)},KT H ai zs->∀ (i:Nat) y,zs[i]? = some y->∃ k v,ai[i]? = some (k,v)/\H y.2.1=some (.tup (k.map kV)):=by
   intro ai zs r
   induction r with
   | nil=>intro i y h;simp at h
   | @cons p q ps qs h t ih=>
    intro i y hy
    cases i with
    | zero=>cases hy;exact⟨p.1,p.2,rfl,h.2.1⟩
    | succ i=>exact ih i y hy
  exact key kt i y hy
end
def kD:Key->D
 | .inl i=>.int i
 | .inr x=>.str x
def zg (k:List Key):D:=.tup (k.map kD)
section
variable {K:PySem.W.Frag}{H:Hp}{w:Wn}{o:Ow}
def U0(k:Key):Rep K H w o 0 (kD k) (kV k) []:=by
 cases k with
 | inl i=>exact .int i
 | inr x=>exact .str x
def Ho:∀ k:List Key,af K H w o 0 (k.map kD) (k.map kV) []
 | []=>.nil
 | k::ks=>.rY (U0 k) (Ho ks)
def Hq:∀ {ks:List (List Key)} {bs:List Addr},bs.length=ks.length->(∀ (i:Nat) (b:Addr) (k:List Key),bs[i]? = some b->ks[i]? = some k->H b=some (.tup (k.map kV)))->af K H w o 0 (ks.map zg) (bs.map V.ref) []
 | [],[],_,_=>.nil
 | k::ks,b::bs,h,e=>.rY (.tup (e 0 b k rfl rfl) (Ho k)) (Hq (JD h) fun i c l h1 h2=>e (i+1) c l h1 h2)
end
def mM (acc:List (List Key)×List D)(x:List Key×D):List (List Key)×List D:=if ki acc.1 x.1=true then(acc.1,iN acc.1 acc.2 x.1 x.2)else(acc.1++[x.1],acc.2++[x.2])
def lA (ks:List (List Key))(ds:List D)(bF:List (List Key))(cj:List D):List (List Key)×List D:=(bF.zip cj).foldl mM (ks,ds)
def U1{acc:List (List Key)×List D}{x:List Key×D}(h:acc.1.length=acc.2.length):(mM acc x).1.length=(mM acc x).2.length:=by
 unfold mM
 split
 ·exact h.trans (za x.1 x.2 h).symm
 ·show(acc.1++[x.1]).length=(acc.2++[x.2]).length
  rw[Qo,Qo,h];rfl
def U2:∀ {bF:List (List Key)} {cj:List D} {fg:List V} {ks:List (List Key)} {ds:List D} {vs:List V},bF.length=cj.length->af K H w o 0 cj fg []->ks.length=ds.length->af K H w o 0 ds vs []->
  ∃ us,qe (ks.zip vs) (bF.zip fg)=(lA ks ds bF cj).1.zip us/\(lA ks ds bF cj).1.length=(lA ks ds bF cj).2.length/\af K H w o 0 (lA ks ds bF cj).2 us []:=by
 intro bF
 induction bF with
 | nil=>intro cj fg ks ds vs _ _ hl r;exact⟨vs,rfl,hl,r⟩
 | cons k bF ih=>
  intro cj fg ks ds vs iP r' hl r
  cases cj with
  | nil=>cases iP
  | cons d cj=>
   obtain⟨v,U3,rfl,r1,s1⟩:=r'.split
   have lv:=r.length
   have e:gh (ks.zip vs) k v=(mM (ks,ds) (k,d)).1.zip (if ki ks k=true then iN ks vs k v else vs++[v])/\af K H w o 0 (mM (ks,ds) (k,d)).2 (if ki ks k=true then iN ks vs k v else vs++[v]) []:=by
    rw[CT k v ks vs (by omega)]
    unfold mM
    by_cases hk:ki ks k=true
    ·rw[Qi hk,Qi hk,Qi hk]
     exact⟨rfl,zc k r1 r⟩
    ·rw[Qj hk,Qj hk,Qj hk]
     exact⟨rfl,af.snoc (F:=[]) (G:=[]) r1 r nM⟩
   obtain⟨us,u1,u2,u3⟩:=ih (JD iP) s1 (U1 (acc:=(ks,ds)) (x:=(k,d)) hl) e.2
   refine⟨us,?_,u2,u3⟩
   show qe (gh (ks.zip vs) k v) (bF.zip U3)=_
   rw[e.1]
   exact u1
def sf (i:Nat)(fk fz:aB):aB:=fun ρ=>if dv ρ[i]? = true then match fk ρ with
 | some (x,_,ρ1)=>match fz ρ1 with
  | some (z,_,ρ2)=>match ρ2[i]? with
   | some (some (.mp (.t ks) ds,1))=>if ds.length<1000 then match ua x with
    | some y=>match vL ks ds y with
     | some d=>some (d,h_ d,ρ2)
     | none=>some (z,h_ z,ρ2.set i (some (.mp (.t (ks++[y])) (ds++[z]),1)))
    | none=>none
    else none
   | _=>none
  | none=>none
 | none=>none
 else none
def zh (i j:Nat):aB:=fun ρ=>match ρ[i]? with
 | some (some (.mp (.t ks) ds,1))=>match ρ[j]? with
  | some (some (.mp (.t bF) cj,_))=>if i≠j/\ds ≠ []/\ds.length<=400/\cj.length<=400 then some (.aK,9,ρ.set i (some (.mp (.t (lA ks ds bF cj).1) (lA ks ds bF cj).2,1)))else none
  | _=>none
 | _=>none
def uc (i:Nat):aB:=fun ρ=>match ρ[i]? with
 | some (some (.mp (.t ks) ds,_))=>if ks.length<=1000 then some (.lst (ks.map zg),1,ρ)else none
 | _=>none
def zi (fa:aB)(i:Nat):aB:=fun ρ=>match fa ρ with
 | some (x,_,ρ1)=>match ρ1[i]? with
  | some (some (.mp k ds,_))=>match rZ k ds x with
   | some r=>some (.bl (!r.isSome),9,ρ1)
   | none=>none
  | _=>none
 | none=>none
def zj (i:Nat):aJ:=fun ρ=>match ρ[i]? with
 | some (some (d,q))=>some (.rt d q)
 | _=>none
def wD (fa:aB):aB:=fun ρ=>match fa ρ with
 | some (.mp (.t ks) ds,_,ρ1)=>match se ks with
  | some kp=>if kp.length<64 then some (.lst ((iM kp).map ay),1,ρ1)else none
  | none=>none
 | _=>none
section
variable {X:Cx}{a b c e:Expr}{fa fb fc f:aB}{p p1 p2 pos pos' aq apos:Pos}{x y:Str}{i j:Nat}
def U4{k:Nat}(hr:aQ k X.A)(h:QE X (.Name x p1) (fK i))(hk:QD X b fb)(hz:QD X c fc)(bR:attributeBase (.Name x p1) "setdefault" X.env (eval (.Name x p1) X.env)=eval (.Name x p1) X.env:=by rfl)(dk:((backTo aq (starEach [b,c] X.env)).all (fun x=>!x.1)&&(backToKw aq (keywordEach [] X.env)).all (fun x=>x.1.isSome)
   && decide (([b,c]:List Expr).length+([]:List Keyword).length+(if([]:List Keyword).isEmpty then 0 else 1)<30))=true:=by rfl) (bS:(apos.endLine==aq.line)=true:=by rfl) (CZ:backTo aq (starEach [b,c] X.env)=[(false,eval b X.env),(false,eval c X.env)]:=by rfl):QD X (.Call (.Attribute (.Name x p1) "setdefault" apos) [b,c] [] aq) (sf i fb fc):=⟨have h:=h.o;have hk:=hk.o;have hz:=hz.o;PE.imp (UU (uW hr) h hk hz ⟨bR,dk,bS,CZ⟩) fun σ H Q ag=>by
 obtain⟨ρ,w,t,r',q,ρ',gd,ee,kk⟩:=ag
 unfold sf at ee
 split at ee
 next hd=>
  obtain⟨l,cV,U5⟩:=gd.dv hd
  split at ee
  next x0 q1 ρ1 h1=>
   split at ee
   next z0 q3 ρ2 h2=>
    split at ee
    next ks ds e1=>
     split at ee
     next dO=>
      split at ee
      next y0 hy=>
       refine⟨_,cV,l,rfl,U5,ρ,w,t,_,_,_,gd,h1,fun y H1 w1 F1 g1 aD r1=>⟨ρ1,w1,t+1,_,_,_,g1,h2,fun zv H2 w2 F2 g2 bg r2=>?_⟩⟩
       have gg:=g2.drop (t':=t)
       obtain⟨l',vs,z,cO,hH,gJ,hlen,rs,mk⟩:=gg.sd e1
       rw[cV]at cO
       cases cO
       cases gJ
       have hlen:ks.length=ds.length:=hlen
       have lv:=rs.length
       obtain⟨b0,rfl,U6⟩:=CV hy (r1.gone g1.wl bg)
       have rz:=r2.drop (o:=.f) (t':=t) (by omega)
       obtain⟨v1,v2⟩:=zb y0 (ks:=ks) rs
       refine⟨_,y0,b0,hH,rfl,U6,by rw[Z7,<- lv,hlen,JC];exact kI (ZN dO),fun v hv=>?_,fun hv=>?_⟩
       ·rw[wz]at hv
        split at ee
        next d gV=>
         cases ee
         obtain⟨v',e',rd⟩:=v1 _ gV
         rw[e']at hv
         cases hv
         exact oA kk gd g2 (aD.trans bg) (rd.any gg.wl).jY
        next hn=>
         rw[v2 hn]at hv
         cases hv
       ·rw[wz]at hv
        split at ee
        next d gV=>
         obtain⟨v',e',rd⟩:=v1 _ gV
         rw[e']at hv
         cases hv
        ·cases ee
         obtain⟨m1,m2⟩:=mk (.t (ks++[y0])) (ds++[r']) (vs++[zv]) (.dT ((ks++[y0]).zip (vs++[zv]))) rfl (by show(ks++[y0]).length=_;rw[Qo,Qo,hlen];rfl) (af.snoc (F:=[]) (G:=[]) rz rs nM)
         rw[V7 (by omega)]at m1 m2
         have yJ:Rep X.K _ _ (.t t) 0 r' zv []:=Rep.go gg.wl m2.bu rz nM
         exact kk zv _ _ [] m1.up (((aD.trans bg).drop gd.wt).trans m2) yJ.jY
      ·cases ee
     ·cases ee
    ·cases ee
   ·cases ee
  ·cases ee
 ·cases ee⟩
def U7{k:Nat}(hr:aQ k X.A)(h:QE X (.Name x p1) (fK i))(h':QE X (.Name y p2) (fK j))(bR:attributeBase (.Name x p1) "update" X.env (eval (.Name x p1) X.env)=eval (.Name x p1) X.env:=by rfl)(dk:((backTo aq (starEach [.Name y p2] X.env)).all (fun x=>!x.1)&&(backToKw aq (keywordEach [] X.env)).all (fun x=>x.1.isSome)
   && decide (([.Name y p2]:List Expr).length+([]:List Keyword).length+(if([]:List Keyword).isEmpty then 0 else 1)<30))=true:=by rfl) (bS:(apos.endLine==aq.line)=true:=by rfl) (CZ:backTo aq (starEach [.Name y p2] X.env)=[(false,eval (.Name y p2) X.env)]:=by rfl):QD X (.Call (.Attribute (.Name x p1) "update" apos) [.Name y p2] [] aq) (zh i j):=⟨have h:=h.o;have h':=h'.o;PE.imp (UX (uW hr) h h' ⟨bR,dk,bS,CZ⟩) fun σ H Q ag=>by
 obtain⟨ρ,w,t,r',q,ρ',gd,ee,kk⟩:=ag
 unfold zh at ee
 split at ee
 next ks ds e1=>
  split at ee
  next bF cj q2 e2=>
   split at ee
   next hc=>
    cases ee
    obtain⟨l,vs,z,cV,hH,gJ,hlen,rs,mk⟩:=gd.sd e1
    cases gJ
    have hlen:ks.length=ds.length:=hlen
    have lv:=rs.length
    obtain⟨v',F',s1,s2⟩:=gd.slot j _ _ e2
    obtain⟨l',fg,z',rfl,U8,C0,kn,oN⟩:=s2.r_
    cases C0
    have kn:bF.length=cj.length:=kn
    have U9:=oN.length
    have bH:l≠l':=fun q=>by
     subst q
     obtain⟨v1,F1,t1,t2⟩:=gd.slot i _ _ e1
     rw[cV]at t1
     cases t1
     have w1:w l=some (.s i):=t2.aC l (by cases t2;exact Qv.mpr rfl)
     cases s2 with
     | ny _ _ hn _ _=>rw[hn]at w1;cases w1
     | kK _ _ hw _ _=>rw[hw]at w1;cases w1;exact hc.1 rfl
    refine⟨_,cV,l,rfl,.inr ⟨_,.inl hH⟩,_,s1,_,_,l',rfl,hH,U8,bH,fun q=>?_,?_,?_⟩
    ·have:(ks.zip vs).length=0:=by rw[q];rfl
     rw[Z7,<- lv,hlen,JC]at this
     exact hc.2.1 (ZQ.mp this)
    ·rw[Z7,Z7,<- lv,<- U9,hlen,kn,JC,JC]
     exact ZN (kI (by omega))
    ·obtain⟨us,u1,u2,u3⟩:=U2 kn (oN.any gd.wl) hlen rs
     rw[u1]
     obtain⟨m1,m2⟩:=mk (.t (lA ks ds bF cj).1) _ us _ rfl u2 u3
     exact kk .aK _ w [] m1.up m2 .aK
   ·cases ee
  ·cases ee
 ·cases ee⟩
def Hr(hc:X.calm=true)(hm:X.mg "list" = none)(hb:bootBuiltins "list" = some (.type "list"))(h:QE X (.Name x p1) (fK i))(hg:Gl X "list":=by rfl)(he:starEach [.Name x p1] X.env=(false,eval (.Name x p1) X.env)::starEach [] X.env:=by rfl)(bX:(backTo pos (starEach [] X.env)).any (·.1)=false:=by rfl):QD X (.Call (.Name "list" p) [.Name x p1] [] pos) (uc i):=⟨have h:=h.o;PE.imp (qK (UZ hc) hg hm hb (gE h jf he) (by decide) (by decide) he bX) fun σ H Q ag=>by
 obtain⟨ρ,w,t,r',q,ρ',gd,ee,k⟩:=ag
 unfold uc at ee
 split at ee
 next ks ds q0 e0=>
  split at ee
  next hl=>
   cases ee
   obtain⟨l,vs,z,cV,hH,gJ,hlen,rs⟩:=gd.km e0
   cases gJ
   have hlen:ks.length=ds.length:=hlen
   have lv:=rs.length
   have lz:(ks.zip vs).length=ks.length:=by rw[Z7,<- lv,hlen,JC]
   refine⟨_,cV,l,_,rfl,hH,by rw[lz];exact hl,fun p bs hp lb Cq=>?_⟩
   obtain⟨a1,a2,a3⟩:=l7 gd hp (Hq (by rw[lb,lz]) fun n b k h1 h2=>by
    obtain⟨k',v',e1,e2⟩:=Cq n b h1
    have:((ks.zip vs).map (·.1))[n]? = some k':=by rw[Ql,e1];rfl
    rw[VT (by omega),h2]at this
    cases this
    exact e2)
   exact k _ _ _ _ a1 a2 a3
  ·cases ee
 ·cases ee⟩
def U_{k:Nat}(hr:aQ k X.A)(ha:QD X a fa)(hb:QE X (.Name x p1) (fK i))(hm:behindInMarks .NotIn (.Name x p1)=false:=by with_unfolding_all rfl):gK X (.Compare a [.NotIn] [.Name x p1] pos) (bA (zi fa i)):=⟨have ha:=ha.o;have hb:=hb.o;PT.imp (Ls (NF (uW hr) ha hb) hm) fun σ H Q ag=>by
 obtain⟨ρ,w,t,b',ρ',gd,ee,k⟩:=ag
 unfold bA zi at ee
 split at ee
 next b2 q2 ρ2 e0=>
  cases ee
  split at e0
  next x0 q0 ρ1 h1=>
   split at e0
   next k0 ds q1 e1=>
    split at e0
    next r hg=>
     cases e0
     refine⟨ρ,w,t,_,_,_,gd,h1,fun v H1 w1 F g1 aD r1=>?_⟩
     have gg:=g1.drop (t':=t)
     obtain⟨l,vs,z,cV,hH,gJ,_,rs⟩:=gg.km e1
     obtain⟨rv,dg,v1,v2⟩:=Hi hH gJ rs r1 hg
     refine⟨_,cV,l,rv,rfl,dg,_,rfl,?_⟩
     have:rv.isSome=r.isSome:=by
      cases r with
      | none=>rw[v2 rfl];rfl
      | some d=>obtain⟨v',rfl,_⟩:=v1 d rfl;rfl
     rw[this]
     exact k H1 _ gg (aD.drop gd.wt)
    ·cases e0
   ·cases e0
  ·cases e0
 ·cases ee⟩
def Hs(h:QE X (.Name x p1) (fK i)):jC X (.Return (some (.Name x p1)) pos) (zj i):=⟨have h:=h.o;PS.imp (Ei h) fun Dn σ H ag=>by
 obtain⟨ρ,w,o,gd,ee,k⟩:=ag
 unfold zj at ee
 split at ee
 next d q e=>
  cases ee
  obtain⟨v,F,h1,h2⟩:=gd.slot i _ _ e
  refine⟨v,h1,?_⟩
  have ow:=h2.aC
  have st:c_ H w H (fun a=>if a∈F then some (.t 0)else w a):=fun a x e n=>⟨sm e,by
   show(if a∈F then _ else _)=_
   rw[Qj fun m=>by rw[ow a m]at n;cases n]
   exact n⟩
  refine k v H (fun a=>if a∈F then some (.t 0)else w a) F ⟨fun a o e=>?_,gd.wl.tb⟩ ⟨st,fun a o e bH=>⟨rfl,?_⟩⟩ (Rep.go gd.wl st h2 fun a m=>⟨rfl,Qi m⟩)
  ·have e:(if a∈F then some (Ow.t 0)else w a)=some o:=e
   split at e
   ·rename_i m;exact gd.wl a _ (ow a m)
   ·exact gd.wl a _ e
  ·show(if a∈F then _ else _)=_
   rw[Qj fun m=>by rw[ow a m]at e;cases e;exact bH i rfl]
   exact e
 ·cases ee⟩
def V_(hc:X.calm=true)(hm:X.mg "sorted" = none)(ha:QD X a fa)(rW:bootBuiltins "sorted" = some (.builtin "sorted"):=by kernel_rfl)(hg:Gl X "sorted":=by rfl)(hs:starEach [a] X.env=(false,eval a X.env)::starEach [] X.env:=by rfl)(bX:(backTo pos (starEach [] X.env)).any (·.1)=false:=by rfl):QD X (.Call (.Name "sorted" p) [a] [] pos) (wD fa):=⟨have ha:=ha.o;by
 refine PE.imp (nu (T7 hc) hg hm rW (gE ha jf hs) (by decide) (by decide) hs bX) fun σ H Q ag=>?_
 obtain⟨ρ,w,t,r',q,ρ',gd,ee,k⟩:=ag
 unfold wD at ee
 split at ee
 next ks ds q1 ρ1 e1=>
  split at ee
  next kp hp=>
   split at ee
   next mE=>
    cases ee
    refine⟨ρ,w,t,_,_,_,gd,e1,fun v H1 w1 F1 g1 aD r1=>?_⟩
    obtain⟨l,vs,z,rfl,hH,gJ,hl,rs⟩:=r1.r_
    cases gJ
    obtain⟨ek,dP⟩:=UB hp
    refine⟨l,_,kp,rfl,hH,?_,mE,dP,fun l bF cs hl pm so wu=>?_⟩
    ·rw[VT (by have:ks.length=ds.length:=hl;have:=rs.length;omega)]
     exact ek
    ·have es:=CQ dP pm so
     subst es
     obtain⟨a1,a2,a3⟩:=l7 (g1.drop (t':=t)) hl (y_ wu)
     exact k _ _ _ _ a1 ((aD.drop gd.wt).trans a2) a3
   ·cases ee
  ·cases ee
 ·cases ee⟩
end
def Rep.C1(hl:H l=some z)(hz:(∀ xs,z ≠ .lst xs)/\∀ ob u,z ≠ .d8 ob u)(n:∀ a,a≠l->w a=none->w' a=none):∀ {q:Nat} {d:D} {v:V} {F:List Addr},Rep K H w o q d v F->gr d=true->(∀ a∈F,w' a=some o')->Rep K H w' o' q d v F:=by
 intro q d v F r
 refine Rep.rec (motive_1:=fun q d v F _=>gr d=true->(∀ a∈F,w' a=some o')->Rep K H w' o' q d v F) (motive_2:=fun q ds vs F _=>j6 ds=true->(∀ a∈F,w' a=some o')->af K H w' o' q ds vs F) ?_ ?_ ?_ ?_ ?_ ?_ ?_ ?_ ?_ ?_ ?_ ?_ ?_ ?_ ?_ r
 ·intro q _ _;exact .aK
 ·intro q b _ _;exact .bl b
 ·intro q i _ _;exact .int i
 ·intro q x _ _;exact .str x
 ·intro q a vs ds h r ih hn _;exact .tup h (ih (by unfold gr at hn;exact hn) nM)
 ·intro q a ks vs ds h e r ih hn _;cases hn
 ·intro q a nm ob u h x n hn _;cases hn
 ·intro q f c fo oc u u' vs ds h1 h2 x r ih hn _;cases hn
 ·intro a vs ds h r ih hn _;exact .kl h (ih (by unfold gr at hn;exact hn) nM)
 ·intro a vs ds h e r ih hn _
  refine .shr h (n a (fun q=>?_) e) (ih (by unfold gr at hn;exact hn) nM)
  subst q
  rcases h with h|⟨ob,h⟩
  ·rw[hl]at h;exact hz.1 _ (QC h)
  ·rw[hl]at h;exact hz.2 _ _ (QC h)
 ·intro q a vs ds F h e r ne ih hn k;exact .own h (k _ Qk) (ih (by unfold gr at hn;exact hn) fun a m=>k a (Qh _ m)) ne
 ·intro a vs ds k x h i e l r ih hn _;cases hn
 ·intro q a vs ds k x h i e l r ih hn _;cases hn
 ·intro q _ _;exact .nil
 ·intro q d v ds vs F G r s ne l0 l3 hn k
  unfold j6 at hn
  exact .cons (l0 (Zc.mp hn).1 fun a m=>k a (QA _ m)) (l3 (Zc.mp hn).2 fun a m=>k a (Qq _ m)) ne
def zk:Nat->D->Bool
 | 0,d=>gr d
 | _+1,.mp _ ds=>j6 ds
 | _+1,d=>gr d
def Rep.C2(hl:H l=some z)(hz:(∀ xs,z ≠ .lst xs)/\∀ ob u,z ≠ .d8 ob u)(n:∀ a,a≠l->w a=none->w' a=none)(r:Rep K H w o q d v F)(hd:zk q d=true)(k:∀ a∈F,w' a=some o'):Rep K H w' o' q d v F:=by
 cases q with
 | zero=>exact Rep.C1 hl hz n r hd k
 | succ q=>
  cases d with
  | mp mk ds=>
   cases r with
   | kK h i e le rs=>
    refine .kK h i (k _ (Qv.mpr rfl)) le ?_
    have hd:j6 ds=true:=hd
    have key:∀ {ds:List D} {vs:List V},j6 ds=true->af K H w o 0 ds vs []->af K H w' o' 0 ds vs []:=by
     intro ds
     induction ds with
     | nil=>intro vs _ r;rw[r.o_];exact .nil
     | cons d ds ih=>
      intro vs hn r
      obtain⟨v,us,rfl,r1,s⟩:=r.split
      unfold j6 at hn
      exact .rY (Rep.C1 hl hz n r1 (Zc.mp hn).1 nM) (ih (Zc.mp hn).2 s)
    exact key hd rs
  | _=>exact Rep.C1 hl hz n r hd k
def Wa{H':Hp}{t:Nat}{Fo:List Addr}(g:Good K ρ σ H w t)(hl:H l=some z)(hw:w l=some (.s i))(hz:(∀ xs,z ≠ .lst xs)/\(∀ ob u,z ≠ .d8 ob u))(Wb:oz z=false)
  (go:Go H (fun a=>if a=l then none else(w a).map fun _=>Ow.f) H' w') (pK:WL K w' H') (r:Rep K H' w' (.t 0) q d v Fo) (hd:zk q d=true) :
  Good K ρ σ H' (fun a=>if a∈Fo then some (.t t)else w a) (t+1)/\Go H w H' (fun a=>if a∈Fo then some (.t t)else w a)/\Rep K H' (fun a=>if a∈Fo then some (.t t)else w a) (.t t) q d v Fo:=by
 obtain⟨s1,s2⟩:=go.bu l z hl (Qi rfl)
 have iP:H' l=some z:=s1.eq Wb
 have kf:∀ a o,w a=some o->H' a=H a:=fun a o e=>by
  by_cases ha:a=l
  ·rw[ha,iP,hl]
  ·exact(go.keep a .f (by show(if a=l then none else(w a).map _)=_;rw[Qj ha,e];rfl) (fun _ z=>nomatch z)).1
 have kw:∀ a o,w a=some o->a≠l->w' a=some .f:=fun a o e ha=>(go.keep a .f (by show(if a=l then none else(w a).map _)=_;rw[Qj ha,e];rfl) (fun _ z=>nomatch z)).2
 have nf:∀ a x,H a=some x->a ∉ Fo:=fun a x e m=>by
  have h1:=r.aC a m
  by_cases ha:a=l
  ·rw[ha,s2]at h1;cases h1
  ·cases ew:w a with
   | none=>
    have:=(go.bu a x e (by show(if a=l then none else(w a).map _)=_;rw[Qj ha,ew];rfl)).2
    rw[h1]at this;cases this
   | some o=>rw[kw a o ew ha]at h1;cases h1
 have nw:∀ a o,w a=some o->a ∉ Fo:=fun a o e=>by obtain⟨vs,q⟩:=g.wl a o e;exact nf a _ q
 have st:c_ H w H' (fun a=>if a∈Fo then some (.t t)else w a):=fun a x e n=>by
  have ha:a≠l:=fun q=>by rw[q,hw]at n;cases n
  refine⟨(go.bu a x e (by show(if a=l then none else(w a).map _)=_;rw[Qj ha,n];rfl)).1,?_⟩
  show(if a∈Fo then _ else _)=_
  rw[Qj (nf a x e)];exact n
 have wv:∀ a o,(if a∈Fo then some (Ow.t t)else w a)=some o->(a∈Fo/\o=.t t)\/w a=some o:=fun a o e=>by
  split at e
  ·cases e;exact .inl ⟨by assumption,rfl⟩
  ·exact .inr e
 refine⟨⟨⟨fun a o e=>?_,pK.tb⟩,fun a i e=>?_,fun a i e=>?_,g.len,fun i d q e=>?_⟩,⟨st,fun a o e _=>⟨kf a o e,by show(if a∈Fo then _ else _)=_;rw[Qj (nw a o e)];exact e⟩⟩,?_⟩
 ·rcases wv a o e with⟨m,_⟩|z
  ·exact pK a _ (r.aC a m)
  ·obtain⟨vs,h⟩:=g.wl a o z
   exact⟨vs,(kf a o z).trans h⟩
 ·rcases wv a _ e with⟨_,z⟩|z
  ·cases z
  ·exact g.ws a i z
 ·rcases wv a _ e with⟨_,z⟩|z
  ·cases z;exact Zn _
  ·exact Zi (g.wt a i z)
 ·obtain⟨v,F,h1,h2⟩:=g.slot i d q e
  refine⟨v,F,h1,Rep.go g.wl st h2 fun a m=>⟨kf a _ (h2.aC a m),?_⟩⟩
  show(if a∈Fo then _ else _)=_
  rw[Qj (nw a _ (h2.aC a m))]
  exact h2.aC a m
 ·refine Rep.C2 iP hz (fun a ha n=>?_) r hd fun a m=>Qi m
  show(if a∈Fo then _ else _)=_
  rw[Qj (fun m=>by have:=r.aC a m;rw[n]at this;cases this)]
  cases ew:w a with
  | none=>rfl
  | some o=>have:=kw a o ew ha;rw[n]at this;cases this
def wF (F:List D->OD)(i:Nat)(f0 f2:aB):aB:=fun ρ=>match f0 ρ with
 | some (d0,_,qf)=>if dv qf[i]? = true then match f2 qf with
  | some (d2,_,ρ2)=>match ρ2[i]? with
   | some (some (.mp k ds,1))=>match F [d0,.mp k ds,d2]with
    | some (r,q)=>if zk q r=true then some (r,q,ρ2)else none
    | none=>none
   | _=>none
  | none=>none
  else none
 | none=>none
section
variable {X:Cx}{a b c e:Expr}{fa fb fc f:aB}{p p1 p2 pos pos' aq apos:Pos}{x y:Str}{i j:Nat}
def MK.Wc{k:MK}(h:k.Is K vs z):(∀ xs,z ≠ .lst xs)/\∀ ob u,z ≠ .d8 ob u:=by
 cases k with
 | t ks=>cases h;exact⟨(fun _ z=>nomatch z),(fun _ _ z=>nomatch z)⟩
 | k ks=>cases h;exact⟨(fun _ z=>nomatch z),(fun _ _ z=>nomatch z)⟩
 | i C fs=>obtain⟨dx,rfl,_⟩:=h;exact⟨(fun _ z=>nomatch z),(fun _ _ z=>nomatch z)⟩
def Wd{j k:Nat}{F:List D->OD}(C:aE X.prog X.w X.K X.mg X.base k x 3 F)(hr:aQ j X.A)(hk:k<=j)(ha:QD X a fa)(hv:QE X (.Name y p1) (fK i))(hc:QD X c fc)(hg:Gl X x:=by rfl)(gF:(x==("__debug__":Str))=false:=by decide)(s0:starEach [a,.Name y p1,c] X.env=(false,eval a X.env)::starEach [.Name y p1,c] X.env:=by rfl)(s1:starEach [.Name y p1,c] X.env=(false,eval (.Name y p1) X.env)::starEach [c] X.env:=by rfl)(s2:starEach [c] X.env=(false,eval c X.env)::starEach [] X.env:=by rfl)(bX:(backTo pos (starEach [.Name y p1,c] X.env)).any (·.1)=false:=by rfl):QD X (.Call (.Name x p) [a,.Name y p1,c] [] pos) (wF F i fa fc):=⟨have ha:=ha.o;have hv:=hv.o;have hc:=hc.o;by
 obtain⟨fn,fd,ps,G,hm,rE,hb⟩:=C
 refine PE.imp (An G (hr.mono hk) hg hm rE hb .nil EV (gE ha (gE hv (gE hc jf s2) s1) s0) gF s0 bX) fun σ H Q ag=>?_
 obtain⟨ρ,w,t,r',q,ρ',gd,ee,kk⟩:=ag
 unfold wF at ee
 split at ee
 next d0 q0 qf h0=>
  split at ee
  next hd=>
   split at ee
   next d2 q2 ρ2 h2=>
    split at ee
    next k0 ds e1=>
     split at ee
     next r q1 hF=>
      split at ee
      next aw=>
       cases ee
       refine⟨ρ,w,t,_,_,_,gd,h0,fun v0 H1 w1 F1 g1 aD r1=>?_⟩
       have zm:=g1.drop (t':=t)
       obtain⟨l,cV,_⟩:=zm.dv hd
       refine⟨_,cV,qf,bV t w1,t,_,_,_,zm,h2,fun v2 H2 w2 F2 g2 bg r2=>?_⟩
       have gg:=g2.drop (t':=t)
       have wG:=bg.drop zm.wt
       have r0:Rep X.K H2 (bV t w2) .f 0 d0 v0 []:=Rep.go zm.wl wG.bu (r1.drop (o:=.f) (Qg t)) nM
       have We:=r2.drop (o:=.f) (t':=t) (Qg t)
       obtain⟨v,Fs,t1,t2⟩:=gg.slot i _ _ e1
       cases t2 with
       | @kK _ l' vs _ _ z hH gJ hw hlen rs=>
        rw[cV]at t1
        cases t1
        have fr:∀ a,bV t w2 a=none->(fun a=>if a=l then none else(bV t w2 a).map fun _=>Ow.f) a=none:=fun a n=>by
         show(if a=l then none else(bV t w2 a).map _)=_
         split
         ·rfl
         ·rw[n];rfl
        refine⟨rfl,[d0,.mp k0 ds,d2],fun a=>if a=l then none else(bV t w2 a).map fun _=>Ow.f,r',q,fun a o e=>?_,⟨fun a o e=>?_,gg.wl.tb⟩,?_,hF,fun v H3 w3 Fo nC Wf rr=>?_⟩
        ·have e:(if a=l then none else(bV t w2 a).map fun _=>Ow.f)=some o:=e
         split at e
         ·cases e
         ·cases ew:bV t w2 a with
          | none=>rw[ew]at e;cases e
          | some o'=>rw[ew]at e;cases e;rfl
        ·have e:(if a=l then none else(bV t w2 a).map fun _=>Ow.f)=some o:=e
         split at e
         ·cases e
         ·cases ew:bV t w2 a with
          | none=>rw[ew]at e;cases e
          | some o'=>exact gg.wl a o' ew
        ·refine .rY (Rep.freeze fr r0 nM) (.rY (.ny hH gJ (Qi rfl) hlen (af.freeze fr rs nM)) (.rY (Rep.freeze fr We nM) .nil))
        ·obtain⟨b1,b2,b3⟩:=Wa gg hH hw (MK.Wc gJ) (MK.CW gJ) nC Wf rr aw
         exact kk _ _ _ _ b1 (((aD.drop gd.wt).trans wG).trans b2) b3
      ·cases ee
     ·cases ee
    ·cases ee
   ·cases ee
  ·cases ee
 ·cases ee⟩
end
end L3
namespace L3
open PySem PySem.Spec PyProof.Rows L2
variable {K:PySem.W.Frag}{N ps:List Str}{P:Program}{X:Cx}{base:Heap}{body:aJ}{es:List Expr}{g:bT}{mg:Str->Option Value}{st:Stmt}{w:World}{x:Str}
def qv(i:Nat){pos:Pos}(hN:X.N[i]? = some x:=by rfl)(hv:tm X.env.scope x:=by first|exact Or.inl rfl|exact Or.inr (Or.inl rfl)|exact Or.inr (Or.inr rfl))(hd:(x==("__debug__":Str))=false:=by decide)(gC:(x==("__classdict__":Str))=false:=by decide):QE X (.Name x pos) (fK i):=⟨pv i hN hv hd gC⟩
def ql(i:Nat){pos:Pos}(hN:X.N[i]? = some x)(hv:X.env.scope.names.lookup x=some .local)(hd:(x==("__debug__":Str))=false:=by decide)(gC:(x==("__classdict__":Str))=false:=by decide):QE X (.Name x pos) (fK i):=⟨pv i hN (.inl hv) hd gC⟩
def C3{e:Expr}{f:cz}(h:q8 X e f):gK X e f:=⟨PW.pt h.o⟩
def aG(i:Nat){pos:Pos}(hN:X.N[i]? = some x)(hv:X.env.scope.names.lookup x=some .local)(hd:(x==("__debug__":Str))=false:=by decide)(gC:(x==("__classdict__":Str))=false:=by decide):QD X (.Name x pos) (aa i):=cy (ql i hN hv hd gC)
def aP(i:Nat){pos:Pos}(hN:X.N[i]? = some x)(hv:X.env.scope.names.lookup x=some .local)(hr:fi X es g)(hd:(x==("__debug__":Str))=false:=by decide)(gC:(x==("__classdict__":Str))=false:=by decide):fi X (.Name x pos::es) (ae (aa i) g):=aA (aG i hN hv hd gC) hr gu
def cE{i:Int}{j:Nat}{pos:Pos}(hr:fi X es g):fi X (.Constant (.int i) j pos::es) (ae (eC (.int i)) g):=aA a_ hr lj
def aE.da{k:Nat}(a:At K mg x st ps)(S:ah N ps (bj st))
  (h:∀ (f:Addr) (bG:Value) (A:Around) (outer:List Env) (s:Shared) (H:Hp) (E:XK),aQ k (A.deeper (envOfC x (bj st) s.heap.objs.size f bG))->fR (k_ jh P w K mg base N x (bj st) f bG A outer s H E).iR (jg st) body) :
  aE P w K mg base (k+1) x ps.length (cB N.length body):=aE.mk a S fun f bG A outer s H E hr=>(h f bG A outer s H E hr).o
def Wg{k:Nat}{f:Addr}{fd:FuncData}(F:lX K x x st f fd)(S:ah N ps (bj st))
  (h:∀ (f:Addr) (bG:Value) (A:Around) (outer:List Env) (s:Shared) (H:Hp) (E:XK),aQ k (A.deeper (envOfC x (bj st) s.heap.objs.size f bG))->fR (k_ jh P w K mg base N x (bj st) f bG A outer s H E).iR (jg st) body) :
  dU P w K mg base jh (k+1) f fd ps (kM K ps.length (cB N.length body)):=Py F S fun f bG A outer s H E hr=>(h f bG A outer s H E hr).o
end L3
namespace L3
open PySem PySem.Spec PyProof.Rows PySem.W L2
variable {C:Addr}{H:Hp}{K:Frag}{L:List Str}{Q:Value->Shared->Prop}{led:Bool}{m v:Nat}{mg:Str->Option Value}{o:Ow}{w:Wn}{x:Str}
def C4{v:Value}{b:Bool}(h:mroIn K C v=some b):(clsIn K C).isSome=true:=by
 obtain⟨cd,a,_⟩:=Option.bind_eq_some_iff.mp h
 rw[a];rfl
def iU.of{nm:Str}(n:nsIn K mainGlobals nm=some (some (.ref C)))(x:eP K C)(ex:excIn K C AS "ValueError.__new__" = true)(v:mroIn K C (.type "ValueError")=some true)
  (a1:mroIn K C (.type "int")=some false) (a2:mroIn K C (.type "bool")=some false) (a3:mroIn K C (.type "tuple")=some false) (a4:mroIn K C (.type "list")=some false) (a5:mroIn K C (.type "str")=some false):iU K nm C:=
 ⟨n,x,ex,v,fun T hT=>by
   rcases Qt.mp hT with rfl|hT
   ·exact a1
   rcases Qt.mp hT with rfl|hT
   ·exact a2
   rcases Qt.mp hT with rfl|hT
   ·exact a3
   rcases Qt.mp hT with rfl|hT
   ·exact a4
   rcases Qt.mp hT with rfl|hT
   ·exact a5
   cases hT⟩
def oW.nil{R:Str}{RA:Addr}(x:eP K RA)(t:typeIn K (.ref RA)=some (.type "type"))(m:mg R=some (.ref RA)):oW K mg R []:=⟨RA,x,t,m,fun n hn=>nomatch hn⟩
def oW.cons{K:Frag}{mg:Str->Option Value}{R nm:Str}{L:List Str}{C RA:Addr}(U:oW K mg R L)(m:mg R=some (.ref RA))(k:iU K nm C)(s:mroIn K C (.ref RA)=some true):oW K mg R (nm::L):=by
 obtain⟨RB,x,t,m',h⟩:=U
 rw[m]at m'
 cases m'
 refine⟨RA,x,t,m,fun n hn C' e=>?_⟩
 rcases Qt.mp hn with rfl|hn
 ·have e':=k.ns
  rw[e]at e'
  cases e'
  exact⟨k,s⟩
 ·exact h n hn C' e
def eT.nil{nm:Str}(m:mg nm=some (.ref C)):eT K mg [] nm:=⟨C,m,fun n hn=>nomatch hn⟩
def eT.self{nm:Str}(U:eT K mg L nm)(n:nsIn K mainGlobals nm=some (some (.ref C)))(m:mg nm=some (.ref C)):eT K mg (nm::L) nm:=by
 obtain⟨C',m',h⟩:=U
 rw[m]at m'
 cases m'
 refine⟨C,m,fun n' hn B e=>?_⟩
 rcases Qt.mp hn with rfl|hn
 ·rw[e]at n
  cases n
  exact⟨fun _=>by unfold isIn;simp,fun z=>absurd rfl z⟩
 ·exact h n' hn B e
def eT.other{nm n2:Str}{D:Addr}(U:eT K mg L n2)(n:nsIn K mainGlobals nm=some (some (.ref C)))(m:mg n2=some (.ref D))(hn:nm≠n2)(ne:C≠D)(t:typeIn K (.ref D)=some (.type "type"))(o:mroIn K D (.type "object")=some true)(s:mroIn K C (.ref D)=some false):eT K mg (nm::L) n2:=by
 obtain⟨D',m',h⟩:=U
 rw[m]at m'
 cases m'
 refine⟨D,m,fun n' n6 B e=>?_⟩
 rcases Qt.mp n6 with rfl|n6
 ·rw[e]at n
  cases n
  have s':subIn K (.ref C) (.ref D)=some false:=s
  exact⟨fun z=>absurd z hn,fun _=>by unfold kin_not;rw[C4 o,t,s'];simp[ne]⟩
 ·exact h n' n6 B e
def kS.da{P:Program}{w:World}{K:PySem.W.Frag}{base:Heap}{k:Nat}{st:Stmt}{N ps:List Str}{xb:g8}(a:At K mg x st ps)(S:ah N ps (bj st))
  (h:∀ (f:Addr) (bG:Value) (A:Around) (outer:List Env) (s:Shared) (H:Hp) (E:XK),aQ k (A.deeper (envOfC x (bj st) s.heap.objs.size f bG))->vS (jI P w K mg base N x (bj st) f bG A outer s H E) E (jg st) xb) :
  kS P w K mg base (k+1) x ps.length (fnX N.length xb):=kS.mk a S fun f bG A outer s H E hr=>(h f bG A outer s H E hr).o
def j56{K:PySem.W.Frag}(a:nsIn K mainGlobals x=some none):tabIn K x=none:=by unfold tabIn;rw[a]
def T0.of{K:PySem.W.Frag}(h1:tabIn K "turned" = none)(h2:tabIn K "chain_ladder" = none)(h3:tabIn K "flat_ladder" = none)(h4:tabIn K "paired" = none)(h5:tabIn K "height_of" = none)(h6:tabIn K "_law_high" = none):∀ x∈tL,tabIn K x=none:=fun x hx=>by
 unfold tL at hx
 simp only[Qt,QG,YO]at hx
 rcases hx with rfl|rfl|rfl|rfl|rfl|rfl<;>assumption
def Wh{l:PySem.W.OpenLaw}{n k:Nat}{q:Program}{loose:List Str}{XP:(Str->Option Value)->Heap->Prop}{YP:World->Heap->Prop}{d:DefRec}{K:Params->PySem.W.Frag}{F0:List D->OD}
  (hn:l.most=some n) (x_:n<=sizeLine) (uT:d.params.defaults=[]) (hr:aQ k callerA) (hY:∀ (w:World) (h:Heap),YP w h->(K w.params).In h)
  (F:∀ (w:World) (mg:Str->Option Value) (fa:Addr) (h:Heap),(K w.params).In h->h.Ns mainGlobals mg->mg d.name=some (.ref fa)->(∀ x∈tL,tabIn (K w.params) x=none) /\
    ∃ fd:FuncData,(∀ (s:Shared) (u:Value),BindsTo s fd ⟨[u],[]⟩ [(x,u)])/\∀ base:Heap,(K w.params).In base->base.Ns mainGlobals mg->dU l.prog w (K w.params) mg base jh k fa fd [x] (kM (K w.params) 1 F0))
  (jy:∀ (w:World) (H:Hp) (a:Addr) (ns:List Int),ns.length<=n->TB (K w.params) H->cn (K w.params) H a (ns.map V.int)->kM (K w.params) 1 F0 [.ref a] H (fun v _=>v=.bl true) fun _ _ _=>False) :
  PySem.W.WalkO q loose XP YP l.row.toRowW d [] (fun f vs=>PySem.call f vs):=by
 refine ET.Nj hn uT fun w av aM mg mb fa o pm cd doc a vs ns G Y ho hd gC hmg qN hints hlen hg=>?_
 have KX:=hY w _ Y
 obtain⟨hT,fd,hb,hF⟩:=F w mg fa _ KX G.T.g hmg
 exact Nl KX G.T.g G.T.b G.T.builtins G.T.nolimit hg qN hints (QU hlen x_) hr hF hb (fun H hO hS=>jy w H a ns hlen (TB.only hO hT) hS) fun _ _ _ z=>z
def de:List Nat:=List.range 32++[32,64,128]
def vI (v:Nat):Int:=if v=7 then -1 else Int.ofNat v
def hI (v:Nat):Int:=if v=7 then -2 else Int.ofNat v
def sI (v:Nat):Nat:=if v=7 then 6 else v
def ud (ks:List Nat):Bool:=decide (∀ i,i<ks.length+1->mb (fun i=>ks.getD i 0) i∈de)
def Wi:∀ u:Nat,u<8->∀ v:Nat,v<8->vI u=vI v->u=v:=by decide +kernel
def bC (m:Nat):List Nat:=(List.range 8).filter fun i=>m.testBit i
def Ht(m:Nat)(h:v∈bC m):v<8:=by
 unfold bC at h;rw[Zr]at h;exact QJ.mp h.1
def cY (m:Nat)(led:Bool):SetTable:={ mask:=if(bC m).length<5 then 7 else 31,place:=((bC m).map sI).toArray,dummies:=#[],finger:=0,led:=led,moves:=if(bC m).length<5 then 0 else 1,plain:=true }
def cL (m:Nat)(z:Nat->Tok):Array (Int×Value):=((bC m).map fun v:Nat=>(hI v,Value.int (vI v) (z v))).toArray
def fI (m:Nat)(z:Nat->Tok)(ep:Nat)(led:Bool):Obj:={ cls:=.type "set",dict:=none,data:=.set (cL m z) ep (cY m led) }
def C5:∀ m:Nat,m∈de->∀ v:Nat,v<8->(v∈bC m ↔ m.testBit v=true):=by decide +kernel
def Wj:∀ m:Nat,m∈de->∀ v:Nat,v<8->m.testBit v=true->bor m v=m:=by decide +kernel
def C6:∀ m:Nat,m∈de->∀ led:Bool,(cY m led).fits (bC m).length=true:=by decide +kernel
def Wl:∀ m:Nat,m∈de->∀ v:Nat,v<8->bor m v∈de->m.testBit v=false->∀ led:Bool,(cY m led).freeSlot (hI v)=some (sI v,false):=by decide +kernel
def Wm:∀ m:Nat,m∈de->∀ v:Nat,v<8->bor m v∈de->m.testBit v=false->∀ led:Bool,(bC m).take ((cY m led).put (sI v)).2++v::(bC m).drop ((cY m led).put (sI v)).2=bC (bor m v):=by decide +kernel
def Wo:∀ m:Nat,m∈de->∀ v:Nat,v<8->bor m v∈de->m.testBit v=false->∀ led:Bool,((cY m led).put (sI v)).1.fits (bC (bor m v)).length=true:=by decide +kernel
def C7:∀ m:Nat,m∈de->∀ v:Nat,v<8->bor m v∈de->m.testBit v=false->∀ led:Bool,((cY m led).put (sI v)).1.plain=true/\(bC (bor m v)).length<=5:=by decide +kernel
def Wp:∀ m:Nat,m∈de->∀ v:Nat,v<8->bor m v∈de->m.testBit v=false->∀ led:Bool,((cY m led).put (sI v)).1.tooFull=false->((cY m led).put (sI v)).1=cY (bor m v) led:=by decide +kernel
def Hu (m v:Nat)(led:Bool):=((cY m led).put (sI v)).1.relaid ((bC (bor m v)).map hI).toArray (SetTable.grown (bC (bor m v)).length)
def Hv (m v:Nat)(led:Bool):Bool:=match Hu m v led with
 | some (x,y)=>decide (x=cY (bor m v) led)&&decide (y=Array.range (bC (bor m v)).length)
 | none=>false
def Wq:∀ m:Nat,m∈de->∀ v:Nat,v<8->bor m v∈de->m.testBit v=false->∀ led:Bool,((cY m led).put (sI v)).1.tooFull=true->Hv m v led=true:=by decide +kernel
def Wr(hm:m∈de)(hv:v<8)(kU:bor m v∈de)(hb:m.testBit v=false)(hf:((cY m led).put (sI v)).1.tooFull=true):Hu m v led=some (cY (bor m v) led,Array.range (bC (bor m v)).length):=by
 have a:=Wq m hm v hv kU hb led hf
 unfold Hv at a
 split at a
 next x y h=>
  rw[ZY,Zx,Zx]at a
  rw[h,a.1,a.2]
 ·cases a
def ko(m:Nat)(z:Nat->Tok):(cL m z).size=(bC m).length:=by unfold cL;rw[Qn,Qe]
def wH(m:Nat)(z:Nat->Tok):(cL m z).toList=(bC m).map fun v:Nat=>(hI v,Value.int (vI v) (z v)):=rfl
def Ws(m:Nat)(z:Nat->Tok):(cL m z).map (·.1)=((bC m).map hI).toArray:=by
 apply Vm
 rw[VQ,wH,Q7];rfl
def Wt(hm:m∈de)(hv:v<8)(kU:bor m v∈de)(hb:m.testBit v=false)(z:Nat->Tok)(t:Tok) :
  SetTable.insertAt (cL m z) ((cY m led).put (sI v)).2 (hI v,Value.int (vI v) t)=cL (bor m v) (fun k=>if k=v then t else z k):=by
 apply Vm
 rw[SetTable.toList_insertAt,wH,wH,<- Wm m hm v hv kU hb led,Zb,QK,<- List.map_take,<- List.map_drop]
 have nm:v ∉ bC m:=fun h=>by rw[(C5 m hm v hv).mp h]at hb;cases hb
 have e:∀ l:List Nat,(∀ k∈l,k∈bC m)->l.map (fun k:Nat=>(hI k,Value.int (vI k) (z k)))=l.map (fun k:Nat=>(hI k,Value.int (vI k) ((fun k=>if k=v then t else z k) k))):=by
  intro l hl
  apply Q5
  intro k hk
  have:k≠v:=fun h=>nm (h ▸ hl k hk)
  simp only[Qj this]
 rw[e _ (fun k hk=>JW hk),e _ (fun k hk=>List.mem_of_mem_drop hk)]
 simp only[ZD]
def Hw(prog:Program)(w:World):∀ v:Nat,v<8->(intKind prog w).hash (vI v)=hI v:=by
 show ∀ v:Nat,v<8->hashInt (vI v)=hI v
 decide +kernel
def Wu(prog:Program)(w:World)(z:Nat->Tok):ElemsOf (intKind prog w) (cL m z).toList:=by
 intro e he
 rw[wH]at he
 obtain⟨v,hv,rfl⟩:=Qx.mp he
 exact⟨⟨vI v,YH _ _ _ _,(Hw prog w v (Ht m hv)).symm⟩,rfl⟩
section
variable {prog:Program}{w:World}{A:Around}{E:Value->Shared->Prop}{s:Shared}
def Wv{a:Addr}{ep:Nat}{z:Nat->Tok}{t:Tok}{Q:Bool->Shared->Prop}(hm:m∈de)(hv:v<8)(kU:bor m v∈de)(ho:s.heap.get? a=some (fI m z ep led))
  (h:∀ h' z' iO r,Heap.SameBut a s.heap h'->h'.get? a=some (fI (bor m v) z' iO led)->Q r { s with heap:=h' }) :
  wpAny (model prog w) A (setAddHashed a (.int (vI v) t) ((intKind prog w).hash (vI v))) Q E s:=by
 have hd:(fI m z ep led).data=.set (cL m z) ep (cY m led):=rfl
 have hf:(cY m led).fits (cL m z).size=true:=by rw[ko];exact C6 m hm led
 have Hx:=Wu prog w (m:=m) z
 have hsz:(cL m z).size<scanBound:=by
  rw[ko];unfold bC scanBound;exact ZP (ZL _ _) (by simp)
 have qI:(intKind prog w).is (vI v) (.int (vI v) t)=true:=YH _ _ _ _
 unfold setAddHashed setAddHashedIn
 refine QZ (Qa (ZJ ho hd hf ?_))
 dsimp only
 rw[byScan_of (knd:=intKind prog w) rfl hsz Hx]
 simp only[↓reduceIte]
 unfold setAddByScan
 refine Qa ?_
 refine Qa (YB ?_)
 refine Qa (wpAny_setScan_of qI ho hd hf Hx ?_)
 cases hr:List.findIdx? (fun e=>(intKind prog w).is (vI v) e.2) (cL m z).toList with
 | some j=>
  dsimp only
  obtain⟨hj,Hy,_⟩:=Jf.mp hr
  have kW:=Q4 hj
  obtain⟨u,hu,eu⟩:=Qx.mp (show(cL m z).toList[j]∈(bC m).map _ from kW)
  rw[<- eu]at Hy
  have Ww:v=u:=by
   have:=(intKind prog w).inj _ _ _ Hy (YH _ _ (vI u) _)
   exact Wi _ hv _ (Ht m hu) this
  subst Ww
  have e:s={ s with heap:=s.heap }:=by cases s;rfl
  refine Qc (Qc ?_)
  rw[e]
  refine h s.heap z ep _ (VC a s.heap) ?_
  rw[Wj m hm v hv ((C5 m hm v hv).mp hu)]
  exact ho
 | none=>
  dsimp only
  have hb:m.testBit v=false:=by
   cases hk:m.testBit v with
   | false=>rfl
   | true=>
    have:=List.findIdx?_eq_none_iff.mp hr (hI v,Value.int (vI v) (z v)) (Qx.mpr ⟨v,(C5 m hm v hv).mpr hk,rfl⟩)
    rw[YH]at this;cases this
  have hL:layNew (cY m led) (cL m z) ((intKind prog w).hash (vI v)) (.int (vI v) t)=(cL (bor m v) (fun k=>if k=v then t else z k),((cY m led).put (sI v)).1,false,false):=by
   unfold layNew
   rw[Hw prog w v hv,Wl m hm v hv kU hb led]
   dsimp only
   rw[Wt hm hv kU hb z t,ko]
   unfold SetTable.orStandIn
   rw[Wo m hm v hv kU hb led]
   rfl
  rw[hL]
  dsimp only
  refine Qa (show wpAny _ _ (pure ()) _ _ _ from Qc ?_)
  rw[(C7 m hm v hv kU hb led).1]
  simp only[↓reduceIte]
  rw[hashByValue_scannable 8 (x:=.int (vI v) t) rfl]
  refine Qa (Qc ?_)
  simp only[plainKind,↓reduceIte]
  have Hz:(cL (bor m v) (fun k=>if k=v then t else z k)).size<=sizeLine:=by
   rw[ko];exact QU (C7 m hm v hv kU hb led).2 (by rw[Z1];omega)
  refine Qa (Yt ho hd ?_ Hz)
  have t5:(s.heap.update a (Obj.putSet (cL (bor m v) (fun k=>if k=v then t else z k)) ((cY m led).put (sI v)).1)).get? a=some { fI m z ep led with data:=.set (cL (bor m v) (fun k=>if k=v then t else z k)) (ep+1) ((cY m led).put (sI v)).1 }:=by
   have:=Zk (Obj.putSet (cL (bor m v) (fun k=>if k=v then t else z k)) ((cY m led).put (sI v)).1) ho (by rw[YG _ _ hd];rfl)
   rw[YG _ _ hd]at this;exact this
  have oZ:=QT s.heap a (Obj.putSet (cL (bor m v) (fun k=>if k=v then t else z k)) ((cY m led).put (sI v)).1)
  cases t6:((cY m led).put (sI v)).1.tooFull with
  | false=>
   rw[Qj (by simp)]
   refine Qc (show wpAny _ _ (pure true) _ _ _ from Qc (h _ (fun k=>if k=v then t else z k) (ep+1) _ oZ ?_))
   rw[t5,Wp m hm v hv kU hb led t6];rfl
  | true=>
   rw[Qi (by simp)]
   have hR:relayAll ((cY m led).put (sI v)).1 (cL (bor m v) (fun k=>if k=v then t else z k)) (SetTable.grown (cL (bor m v) (fun k=>if k=v then t else z k)).size)=(cL (bor m v) (fun k=>if k=v then t else z k),cY (bor m v) led,false):=by
    unfold relayAll
    rw[Ws,ko]
    rw[show((cY m led).put (sI v)).1.relaid ((bC (bor m v)).map hI).toArray (SetTable.grown (bC (bor m v)).length)=some (cY (bor m v) led,Array.range (bC (bor m v)).length)from Wr hm hv kU hb t6]
    dsimp only
    have e1:(Array.range (bC (bor m v)).length).filterMap (fun i=>(cL (bor m v) (fun k=>if k=v then t else z k))[i]?)=cL (bor m v) (fun k=>if k=v then t else z k):=by
     apply Vm
     rw[V0,Array.toList_range,<- ko (bor m v) (fun k=>if k=v then t else z k)]
     exact filterMap_getElem?_range _
    rw[e1,Sk _ (ZP (C7 m hm v hv kU hb led).2 (by decide)),ko,C6 _ kU led]
    rfl
   rw[hR]
   dsimp only
   refine Qa (show wpAny _ _ (pure ()) _ _ _ from Qc ?_)
   refine Qa (Yt (s:={ s with heap:=_ }) t5 rfl ?_ Hz)
   refine Qc (show wpAny _ _ (pure true) _ _ _ from Qc (h _ (fun k=>if k=v then t else z k) (ep+1+1) _ (oZ.trans (QT _ a _)) ?_))
   have:=Zk (Obj.putSet (cL (bor m v) (fun k=>if k=v then t else z k)) (cY (bor m v) led)) t5 (by rw[YG _ _ rfl];rfl)
   rw[YG _ _ rfl]at this;exact this
end
section
variable {prog:Program}{w:World}{A:Around}{R:Result->Shared->Prop}{I:Addr}{fp wr:List Addr}{G:Array GenState->Array GenState->Prop}{n:Nat}{P:Nat->Value->Prop}{St:Nat->Shared->Prop}
def Wx(W:WalksS prog w A.in1 I fp wr G n P St)(S:Addr)(we:S ∉ fp)(led:Bool)
  (val:Nat->Nat) (h5:∀ i,i<n->val i<8) (hO:∀ i,i<=n->mb val i∈de) (iu:∀ i v,P i v->∃ t,v=.int (vI (val i)) t) :
  ∀ (k i:Nat) (s:Shared) (z:Nat->Tok) (ep:Nat),n-i=k->i<=n->St i s->s.heap.get? S=some (fI (mb val i) z ep led)->
   (∀ s' z' iO,Moved (S::wr) G s s'->s'.heap.get? S=some (fI (mb val n) z' iO led)->R (.ok (.ret .none)) s')->
   codeAny (model prog w) A (.builtin "set.update.loop" ⟨[.ref S,.ref I],[]⟩) R s:=by
 have wg:S ∉ wr:=fun h=>we (W.sub _ h)
 have bO:∀ b∈wr,b∈S::wr:=fun b hb=>Qh _ hb
 intro k
 induction k with
 | zero=>
  intro i s z ep hk hi ff hS hR
  have iV:i=n:=by omega
  subst iV
  refine ZA ZG ?_
  rw[ZF Zg _]
  show wpAny _ A.in1 (pyNext (.ref I) >>= _) _ _ s
  refine Qa (W.done s _ _ ff fun s' hm=>?_)
  show wpAny _ A.in1 (ret Value.none) _ _ s'
  exact Qc (hR s' z ep (hm.mono bO) (hm.heap S _ wg hS))
 | succ k ih=>
  intro i s z ep hk hi ff hS hR
  have bL:i<n:=by omega
  refine ZA ZG ?_
  rw[ZF Zg _]
  show wpAny _ A.in1 (pyNext (.ref I) >>= _) _ _ s
  refine Qa (W.item i s _ _ bL ff fun v s' hP oV hm=>?_)
  obtain⟨t,rfl⟩:=iu i v hP
  show wpAny _ A.in1 (holding [Value.int (vI (val i)) t] (setAdd S (.int (vI (val i)) t)) >>= _) _ _ s'
  refine Qa (QZ ?_)
  unfold setAdd
  refine QZ ?_
  refine Qa ((intKind prog w).pyHash (k:=vI (val i)) (YH _ _ _ _) ?_)
  refine Wv (s:={ s' with toks:=s'.toks+1 }) (hO i hi) (h5 i bL) (hO (i+1) bL) (hm.heap S _ wg hS) fun h' z' iO r oZ Cp=>?_
  refine Qc ⟨YK Zg _,ih (i+1) _ z' iO (by omega) bL (W.frame _ s' _ _ oV (Jn _) fun b hb o e=>?_) Cp fun nr Wy C8 rP rQ=>?_⟩
  ·rw[oZ.2 b (fun h:b=S=>we (by rw[<- h];exact hb))];exact e
  ·refine hR nr Wy C8 (Moved.trans W.gtrans ((hm.mono bO).then_heap (Jn _) fun b o hb e=>?_) rP) rQ
   rw[oZ.2 b (fun h:b=S=>hb (by rw[h];exact Qk))];exact e
end
section
variable {prog:Program}{w:World}{A:Around}{E:Value->Shared->Prop}{s:Shared}
def Wz(led:Bool):(fI 0 (fun _=>0) 0 led)={ cls:=.type "set",dict:=none,data:=.set #[] 0 (.fresh 0 0 led) }:=by unfold fI;congr 1
def WA(a:Value){Q₁:Value->Shared->Prop}(h:Q₁ (.ref s.heap.objs.size) { s with heap:=s.heap.push (fI 0 (fun _=>0) 0 (!cb w)) }) :
  codeAny (model prog w) A (.call (.builtin "set.__new__") ⟨[.type "set",a],[]⟩) (wants Q₁ E) s:=by
 refine YZ ?_
 show wpAny _ A.in1 (do checkBuiltinCall "set.__new__" ⟨[.type "set",a],[]⟩;again (.builtin "set.__new__" ⟨[.type "set",a],[]⟩)) _ _ s
 refine Qa (YN (Ua a) (Qc ⟨YK JJ _,ZA Ub ?_⟩))
 rw[ZF JJ _]
 unfold Builtin.«set.__new__» Builtin.Frozenset.newClass
 have bO:=sub_set_self
 obtain⟨hp,g,d,tk,os⟩:=s
 dsimp only
 wp_walk
 refine JZ (Qc ?_)
 dsimp only
 simp only[newObj]
 refine Qa (wpAny_alloc (Qc ?_))
 rw[Wz]at h
 exact Qc h
set_option maxHeartbeats 3200000 in
def WB{t:Addr}{us:List Value}{ks:List Nat}(hA:A.handled=none)(ht:s.heap.IsList t us.toArray)(hk:IntsAre us (ks.map vI))(h5:∀ k∈ks,k<8)(hO:∀ i,i<=ks.length->mb (fun i=>ks.getD i 0) i∈de)
  (q:∀ (h':Heap) (tk:Nat) z ep,h'.get? s.heap.objs.size=some (fI (mb (fun i=>ks.getD i 0) ks.length) z ep (!cb w))->(∀ b o,b<s.heap.objs.size->s.heap.get? b=some o->h'.get? b=some o)->Q (.ref s.heap.objs.size) { s with heap:=h',toks:=tk }) :
  wpAny (model prog w) A (call (.type "set") [.ref t]) Q E s:=by
 have hlen:us.length=ks.length:=by rw[IntsAre.length hk,Qe]
 have c1:=QX.made
 have c2:=QX.sub
 obtain⟨cc,tl,c3⟩:=QX.mro
 have c4:=QX.notType
 have c5:=QX.canCreate
 have c6:=V1 (.ref t)
 refine Ve (YZ (show wpAny _ _ (callAny (.type "set") _) _ _ _ from Qc ⟨Yi _ (by decide +kernel),ZA VR ?_⟩))
 rw[Around.under_plain (weight_type_call_type "set" [.ref t] []) rfl]
 repeat (any_goals (first|assumption|wp_step))
 refine Jl (WA (.ref t) (E:=E) (Q₁:=fun ob s1=>ob=.ref s.heap.objs.size/\s1={ s with heap:=s.heap.push (fI 0 (fun _=>0) 0 (!cb w)) }) ⟨rfl,rfl⟩) fun r s1 hr=>?_
 cases r with
 | error e=>exact hr
 | ok fl=>
  cases fl with
  | ret ob=>
   obtain⟨rfl,rfl⟩:=hr
   have g0:(s.heap.push (fI 0 (fun _=>0) 0 (!cb w))).get? s.heap.objs.size=some (fI 0 (fun _=>0) 0 (!cb w)):=Qp _ rfl
   have g1:Shared.TypeIs { s with heap:=s.heap.push (fI 0 (fun _=>0) 0 (!cb w)) } (.ref s.heap.objs.size) "set":=⟨_,g0,rfl⟩
   have g2:=QX.init.lookup
   have g3:=QX.init.bind (.ref s.heap.objs.size)
   repeat (any_goals (first|assumption|wp_step))
   refine Jl (Z2 (R:=wants (fun r s2=>r=.none/\∃ h' tk z ep,s2={ s with heap:=h',toks:=tk }/\h'.get? s.heap.objs.size=some (fI (mb (fun i=>ks.getD i 0) ks.length) z ep (!cb w))/\(∀ b o,b<s.heap.objs.size->s.heap.get? b=some o->h'.get? b=some o)) E)
    QX.init.plain V2 (check_set_init_1 g1 ?_)) fun r2 s2 rS=>?_
   ·obtain⟨ol,iK,j_,nl,wj⟩:=ht
    obtain⟨oc,od,Ti,lS⟩:=ol
    simp only at j_ wj
    subst j_ wj
    have rT:(s.heap.push (fI 0 (fun _=>0) 0 (!cb w))).get? t=some _:=Qd _ iK
    have n1:=Uo
    have n2:=Vn
    have n3:(Value.type "list" == Value.type "dict")=false:=by decide
    have tt:(s.heap.push (fI 0 (fun _=>0) 0 (!cb w))).IsList t us.toArray:=⟨_,rT,rfl,nl,rfl⟩
    unfold Builtin.«set.__init__» noKeywords Builtin.Frozenset.updateFrom
    generalize Cs:pyIter=PI
    wp_walk
    subst Cs
    refine VA tt (Qa (Uh ?_))
    have lt:=Qm iK
    have e1:(s.heap.push (fI 0 (fun _=>0) 0 (!cb w))).objs.size=s.heap.objs.size+1:=ZM ..
    have sz:us.toArray.size=ks.length:=by rw[Qn,hlen]
    have iu:∀ (i:Nat) (v:Value),us.toArray[i]? = some v->∃ z,v=.int (vI ((fun i=>ks.getD i 0) i)) z:=fun i v hv=>by
     have hi:i<us.length:=by
      rcases J1 i us.length with h|h
      ·exact h
      ·rw[Zo (by rw[Qn];exact h)]at hv;cases hv
     obtain⟨z,e⟩:=IntsAre.int_at hk i v (by rw[<- hv];simp)
     refine⟨z,?_⟩
     rw[e]
     congr 1
     simp only[Qf,Ql]
     rw[Qb (hlen ▸ hi)]
     rfl
    have WC:∀ i,i<us.toArray.size->(fun i=>ks.getD i 0) i<8:=fun i hi=>by
     rw[sz]at hi
     simp only[Qf]
     rw[Qb hi]
     exact h5 _ (Q4 hi)
    refine Wx ((Walks.list (A:=A.in1.in1.in1) (by simp[hA]) _ t (by rw[e1];exact Qz (Zi lt)) us.toArray).toS) s.heap.objs.size (by rw[e1];simp only[Qt,QG,YO,not_or];exact⟨Qz (Zn _),Y8 lt⟩) (!cb w) (fun i=>ks.getD i 0) WC (fun i hi=>hO i (sz ▸ hi)) iu (us.toArray.size-0) 0 _ (fun _=>0) 0 (by omega) (QS _) ⟨⟨_,Qp _ rfl,rfl,rfl⟩,tt.push _⟩ ?Ct ?Cu
    case Ct=>exact Qd _ g0
    case Cu=>
     intro s' z' iO hm hS
     rw[sz]at hS
     obtain⟨h',g',d',vq,uO⟩:=s'
     cases (show g'=s.gens from hm.gens)
     cases (show d'=s.drawn from hm.drawn)
     cases (show uO=s.os from hm.os)
     refine Qc (show wpAny _ _ (ret Value.none) _ _ _ from Qc ⟨rfl,h',vq,z',iO,rfl,hS,fun c o hc e=>hm.heap c o ?_ (Qd _ (Qd _ e))⟩)
     rw[e1]
     simp only[Qt,QG,YO,not_or]
     exact⟨Qz hc,Qz (Zi hc)⟩
   ·cases r2 with
    | error e=>exact rS
    | ok Cv=>
     cases Cv with
     | ret r=>
      obtain⟨rfl,h',tk,z,ep,rfl,hS,kp⟩:=rS
      repeat (any_goals (first|assumption|wp_step))
      exact q _ _ _ _ hS kp
     | _=>exact rS.elim
  | _=>exact hr.elim
end
def WD:∀ m:Nat,m∈de->∀ i:Nat,i<6->i<=(bC m).length->SetTable.below ((bC m).map sI).toArray (if i=0 then 0 else sI ((bC m).getD (i-1) 0)+1)=i:=by decide +kernel
def C9:∀ m:Nat,m∈de->(bC m).length<=5:=by decide +kernel
def jM (w:World)(a:Addr)(m:Nat)(z:Nat->Tok)(ep:Nat):Array (Int×Value):=if cb w then pickOrder (w.params.setOrder a ep) (cL m z)else cL m z
def lC (w:World)(m i:Nat):Nat:=if cb w then 0 else if i=0 then 0 else sI ((bC m).getD (i-1) 0)+1
def HA(w:World)(a:Addr)(m:Nat)(z:Nat->Tok)(ep:Nat):(jM w a m z ep).toList.Perm (cL m z).toList:=by
 unfold jM
 split
 ·exact Gr _ _
 ·exact .rfl
def zo(w:World)(a:Addr)(m:Nat)(z:Nat->Tok)(ep:Nat):(jM w a m z ep).size=(bC m).length:=by
 rw[<- QH,(HA w a m z ep).length_eq,QH,ko]
section
variable {prog:Program}{w:World}{A:Around}{E:Value->Shared->Prop}{s:Shared}{a I:Addr}{m ep:Nat}{z:Nat->Tok}
def sg{Q:(Array (Int×Value)×Nat×SetTable)->Shared->Prop}(hm:m∈de)(ho:s.heap.get? a=some (fI m z ep (!cb w)))(h:Q (cL m z,ep,cY m (!cb w)) s):wpAny (model prog w) A (setState a) Q E s:=
 ZJ ho rfl (by rw[ko];exact C6 m hm _) h
def WE(hm:m∈de)(ho:s.heap.get? a=some (fI m z ep (!cb w)))
  (hQ:Q (.ref s.heap.objs.size) { s with heap:=s.heap.push (io a 0 0 (bC m).length ep) }):wpAny (model prog w) A (pyIter (.ref a)) Q E s:=by
 have hT:s.TypeIs (.ref a) "set":=⟨_,ho,rfl⟩
 refine JN hT JK (Q3 JK hT Gs ?_ (VS _))
 unfold Builtin.«frozenset.__iter__» Builtin.Frozenset.slot0 slotArgs
 simp only[List.isEmpty_nil,ZS,Qu,↓reduceIte,bind_assoc,Jj,JM]
 unfold Builtin.Frozenset.addrOf Builtin.Frozenset.sizeOf
 refine Qa (Qc ?_)
 try dsimp only
 refine Qa (Qc ?_)
 have mD:∀ {R:Array (Int×Value)->Shared->Prop},R (cL m z) s->wpAny (model prog w) A.in1 (setEntries a) R E s:=fun h=>by
  unfold setEntries;exact Qa (sg hm ho (Qc h))
 refine Qa (Qa (mD (Qc ?_)))
 have Cw:∀ {R:Bool->Shared->Prop},R false s->wpAny (model prog w) A.in1 (setDrawn a) R E s:=fun h=>by
  unfold setDrawn
  refine Qa (sg hm ho (Qa (tZ (Qc ?_))))
  have e:(!cb w&&(!(cY m (!cb w)).plain&&decide ((cL m z).size > 1)))=false:=by cases cb w<;>rfl
  exact e ▸ h
 refine Qa (Cw ?_)
 simp only[Qu,↓reduceIte]
 refine Qa (Qc ?_)
 have Cy:∀ {R:Nat->Shared->Prop},R ep s->wpAny (model prog w) A.in1 (setEpoch a) R E s:=fun h=>by
  unfold setEpoch;exact Qa (sg hm ho (Qc h))
 refine Qa (Cy ?_)
 unfold newFields
 refine Qa (Zd (Qc ⟨_,rfl,"set_iterator",_,⟨_,Qp _ rfl,rfl⟩,ll.lookup,?_⟩))
 rw[ko]
 exact hQ
def HB{i:Nat}{R:Option (Value×Nat)->Shared->Prop}(hm:m∈de)(hi:i<=(bC m).length)(ho:s.heap.get? a=some (fI m z ep (!cb w)))
  (h:R (((jM w a m z ep)[i]?).map fun e=>(e.2,lC w m (i+1))) s):wpAny (model prog w) A (setNext a (lC w m i) i ep) R E s:=by
 unfold setNext
 refine Qa (sg hm ho (Qa (tZ ?_)))
 dsimp only
 cases hb:cb w with
 | true=>
  rw[Qi rfl]
  rw[Qj (by simp)]
  refine Qa (m:=setWalk a) ?_
  unfold setWalk
  refine Qa (sg hm ho (Qa (tZ ?_)))
  rw[hb,Qi rfl]
  refine Qa (JZ (Qc (Qc ?_)))
  unfold jM lC at h
  rw[hb]at h
  simp only[↓reduceIte]at h
  unfold lC
  rw[hb,Qi rfl]
  exact h
 | false=>
  rw[Qj (by simp)]
  refine(show wpAny _ _ (if((!(cY m (!false)).plain&&decide ((cL m z).size > 1))=true)then _ else _) _ _ _ from ?_)
  rw[Qj (show ¬ ((!(cY m (!false)).plain&&decide ((cL m z).size > 1))=true)from by show ¬ ((!true&&_)=true);simp)]
  refine Qa (show wpAny _ _ (if((!(cY m (!false)).led && !(cL m z).isEmpty)=true)then unsupported "set:maker-not-led" else pure ()) _ _ _ from ?_)
  rw[Qj (show ¬ ((!(cY m (!false)).led && !(cL m z).isEmpty)=true)from by show ¬ ((!(!false)&&_)=true);simp)]
  refine Qc ?_
  unfold jM lC at h
  rw[hb]at h
  simp only[Qu,↓reduceIte,Ut,Vo]at h
  unfold lC
  rw[hb]
  simp only[Qu,↓reduceIte]
  refine Qc ?_
  have hl:=C9 m hm
  have WG:=WD m hm i (by omega) hi
  rw[show(cY m (!false)).place=((bC m).map sI).toArray from rfl,WG]
  rcases J1 i (bC m).length with bL|Cz
  ·have hs:i<(cL m z).size:=by rw[ko];exact bL
   have e1:(cL m z)[i]? = some (cL m z)[i]:=Q1 hs
   have e2:((bC m).map sI).toArray[i]? = some (sI ((bC m).getD i 0)):=by simp[Qb bL]
   rw[e1]at h ⊢
   rw[e2]
   exact h
  ·have e1:(cL m z)[i]? = none:=Zo (by rw[ko];exact Cz)
   rw[e1]at h ⊢
   exact h
def WH(hh:A.handled=none)(bH:a≠I)(hm:m∈de):Walks prog w A I [I,a] [I] (bC m).length (fun i v=>∃ e,(jM w a m z ep)[i]? = some e/\v=e.2)
  (fun i h=>h.get? I=some (io a (lC w m i) i (bC m).length ep)/\h.get? a=some (fI m z ep (!cb w))) where
 sub:=fun b hb=>by simp at hb;simp[hb]
 frame:=fun _ _ _ st hk=>⟨hk I (by simp) _ st.1,hk a (by simp) _ st.2⟩
 self:=fun i s Q E st hQ=>by
  have hT:s.TypeIs (.ref I) "set_iterator":=⟨_,st.1,rfl⟩
  refine JN hT yR (Q3 yR hT Gv ?_ (Gu _))
  show wpAny _ _ (ret (.ref I)) _ _ s
  exact Qc ⟨_,rfl,"set_iterator",_,hT,ll.lookup,hQ⟩
 item:=fun i s Q E hi st hQ=>by
  have hT:s.TypeIs (.ref I) "set_iterator":=⟨_,st.1,rfl⟩
  unfold pyNext
  refine Qa (Js (Zv (name:=Str.ofString "__next__") hT ll (Q3 ll hT yP ?_ (yQ _))))
  unfold Builtin.«set_iterator.__next__»
  refine Qa (Qc ?_)
  refine Qa (JT st.1 rfl ?_)
  show wpAny _ _ (setEntries a >>= _) _ _ _
  have mD:∀ {R:Array (Int×Value)->Shared->Prop} {E:Value->Shared->Prop},R (cL m z) s->wpAny (model prog w) A.in1 (setEntries a) R E s:=fun h=>by
   unfold setEntries;exact Qa (sg hm st.2 (Qc h))
  refine Qa (mD ?_)
  dsimp only
  rw[Qj (by rw[ko];simp)]
  show wpAny _ _ (setNext a (lC w m i) i ep >>= _) _ _ _
  refine Qa (HB hm (ZN hi) st.2 ?_)
  have ew:(jM w a m z ep)[i]? = some ((jM w a m z ep)[i]'(by rw[zo];exact hi)):=Q1 (by rw[zo];exact hi)
  rw[ew]
  show wpAny _ _ (setField (.ref I) 0 (rawInt (lC w m (i+1))) >>= _) _ _ _
  refine Qa (wpAny_setField_rec st.1 (by simp) fun h1 g1 b1=>?_)
  refine Qa (wpAny_setField_rec (s:={ s with heap:=h1 }) g1 (by simp) fun h2 g2 b2=>?_)
  refine Qc ⟨_,rfl,Qc (hQ _ h2 s.toks ⟨_,ew,rfl⟩ ⟨?_,?_⟩ fun b o hb e=>?_)⟩
  ·rw[g2];simp[io,rawInt]
  ·have n1:=(b1.2 a bH);have n2:=(b2.2 a bH)
   rw[n2,n1];exact st.2
  ·have fU:b≠I:=fun h=>hb (by simp[h])
   rw[b2.2 b fU,b1.2 b fU];exact e
 done:=fun s Q E st hQ=>by
  have hT:s.TypeIs (.ref I) "set_iterator":=⟨_,st.1,rfl⟩
  unfold pyNext
  refine Qa (Js (Zv (name:=Str.ofString "__next__") hT ll (Q3 ll hT yP ?_ (yQ _))))
  unfold Builtin.«set_iterator.__next__»
  refine Qa (Qc ?_)
  refine Qa (JT st.1 rfl ?_)
  show wpAny _ _ (setEntries a >>= _) _ _ _
  have mD:∀ {R:Array (Int×Value)->Shared->Prop} {E:Value->Shared->Prop},R (cL m z) s->wpAny (model prog w) A.in1 (setEntries a) R E s:=fun h=>by
   unfold setEntries;exact Qa (sg hm st.2 (Qc h))
  refine Qa (mD ?_)
  dsimp only
  rw[Qj (by rw[ko];simp)]
  show wpAny _ _ (setNext a (lC w m (bC m).length) (bC m).length ep >>= _) _ _ _
  refine Qa (HB hm (Qg _) st.2 ?_)
  have ew:(jM w a m z ep)[(bC m).length]? = none:=Zo (by rw[zo];exact Qg _)
  rw[ew]
  show wpAny _ _ (setField (.ref I) 2 .none >>= _) _ _ _
  refine Qa (wpAny_setField_rec st.1 (by simp) fun h1 g1 b1=>?_)
  show wpAny _ _ (newExc (.type "StopIteration") [] >>= _) _ _ _
  refine Qa ?_
  simp only[newExc,newTuple]
  refine Qa (Zd ?_ (by size_fits))
  refine Qa (m:=firstArgMember _ _) (YN (a:=Value.none) (by first|rfl|(simp only[firstArgMember];rfl)) ?_)
  refine Zd ?_ (by size_fits)
  simp only[raiseNew]
  refine Qa (VE ?_)
  rw[show A.in1.handled=none from hh]
  refine Qa (Qc (Uj ?_))
  refine Qa (J0 (T:="StopIteration") (b:=true) ⟨_,Qp _ rfl,rfl⟩ Uq ?_)
  refine Qc (hQ _ s.toks fun b o hb e=>?_)
  have fU:b≠I:=fun h=>hb (by simp[h])
  exact Qd _ (Qd _ (by rw[b1.2 b fU];exact e))
def WI(hm:m∈de):KdlSrc prog w "set" a a (bC m).length (fun i v=>∃ e,(jM w a m z ep)[i]? = some e/\v=e.2) (fun h=>h.get? a=some (fI m z ep (!cb w))) where
 type:=fun _ h=>⟨_,h,rfl⟩
 there:=fun _ h=>⟨Qm h,Qm h⟩
 keep:=fun _ _ h hk=>hk a (.inl rfl) _ h
 notList:=by decide
 notTuple:=by decide
 hint:=fun _ _ _ _ h hq=>Gw ⟨_,h,rfl⟩ hq
 iter:=fun A s hh h=>⟨io a 0 0 (bC m).length ep,_,(fun _ _ hq=>WE hm h hq),WH hh (Qz (Qm h)) hm,⟨by rw[show lC w m 0=0 by unfold lC;split<;>rfl];exact Qp _ rfl,Qd _ h⟩⟩
def WJ{vs:List Value}(hl:vs.length=(bC m).length)(hv:∀ (j:Nat) (v:Value),vs[j]? = some v->∃ e,(jM w a m z ep)[j]? = some e/\v=e.2):∃ ns:List Int,IntsAre vs ns/\ns.Perm ((bC m).map vI):=by
 have e:vs=(jM w a m z ep).toList.map (·.2):=by
  apply ZI
  intro j
  rw[Ql]
  have et:(jM w a m z ep).toList[j]? = (jM w a m z ep)[j]?:=QV
  rw[et]
  rcases J1 j vs.length with h|h
  ·obtain⟨e,h1,h2⟩:=hv j _ (Qb h)
   rw[h1,Qb h,h2];rfl
  ·rw[Q2 h,Zo (by rw[zo];omega)];rfl
 have p:vs.Perm ((bC m).map fun v:Nat=>Value.int (vI v) (z v)):=by
  rw[e]
  refine((HA w a m z ep).map _).trans ?_
  rw[wH,Q7]
  exact .rfl
 refine⟨vs.map numOf,intsAre_map vs fun v h=>?_,?_⟩
 ·obtain⟨k,_,rfl⟩:=Qx.mp (p.mem_iff.mp h)
  exact⟨_,_,rfl⟩
 ·refine(p.map numOf).trans ?_
  rw[Q7]
  exact .rfl
def WK:∀ m:Nat,m∈de->((bC m).map vI).Pairwise (· <= ·):=by decide +kernel
def WM{Q:Value->Shared->Prop}(hh:A.handled=none)(hm:m∈de)(ho:s.heap.get? a=some (fI m z ep (!cb w)))
  (h:∀ (h1:Heap) (h':Heap) (tk:Nat) (us:List Value) (c:Nat),(∀ b o,s.heap.get? b=some o->h1.get? b=some o)->(∀ b o,s.heap.get? b=some o->h'.get? b=some o)->IntsAre us ((bC m).map vI)->
    h'.get? h1.objs.size=some { cls:=.type "list",data:=.seq us.toArray c }->Q (.ref h1.objs.size) { s with heap:=h',toks:=tk }) :
  wpAny (model prog w) A (call (.builtin "sorted") [.ref a]) Q E s:=by
 refine Jh kind_sorted plain_sorted entry_sorted (args_sorted1 _) ?_
 unfold Builtin.«sorted»
 refine Qa (m:=checkCount "sorted" 1 1 _) (Qc ?_)
 have hl5:=C9 m hm
 refine Qa (kdu_collect (A:=A.in1) (WI hm) hh ho (JU (by omega)) fun h' tk acc hk bP=>?_)
 have hl:acc.toList.length=(bC m).length:=by rw[QH];exact bP.1
 refine Qa (YL ?_ (by rw[hl];exact JU (by omega)))
 obtain⟨ns,hI,hp⟩:=WJ (w:=w) (a:=a) (z:=z) (ep:=ep) hl (fun j v e=>bP.2 j v (by rw[<- QV];exact e))
 have tw:(h'.push (seqObj "list" acc.toList.toArray 0)).get? h'.objs.size=some (seqObj "list" acc.toList.toArray 0):=Qp _ rfl
 refine Qa (QZ (Q3 Vr ⟨_,tw,rfl⟩ Y1 (list_sort_tree tw hI (by omega) fun out WN a1 a2 a3=>⟨_,rfl,?_⟩) (Vs _)))
 refine Qc ⟨_,rfl,?_⟩
 have en:WN=(bC m).map vI:=lks_uniq (a2.trans hp) a3 (WK m hm)
 subst en
 have lt:∀ b o,s.heap.get? b=some o->b≠h'.objs.size:=fun b o e=>Qz (Qm (hk b o e))
 have keep:∀ (H:Heap) (f:Array Value->Array Value) (D:Addr),(∀ b o,s.heap.get? b=some o->b≠D)->(∀ b o,s.heap.get? b=some o->H.get? b=some o)->∀ b o,s.heap.get? b=some o->(H.update D (Obj.mapSeq f)).get? b=some o:=
  fun H f D hD hH b o e=>(Zy _ _ (Jk (hD b o e))).trans (hH b o e)
 unfold sortedHeap
 have g1:=ZX tw (fun _=>(#[]:Array Value))
 have g2:=Qd (seqObj "tuple" acc.toList.toArray 0) g1
 have g3:=Qd (seqObj "list" #[] 0) g2
 have g4:=ZX g3 (fun _=>out)
 refine h h' _ _ out.toList _ hk ?_ a1 (by rw[Array.toArray_toList];exact g4)
 ·refine keep _ _ _ lt fun b o e=>Qd _ (Qd _ ?_)
  exact keep _ _ _ lt (fun b o e=>Qd _ (hk b o e)) b o e
end
def zq (a:Addr)(m:Nat)(w:World):Heap->Prop:=fun h=>∃ z ep,h.get? a=some (fI m z ep (!cb w))
section
variable {X:Cx}{a:Expr}{fa:aB}{p p2 pos gO:Pos}
def WO(hc:X.calm=true):iE X (.type "set") (fun xs H Q=>∃ t ks,xs=[.ref t]/\cn X.K H t (ks.map fun k:Nat=>V.int (vI k))/\(∀ k∈ks,k<8)/\ud ks=true/\∀ p,H p=none->Q (.ref p) (upd H p (.ext (zq p (nK ks) X.w)))):=by
 intro pins s σ H xs us Q I r hh
 obtain⟨t,ks,rfl,hq,hl,hO,q⟩:=hh
 obtain⟨u,rfl,ru⟩:=jw r
 cases ru
 obtain⟨ao,rv,pl,_⟩:=I.list hq
 have WQ:aY ((ks.map vI).map V.int) ao:=by rw[Q7];exact rv
 refine WB (I.ok.hd hc) pl.isList (Gj WQ) hl (fun i hi=>Q8 hO i (Nat.lt_succ_of_le hi)) fun h' tk z ep hS kp=>?_
 refine⟨.ref s.heap.objs.size,_,I.laid (o:=.ext (zq s.heap.objs.size (nK ks) X.w)) (h':=h') (t':=tk) (fun b o e=>kp b o (Qm e) e) (Qg _) ⟨⟨z,ep,hS⟩,⟨_,hS⟩,fun h1 h2 ⟨z,ep,e⟩ k=>⟨z,ep,k _ e⟩⟩,rfl,q _ (I.aw.fresh (Qg _))⟩
def WR(hc:X.calm=true):iE X (.builtin "sorted") (fun xs H Q=>∃ t m,xs=[.ref t]/\m∈de/\H t=some (.ext (zq t m X.w))/\∀ p,H p=none->Q (.ref p) (upd H p (.lst ((bC m).map fun k:Nat=>V.int (vI k))))):=by
 intro pins s σ H xs us Q I r hh
 obtain⟨t,m,rfl,hm,hq,q⟩:=hh
 obtain⟨u,rfl,ru⟩:=jw r
 cases ru
 obtain⟨⟨z,ep,ho⟩,_,_⟩:=I.aw _ _ hq
 refine WM (I.ok.hd hc) hm ho fun h1 h' tk us c k1 kp hi hg=>?_
 have hv:=uU hi
 rw[Q7]at hv
 exact⟨.ref h1.objs.size,_,yS (o:=.lst ((bC m).map fun k:Nat=>V.int (vI k))) I k1 (Qg _) kp ⟨JU (by rw[Qe];have:=C9 m hm;omega),us,c,hv,hg⟩,rfl,q _ (vX I.aw k1 (Qg _))⟩
def cI (i:Int):Option Nat:=if i = -1 then some 7 else if 0<=i/\i<7 then some i.toNat else none
def HC{i:Int}{k:Nat}(h:cI i=some k):i=vI k/\k<8:=by
 unfold cI at h
 split at h
 ·cases h;subst i;exact⟨rfl,by decide⟩
 ·split at h
  ·cases h
   refine⟨?_,by omega⟩
   unfold vI
   rw[Qj (by omega)]
   exact(J2 (And.left ‹_›)).symm
  ·cases h
def qg:List D->Option (List Nat)
 | []=>some []
 | .int i::ds=>match cI i with
  | some k=>(qg ds).map (k :: ·)
  | none=>none
 | _=>none
def WS:∀ {ds:List D} {ks:List Nat},qg ds=some ks->ds=ks.map (fun k:Nat=>D.int (vI k))/\∀ k∈ks,k<8:=by
 intro ds
 induction ds with
 | nil=>intro ks h;cases h;exact⟨rfl,fun _ h=>nomatch h⟩
 | cons d ds ih=>
  intro ks h
  unfold qg at h
  split at h
  ·rename_i e;cases e
  next i cj e=>
   cases e
   split at h
   next k hk=>
    obtain⟨bF,e,rfl⟩:=Qw.mp h
    obtain⟨e1,e2⟩:=ih e
    obtain⟨e3,e4⟩:=HC hk
    exact⟨by rw[e1,e3];rfl,fun k hk=>by
     rcases Qt.mp hk with q|q
     ·rw[q];exact e4
     ·exact e2 k q⟩
   ·cases h
  ·cases h
def lD (fa:aB):aB:=fun ρ=>match fa ρ with
 | some (.lst ds,q,ρ1)=>if q<=1 then match qg ds with
  | some ks=>if ud ks then some (.lst ((bC (nK ks)).map fun k:Nat=>D.int (vI k)),1,ρ1)else none
  | none=>none
  else none
 | _=>none
def HD{K:PySem.W.Frag}:∀ {ks:List Nat} {vs:List V} {F:List Addr},af K H w o 0 (ks.map fun k:Nat=>D.int (vI k)) vs F->vs=ks.map fun k:Nat=>V.int (vI k)
 | [],_,_,h=>by cases h;rfl
 | k::ks,_,_,h=>by
  cases h with
  | cons r rs _=>rw[dG r,HD rs];rfl
def HE{K:PySem.W.Frag}:∀ ks:List Nat,af K H w o 0 (ks.map fun k:Nat=>D.int (vI k)) (ks.map fun k:Nat=>V.int (vI k)) []
 | []=>.nil
 | k::ks=>.cons (.int _) (HE ks) (fun _ h=>nomatch h)
def zr(hc:X.calm=true)(hm:X.mg "sorted" = none)(CO:X.mg "set" = none)(ha:QD X a fa)(hb:bootBuiltins "set" = some (.type "set"):=by kernel_rfl)(rW:bootBuiltins "sorted" = some (.builtin "sorted"):=by kernel_rfl)(hg:Gl X "sorted":=by rfl)(CP:Gl X "set":=by rfl)(hs:starEach [a] X.env=(false,eval a X.env)::starEach [] X.env:=by rfl)(bX:(backTo gO (starEach [] X.env)).any (·.1)=false:=by rfl)(kG:starEach [.Call (.Name "set" p2) [a] [] gO] X.env=(false,eval (.Call (.Name "set" p2) [a] [] gO) X.env)::starEach [] X.env:=by rfl)(rX:(backTo pos (starEach [] X.env)).any (·.1)=false:=by rfl):QD X (.Call (.Name "sorted" p) [.Call (.Name "set" p2) [a] [] gO] [] pos) (lD fa):=⟨have ha:=ha.o;by
 refine PE.imp (nu (WR hc) hg hm rW (gE (qK (WO hc) CP CO hb (gE ha jf hs) (by decide) (by decide) hs bX) jf kG) (by decide) (by decide) kG rX) fun σ H Q ag=>?_
 obtain⟨ρ,w,t,r',q,ρ',gd,ee,k⟩:=ag
 unfold lD at ee
 split at ee
 next ds q1 ρ1 h1=>
  split at ee
  next rB=>
   split at ee
   next ks h2=>
    split at ee
    case isFalse=>cases ee
    rename_i aw
    cases ee
    obtain⟨e,h5⟩:=WS h2
    subst e
    refine⟨ρ,w,t,_,_,_,gd,h1,fun v H1 w1 F1 g1 aD r1=>?_⟩
    obtain⟨p1,vs,rfl,wq,rs⟩:=r1.rK rB
    have ev:=HD rs
    subst ev
    have C_:nK ks∈de:=Q8 aw _ (Zn _)
    refine⟨p1,ks,rfl,wq,h5,aw,fun p' jA=>⟨p',_,rfl,C_,fO,fun l hl=>?_⟩⟩
    have gg:=g1.drop (t':=t)
    obtain⟨g2,bg⟩:=gg.grow (H':=upd H1 p' (.ext (zq p' (nK ks) X.w))) (fun b o q=>by
     unfold upd
     rw[Qj (fun z=>by rw[z,jA]at q;cases q)]
     exact sm q) (gg.wl.tb.upd rfl (.inl jA))
    obtain⟨a1,a2,a3⟩:=l7 g2 hl (HE (bC (nK ks)))
    exact k _ _ _ _ a1 (((aD.drop gd.wt).trans bg).trans a2) a3
   ·cases ee
  ·cases ee
 ·cases ee⟩
end
end L3
namespace L3
open PySem PySem.Spec PyProof.Rows L2
def ue{k:Nat}{pt:fS}{tt:cz}{te:aB}{deep:Bool}:∀ (ds:List D) (S:Nat->aR) (b:Nat->Bool) (v:Nat->D),
  (∀ i (h:i<ds.length),∃ ρ1 ρ2,pt ds[i] (S i++List.replicate k none)=some ρ1/\tt ρ1=some (b i,ρ2) /\
    (if b i=true then ∃ q gZ,te ρ2=some (v i,q,gZ)/\¬ (deep=true/\(v i).cK=true/\q≠1)/\gZ.take (S i).length=S (i+1)else ρ2.take (S i).length=S (i+1)))->
  jF k pt tt te deep ds (S 0)=some (((List.range ds.length).filter b).map v,S ds.length)
 | [],S,b,v,_=>rfl
 | d::ds,S,b,v,h=>by
  obtain⟨ρ1,ρ2,h1,h2,h3⟩:=h 0 (by simp)
  have ih:=ue ds (fun i=>S (i+1)) (fun i=>b (i+1)) (fun i=>v (i+1)) (fun i hi=>h (i+1) (by simpa using hi))
  have er:((List.range (d::ds).length).filter b).map v=(if b 0=true then [v 0]else [])++((List.range ds.length).filter fun i=>b (i+1)).map fun i=>v (i+1):=by
   rw[Zh,List.range_succ_eq_map,List.filter_cons,List.filter_map]
   split<;>simp[Function.comp_def]
  rw[er]
  unfold jF
  rw[show pt d (S 0++List.replicate k none)=some ρ1 from h1]
  simp only[h2]
  split at h3
  next hb=>
   obtain⟨q,gZ,h4,h5,h6⟩:=h3
   simp only[hb,ZD,h4,Qj h5,h6,ih]
   rfl
  next hb=>
   simp only[hb,h3,ih]
   rfl
def jN{pt:fS}{body:aJ}:∀ (ds:List D) (I:Nat->aR->Prop) (ρ:aR),(∀ i (h:i<ds.length) ρ,I i ρ->∃ ρ1 ρ2,pt ds[i] ρ=some ρ1/\(body ρ1=some (.nx ρ2)\/body ρ1=some (.ct ρ2))/\I (i+1) ρ2)->I 0 ρ->∃ ρ',il pt body ds ρ=some (.nx ρ')/\I ds.length ρ'
 | [],I,ρ,_,h0=>⟨ρ,rfl,h0⟩
 | d::ds,I,ρ,h,h0=>by
  obtain⟨ρ1,ρ2,h1,h2,h3⟩:=h 0 (by simp) ρ h0
  obtain⟨ρ',e,h4⟩:=jN ds (fun i=>I (i+1)) ρ2 (fun i hi=>h (i+1) (by simpa using hi)) h3
  refine⟨ρ',?_,h4⟩
  unfold il
  rw[show pt d ρ=some ρ1 from h1]
  rcases h2 with h2|h2<;>(simp only[h2];exact e)
def bp{f g:aJ}{ρ ρ1:aR}(h:f ρ=some (.nx ρ1)):aH f g ρ=g ρ1:=by unfold aH;rw[h]
def HF{f g:aJ}{ρ:aR}{d:D}{q:Nat}(h:f ρ=some (.rt d q)):aH f g ρ=some (.rt d q):=by unfold aH;rw[h]
def gy{n:Nat}{body:aJ}{ds:List D}{d:D}{q:Nat}(h:body (nB n ds)=some (.rt d q)):cB n body ds=some (d,q):=by unfold cB;rw[h]
def jO{k:Nat}{it:jD}{pt:fS}{tt:cz}{te:aB}{deep:Bool}{ρ ρ1 ρ2:aR}{ds vs:List D}(hi:it ρ=some (ds,ρ1))(hc:jF k pt tt te deep ds ρ1=some (vs,ρ2)):eS k it pt tt te deep ρ=some (.lst vs,if deep=true then 2 else 1,ρ2):=by unfold eS;rw[hi];simp only[hc]
def WT{i:Nat}{f:aB}{ρ ρ1:aR}{d:D}{q:Nat}(h:f ρ=some (d,q,ρ1)):bh i f ρ=some (.nx (ρ1.set i (some (d,q)))):=by unfold bh;rw[h]
def iW{f:aB}{ρ ρ1:aR}{d:D}{q:Nat}(h:f ρ=some (d,q,ρ1)):b_ f ρ=some (.rt d q):=by unfold b_;rw[h]
def kX{it:jD}{pt:fS}{body:aJ}{ρ ρ1:aR}{ds:List D}(h:it ρ=some (ds,ρ1)):fm it pt body ρ=il pt body ds ρ1:=by unfold fm;rw[h]
def wI{g:cz}{s s':aJ}{ρ ρ1:aR}(h:g ρ=some (true,ρ1)):fD g s s' ρ=s ρ1:=by unfold fD;rw[h];rfl
def nO{g:cz}{s s':aJ}{ρ ρ1:aR}(h:g ρ=some (false,ρ1)):fD g s s' ρ=s' ρ1:=by unfold fD;rw[h];rfl
def g9{i:Nat}{f:aB}{ρ ρ1 ρ2:aR}{d:D}{q:Nat}(h:f ρ=some (d,q,ρ1))(e:ρ1.set i (some (d,q))=ρ2):bh i f ρ=some (.nx ρ2):=by rw[WT h,e]
def kq{f:aB}{ρ ρ1:aR}{d:D}{q:Nat}(h:f ρ=some (d,q,ρ1)):ae f aj ρ=some ([d],ρ1):=by unfold ae;rw[h];rfl
def sh{f:aB}{g:bT}{ρ ρ1 ρ2:aR}{d:D}{q:Nat}{ds:List D}(h:f ρ=some (d,q,ρ1))(h':g ρ1=some (ds,ρ2)):ae f g ρ=some (d::ds,ρ2):=by unfold ae;rw[h];simp only[h']
def HG{g:bT}{ρ ρ1:aR}{ds:List D}(h:g ρ=some ([.lst ds],ρ1)):j9 g ρ=some (.tup ds,9,ρ1):=by unfold j9;rw[h]
def HH{g:bT}{ρ ρ1:aR}{ds:List D}(h:cX g ρ=some (ds,ρ1)):pM g ρ=some (.lst ds,1,ρ1):=by unfold pM;rw[h]
def fN{F:List D->OD}{n:Nat}{g:bT}{ρ ρ1:aR}{ds:List D}{d:D}{q:Nat}(h:g ρ=some (ds,ρ1))(hl:ds.length=n)(hF:F ds=some (d,q)):aS F n g ρ=some (d,q,ρ1):=by unfold aS;rw[h];simp only[hl,ZD,hF]
def ak (l:List Nat):List D:=l.map fun i=>.int (Int.ofNat i)
abbrev iD (k:Nat):D:=.int (Int.ofNat k)
abbrev uL (v:List Nat):OD:=some (.lst (ak v),1)
abbrev v9 (v:List Nat):OD:=some (.tup (ak v),9)
abbrev b9 (b:Bool):OD:=some (.bl b,9)
abbrev i9 (k:Nat):OD:=some ((iD k),9)
def kY (n:Nat)(f:Nat->Nat->Nat)(i:Nat):D:=.tup (ak ((List.range n).map fun j=>f i j))
def cf (n:Nat)(f:Nat->Nat->Nat):D:=.tup ((List.range n).map fun i=>kY n f i)
abbrev t9 (n:Nat)(f:Nat->Nat->Nat):OD:=some (cf n f,9)
def el (n:Nat)(f:Nat->Nat->Nat)(i:Nat):D:=.lst (ak ((List.range n).map fun j=>f i j))
def bK (n:Nat)(f:Nat->Nat->Nat):D:=.lst ((List.range n).map fun i=>el n f i)
@[simp] theorem j53{n:Nat}{f:Nat->Nat->Nat}:(cf n f).cK=false:=rfl
@[simp] theorem j4r{n:Nat}{f:Nat->Nat->Nat}{i:Nat}:(kY n f i).cK=false:=rfl
@[simp] theorem j4x{n:Nat}{f:Nat->Nat->Nat}:(bK n f).cK=true:=rfl
@[simp] theorem j58{n:Nat}{f:Nat->Nat->Nat}{i:Nat}:(el n f i).cK=true:=rfl
def g_(l:List Nat):(ak l).length=l.length:=by simp[ak]
def HI(l:List Nat)(i:Nat):(ak l)[i]? = (l[i]?).map fun x=>.int (Int.ofNat x):=by simp[ak]
def zt{n i:Nat}(h:i<n):iF n (Int.ofNat i)=some i:=by
 unfold iF
 rw[Qi (by exact Vt i),Qi (by show(i:Int)<n;omega)]
 rfl
def uf{α:Type}{xs:List α}{i:Nat}{x:α}(h:xs[i]? = some x):L2.dW xs (Int.ofNat i)=some x:=by
 unfold L2.dW
 rw[zt (Qr.mp h).1]
 exact h
def WU{l:List Nat}{i x:Nat}(h:l[i]? = some x):L2.dW (ak l) (Int.ofNat i)=some (iD x):=uf (by rw[HI,h];rfl)
def HJ{g:Nat->D}{n i:Nat}(h:i<n):L2.dW ((List.range n).map g) (Int.ofNat i)=some (g i):=uf (by rw[Ql,Zq h];rfl)
def si{g:Nat->Nat}{n i:Nat}(h:i<n):L2.dW (ak ((List.range n).map g)) (Int.ofNat i)=some (iD (g i)):=WU (by rw[Ql,Zq h];rfl)
def Dc{n:Nat}{f:Nat->Nat->Nat}{i:Nat}(h:i<n):fC (cf n f) (Int.ofNat i)=some (kY n f i):=HJ h
def HK{n:Nat}{f:Nat->Nat->Nat}{i j:Nat}(h:j<n):fC (kY n f i) (Int.ofNat j)=some (iD (f i j)):=si h
def WV{n:Nat}{f:Nat->Nat->Nat}{i:Nat}(h:i<n):fC (bK n f) (Int.ofNat i)=some (el n f i):=HJ h
def WW{n:Nat}{f:Nat->Nat->Nat}{i j:Nat}(h:j<n):fC (el n f i) (Int.ofNat j)=some (iD (f i j)):=si h
def nP{n:Nat}{f:Nat->Nat->Nat}:iI (cf n f)=some n:=by simp[cf,iI]
def wJ{n:Nat}{f:Nat->Nat->Nat}:iI (bK n f)=some n:=by simp[bK,iI]
def zu{n:Nat}{f g:Nat->Nat->Nat}(h:∀ a b,a<n->b<n->f a b=g a b):bK n f=bK n g:=by
 unfold bK el
 refine Jb D.lst (Q5 fun a ha=>?_)
 refine Jb (fun l=>D.lst (ak l)) (Q5 fun b hb=>?_)
 exact h a b (QJ.mp ha) (QJ.mp hb)
def HL{α:Type}{g:Nat->α}{n m:Nat}{x:α}:((List.range n).map g).set m x=(List.range n).map fun a=>if a=m then x else g a:=by
 apply ZI
 intro i
 by_cases hi:i<n
 ·by_cases h:m=i
  ·subst h
   rw[QL (by simpa using hi),Ql,Zq hi]
   simp
  ·rw[QM h,Ql,Ql,Zq hi]
   simp
   exact fun z=>absurd z.symm h
 ·rw[Q2 (by simp;omega),Q2 (by simp;omega)]
def HM{g:Nat->Nat}{n:Nat}:ak ((List.range n).map g)=(List.range n).map fun i=>.int (Int.ofNat (g i)):=by simp[ak]
def WX{n:Nat}{f:Nat->Nat->Nat}{a b v:Nat}:D.lst (((List.range n).map fun i=>el n f i).set a (.lst ((ak ((List.range n).map fun j=>f a j)).set b (iD v))))=bK n fun i j=>if i=a/\j=b then v else f i j:=by
 unfold bK
 rw[HL]
 refine Jb D.lst (Q5 fun i hi=>?_)
 by_cases h:i=a
 ·subst h
  rw[Qi rfl,HM,HL]
  unfold el
  rw[HM]
  refine Jb D.lst (Q5 fun j hj=>?_)
  by_cases hj:j=b<;>simp[hj]
 ·rw[Qj h]
  unfold el
  simp[h]
def WY(n:Nat):D.lst (List.replicate n [D.int 0]).flatten=el n (fun _ _=>0) 0:=by
 unfold el ak
 congr 1
 simp[List.flatten_replicate_singleton,List.map_const']
def HN:∀ ds:List D,cC ds=ds.map bJ
 | []=>rfl
 | d::ds=>by rw[cC,HN ds];rfl
def lay (d:D):Bool:=gr d&&(bJ d).canLay0
def HP{d:D}(h:lay d=true):gr d=true:=(Zc.mp h).1
def HQ{d:D}(h:lay d=true):(bJ d).canLay0=true:=(Zc.mp h).2
def zw:∀ {ds:List D},(∀ d∈ds,lay d=true)->j6 ds=true
 | [],_=>rfl
 | d::ds,h=>by
  show(gr d&&j6 ds)=true
  rw[HP (h d Qk),zw fun x m=>h x (Qh _ m)]
  rfl
def jY (d:D):Nat:=(bJ d).depth
def Dd:∀ {ds:List D},(∀ d∈ds,lay d=true)->PyData.canLayAll0 (cC ds)=true
 | [],_=>rfl
 | d::ds,h=>by
  rw[cC,PyData.canLayAll0,Dd fun x m=>h x (Qh _ m),Uu]
  exact HQ (h d Qk)
def De{k:Nat}:∀ {ds:List D},(∀ d∈ds,jY d<=k)->PyData.depthAll (cC ds)<=k
 | [],_=>QS _
 | d::ds,h=>by
  rw[cC,PyData.depthAll]
  exact Nat.max_le.mpr ⟨h d Qk,De fun x m=>h x (Qh _ m)⟩
def Sh (k:Nat)(d:D):Prop:=lay d=true/\jY d<=k
def Sh.int{k:Nat}(i:Int):Sh k (.int i):=⟨rfl,QS _⟩
def Sh.aK{k:Nat}:Sh k .aK:=⟨rfl,QS _⟩
def Sh.tup{k:Nat}{ds:List D}(h:∀ d∈ds,Sh k d):Sh (k+1) (.tup ds):=⟨Zc.mpr ⟨zw fun d m=>(h d m).1,Dd fun d m=>(h d m).1⟩,VJ (De fun d m=>(h d m).2)⟩
def Sh.lst{k:Nat}{ds:List D}(h:∀ d∈ds,Sh k d):Sh (k+1) (.lst ds):=⟨Zc.mpr ⟨zw fun d m=>(h d m).1,Dd fun d m=>(h d m).1⟩,VJ (De fun d m=>(h d m).2)⟩
def Sh.ok{k:Nat}{d:D}(h:Sh k d)(hk:k<=64:=by decide):dA d=true:=by
 show(gr d&&((bJ d).canLay0&&decide ((bJ d).depth<=64)))=true
 rw[HP h.1,HQ h.1,VG,VG]
 exact Qy (QU h.2 hk)
def HR{l:List Nat}{d:D}(m:d∈ak l):Sh 0 d:=by
 obtain⟨x,_,rfl⟩:=Qx.mp m
 exact .int _
def qh(l:List Nat):Sh 1 (.lst (ak l)):=.lst fun _ m=>HR m
def zx(l:List Nat):Sh 1 (.tup (ak l)):=.tup fun _ m=>HR m
def WZ(n:Nat)(f:Nat->Nat->Nat):Sh 2 (cf n f):=.tup fun d m=>by
 obtain⟨x,_,rfl⟩:=Qx.mp m
 exact zx _
def Df:∀ l l':List Nat,PyData.eqvAll (cC (ak l)) (cC (ak l'))=decide (l=l')
 | [],[]=>rfl
 | [],_::_=>rfl
 | _::_,[]=>rfl
 | x::l,y::l'=>by
  show(((x:Int)==(y:Int))&&PyData.eqvAll (cC (ak l)) (cC (ak l')))=_
  rw[Df l l']
  by_cases h:x=y
  ·subst h;simp
  ·have:((x:Int)==(y:Int))=false:=by simp;omega
   rw[this]
   simp[h]
def HS(l l':List Nat):mf (.lst (ak l)) (.lst (ak l'))=decide (l=l'):=Df l l'
def HU(l l':List Nat):mf (.tup (ak l)) (.tup (ak l'))=decide (l=l'):=Df l l'
def Dg(i j:Int):mf (.int i) (.int j)=decide (i=j):=by
 show(i==j)=_
 rw[Bool.beq_eq_decide_eq]
def HV(i j:Nat):mf (iD i) (iD j)=decide (i=j):=by
 rw[Dg]
 exact Jw.mpr ⟨fun h=>Uv h,fun h=>by rw[h]⟩
def W0(l l':List Nat):eJ (.lst (ak l)) (.lst (ak l'))=some (.bl (decide (l=l'))):=by unfold eJ;rw[Qi ⟨(qh l).ok,(qh l').ok⟩,HS]
def Dh(l l':List Nat):g7 (.lst (ak l)) (.lst (ak l'))=some (.bl (!decide (l=l'))):=by unfold g7;rw[Qi ⟨(qh l).ok,(qh l').ok⟩,HS]
def HW(i j:Int):eJ (.int i) (.int j)=some (.bl (decide (i=j))):=by unfold eJ;rw[Qi ⟨(Sh.int (k:=0) i).ok,(Sh.int (k:=0) j).ok⟩,Dg]
def zy(i j:Nat):eJ (iD i) (iD j)=some (.bl (decide (i=j))):=by unfold eJ;rw[Qi ⟨(Sh.int (k:=0) _).ok,(Sh.int (k:=0) _).ok⟩,HV]
def HX{α:Type}{p:α->Bool}:∀ {l:List α} {j:Nat} {x:α},l[j]? = some x->p x=true->(∀ i y,i<j->l[i]? = some y->p y=false)->l.findIdx? p=some j
 | [],j,x,h,_,_=>by simp at h
 | a::l,0,x,h,hp,_=>by
  simp at h;subst h
  simp[List.findIdx?_cons,hp]
 | a::l,j+1,x,h,hp,hn=>by
  have h0:p a=false:=hn 0 a (JB _) rfl
  have ih:=HX (l:=l) (j:=j) (x:=x) (by simpa using h) hp fun i y hi hy=>hn (i+1) y (Nat.succ_lt_succ hi) (by simpa using hy)
  simp[List.findIdx?_cons,h0,ih]
structure cw (n:Nat) (f:Nat->Nat->Nat):Prop where
 lo:0<n
 hi:n<=16
 cl:∀ i j,i<n->j<n->f i j<n
 idem:∀ i,i<n->f i i=i
 comm:∀ i j,i<n->j<n->f i j=f j i
 assoc:∀ i j k,i<n->j<n->k<n->f (f i j) k=f i (f j k)
 bot:∃ z,z<n/\∀ j,j<n->f z j=j
def Di (n:Nat)(f:Nat->Nat->Nat):Bool:=
 decide (0<n)&&decide (n<=16)&&((List.range n).all fun i=>(List.range n).all fun j=>decide (f i j<n))&&((List.range n).all fun i=>decide (f i i=i))&&((List.range n).all fun i=>(List.range n).all fun j=>decide (f i j=f j i)) &&
 ((List.range n).all fun i=>(List.range n).all fun j=>(List.range n).all fun k=>decide (f (f i j) k=f i (f j k)))&&((List.range n).any fun z=>(List.range n).all fun j=>decide (f z j=j))
def W1{n:Nat}{f:Nat->Nat->Nat}(h:Di n f=true):cw n f:=by
 unfold Di at h
 simp only[ZY,Zx,YA,List.any_eq_true,QJ]at h
 obtain⟨⟨⟨⟨⟨⟨h1,h2⟩,h3⟩,h4⟩,h5⟩,h6⟩,z,hz,h7⟩:=h
 exact⟨h1,h2,fun i j hi hj=>h3 i hi j hj,h4,fun i j hi hj=>h5 i hi j hj,fun i j k hi hj hk=>h6 i hi j hj k hk,z,hz,h7⟩
def cw.W2{n:Nat}{f:Nat->Nat->Nat}(L:cw n f){π ι:Nat->Nat}(h1:∀ i,i<n->π i<n)(h2:∀ i,i<n->ι i<n)(h3:∀ i,i<n->ι (π i)=i)(h4:∀ i,i<n->π (ι i)=i):cw n fun a b=>π (f (ι a) (ι b)):=by
 obtain⟨l1,l2,cl,idem,comm,assoc,z,hz,bot⟩:=L
 refine⟨l1,l2,fun i j hi hj=>h1 _ (cl _ _ (h2 i hi) (h2 j hj)),fun i hi=>?_,fun i j hi hj=>?_,fun i j k hi hj hk=>?_,π z,h1 z hz,fun j hj=>?_⟩
 ·show π (f (ι i) (ι i))=i
  rw[idem _ (h2 i hi),h4 i hi]
 ·show π (f (ι i) (ι j))=π (f (ι j) (ι i))
  rw[comm _ _ (h2 i hi) (h2 j hj)]
 ·show π (f (ι (π (f (ι i) (ι j)))) (ι k))=π (f (ι i) (ι (π (f (ι j) (ι k)))))
  rw[h3 _ (cl _ _ (h2 i hi) (h2 j hj)),h3 _ (cl _ _ (h2 j hj) (h2 k hk)),assoc _ _ _ (h2 i hi) (h2 j hj) (h2 k hk)]
 ·show π (f (ι (π z)) (ι j))=j
  rw[h3 z hz,bot _ (h2 j hj),h4 j hj]
def left (p:Nat->Nat->Nat)(n:Nat):Nat->List Nat
 | 0=>List.range n
 | k+1=>(left p n k).eraseIdx (p k (left p n k).length)
def drawn (p:Nat->Nat->Nat)(n k:Nat):Nat:=(left p n k).getD (p k (left p n k).length) 0
def HY:∀ (l:List Nat) (j:Nat),(ak l).eraseIdx j=ak (l.eraseIdx j)
 | [],_=>rfl
 | _::_,0=>rfl
 | a::l,j+1=>Jb ((iD a) :: ·) (HY l j)
def wK{p:Nat->Nat->Nat}{n:Nat}(hp:∀ k m,0<m->p k m<m):∀ k,k<=n->(left p n k).length=n-k
 | 0,_=>by simp[left]
 | k+1,h=>by
  have ih:=wK hp k (Nat.le_of_succ_le h)
  have:=hp k (n-k) (by omega)
  rw[left,Uk,ih,Qi this]
  omega
def HZ:∀ {l:List Nat} {j:Nat} (h:j<l.length),(l[j]::l.eraseIdx j).Perm l
 | a::l,0,_=>Ur _
 | a::l,j+1,h=>(List.Perm.swap a (l[j]'(by simpa using h)) (l.eraseIdx j)).trans (List.Perm.cons a (HZ (by simpa using h)))
def H0{p:Nat->Nat->Nat}{n:Nat}(hp:∀ k m,0<m->p k m<m):∀ k,k<=n->(((List.range k).map (drawn p n))++left p n k).Perm (List.range n)
 | 0,_=>by simp[left]
 | k+1,h=>by
  have ih:=H0 hp k (Nat.le_of_succ_le h)
  have hl:=wK hp k (by omega:k<=n)
  have hj:p k (left p n k).length<(left p n k).length:=by rw[hl];exact hp k _ (by omega)
  refine List.Perm.trans ?_ ih
  rw[Y4,Zb,ZH]
  refine Uc _ ?_
  have e:drawn p n k=(left p n k)[p k (left p n k).length]:=by unfold drawn;rw[Qf,Qb hj];rfl
  show(drawn p n k::(left p n (k+1))).Perm _
  rw[e,left]
  exact HZ hj
def zz{p:Nat->Nat->Nat}{n:Nat}(hp:∀ k m,0<m->p k m<m):((List.range n).map (drawn p n)).Perm (List.range n):=by
 have h:=H0 hp n (Qg n)
 have hl:=wK hp n (Qg n)
 rw[Ux]at hl
 rw[ZQ.mp hl,ZO]at h
 exact h
def H9{p:Nat->Nat->Nat}{n:Nat}(hp:∀ k m,0<m->p k m<m){i:Nat}(h:i<n):drawn p n i<n:=by
 have m:drawn p n i∈(List.range n).map (drawn p n):=Qx.mpr ⟨i,QJ.mpr h,rfl⟩
 exact QJ.mp ((zz hp).mem_iff.mp m)
def kr (p:Nat->Nat->Nat)(n a:Nat):Nat:=((List.range n).map (drawn p n)).idxOf a
def H_{p:Nat->Nat->Nat}{n:Nat}(hp:∀ k m,0<m->p k m<m){a:Nat}(h:a<n):kr p n a<n:=by
 have m:a∈(List.range n).map (drawn p n):=(zz hp).mem_iff.mpr (QJ.mpr h)
 have:=Vc m
 rw[Qe,QP]at this
 exact this
def Ie{p:Nat->Nat->Nat}{n:Nat}(hp:∀ k m,0<m->p k m<m){a:Nat}(h:a<n):drawn p n (kr p n a)=a:=by
 have m:a∈(List.range n).map (drawn p n):=(zz hp).mem_iff.mpr (QJ.mpr h)
 have:=List.getElem_idxOf (Vc m)
 rw[List.getElem_map,List.getElem_range]at this
 exact this
def Ig{p:Nat->Nat->Nat}{n:Nat}(hp:∀ k m,0<m->p k m<m){i:Nat}(h:i<n):kr p n (drawn p n i)=i:=by
 have nd:((List.range n).map (drawn p n)).Nodup:=(zz hp).nodup_iff.mpr YF
 have hi:i<((List.range n).map (drawn p n)).length:=by simpa using h
 have:=nd.idxOf_getElem i hi
 rw[List.getElem_map,List.getElem_range]at this
 exact this
def wL{i n:Nat}{tt:cz}{te:aB}{ρ:aR}{deep:Bool}(hi:ρ.length=i)(b:Nat->Bool)(v:Nat->D)(q:Nat->Nat)(ht:∀ j,j<n->tt (ρ++[(i9 j)])=some (b j,ρ++[(i9 j)]))
  (he:∀ j,j<n->b j=true->te (ρ++[(i9 j)])=some (v j,q j,ρ++[(i9 j)])) (hd:deep=true->∀ j,(v j).cK=true->q j=1:=by intro h;cases h) :
  jF 1 (aL i) tt te deep (cU n) ρ=some (((List.range n).filter b).map v,ρ):=by
 have h:=ue (k:=1) (pt:=aL i) (tt:=tt) (te:=te) (deep:=deep) (cU n) (fun _=>ρ) b v (fun j hj=>?_)
 ·rw[gp]at h
  exact h
 ·rw[gp]at hj
  refine⟨ρ++[(i9 j)],_,?_,ht j hj,?_⟩
  ·have:(cU n)[j]'(by rw[gp];exact hj)=(iD j):=by simp[cU]
   rw[this]
   unfold aL
   rw[Qi (by simp[hi])]
   subst hi
   simp[List.set_append]
  ·by_cases hb:b j=true
   ·rw[Qi hb]
    exact⟨q j,_,he j hj hb,fun⟨h1,h2,h3⟩=>h3 (hd h1 j h2),by simp⟩
   ·rw[Qj hb]
    simp
def Ih{z:Nat}:∀ n:Nat,(List.range n).filter (fun w=>decide (w=z))=if z<n then [z]else []
 | 0=>by simp
 | n+1=>by
  rw[Y4,List.filter_append,Ih n]
  by_cases h:n=z
  ·subst h;simp
  ·have:¬ (n=z):=h
   by_cases h2:z<n
   ·rw[Qi h2,Qi (by omega)];simp[h]
   ·rw[Qj h2,Qj (by omega)];simp[h]
def W3{n:Nat}{g:Nat->Nat}:(List.range n).map g=List.range n ↔ ∀ j,j<n->g j=j:=by
 constructor
 ·intro h j hj
  have:=Jb (fun l=>l[j]?) h
  simpa [hj]using this
 ·intro h
  have e:=Q5 (l:=List.range n) (f:=g) (g:=id) fun a ha=>h a (QJ.mp ha)
  rw[e,List.map_id]
namespace cw
variable {z:Nat}
variable {n:Nat}{f:Nat->Nat->Nat}(L:cw n f)
include L
theorem mO{x:Nat}(hz:z<n)(bz:∀ j,j<n->f z j=j)(hx:x<n)(bx:∀ j,j<n->f x j=j):x=z:=by
 have h1:=bx z hz
 have h2:=bz x hx
 rw[L.comm x z hx hz]at h1
 omega
theorem fold_lt:∀ {l:List Nat} {a:Nat},a<n->(∀ x∈l,x<n)->l.foldl f a<n
 | [],a,ha,_=>ha
 | y::l,a,ha,h=>fold_lt (l:=l) (L.cl a y ha (h y Qk)) fun x m=>h x (Qh _ m)
theorem Ii:∀ {l:List Nat} {a x:Nat},a<n->x<n->(∀ x∈l,x<n)->f x a=a->f x (l.foldl f a)=l.foldl f a
 | [],a,x,_,_,_,e=>e
 | y::l,a,x,ha,hx,h,e=>by
  have hy:=h y Qk
  refine Ii (l:=l) (L.cl a y ha hy) hx (fun x m=>h x (Qh _ m)) ?_
  rw[<- L.assoc x a y hx ha hy,e]
theorem iX:∀ {l:List Nat} {a x:Nat},a<n->(∀ x∈l,x<n)->x∈l->f x (l.foldl f a)=l.foldl f a
 | y::l,a,x,ha,h,m=>by
  have hy:=h y Qk
  have hl:∀ x∈l,x<n:=fun x m=>h x (Qh _ m)
  rcases Qt.mp m with rfl|m
  ·refine Ii L (l:=l) (L.cl a x ha hy) hy hl ?_
   rw[L.comm a x ha hy,<- L.assoc x x a hy hy ha,L.idem x hy]
  ·exact iX (l:=l) (L.cl a y ha hy) hl m
theorem fV(hz:z<n)(bz:∀ j,j<n->f z j=j):∀ {l:List Nat} {a:Nat},a<n->(∀ x∈l,x<n)->l.foldl f a=f a (l.foldl f z)
 | [],a,ha,_=>by show a=f a z;rw[L.comm a z ha hz,bz a ha]
 | y::l,a,ha,h=>by
  have hy:=h y Qk
  have hl:∀ x∈l,x<n:=fun x m=>h x (Qh _ m)
  show l.foldl f (f a y)=f a (l.foldl f (f z y))
  rw[bz y hy,fV hz bz (L.cl a y ha hy) hl,fV hz bz hy hl,L.assoc a y _ ha hy (L.fold_lt hz hl)]
end cw
def W4{l:List Nat}{i:Nat}(h:i<(ak l).length):(ak l)[i]=(iD (l.getD i 0)):=by
 have h':i<l.length:=by rw[g_]at h;exact h
 simp[ak,h']
def W5{l:List Nat}{i:Nat}(h:i<l.length):l.getD i 0∈l:=by
 rw[Qf,Qb h]
 exact Q4 h
def W6{i:Nat}{te:aB}{ρ:aR}{deep:Bool}(l:List Nat)(hi:ρ.length=i)(v:Nat->D)(q:Nat->Nat)
  (he:∀ x,x∈l->te (ρ++[(i9 x)])=some (v x,q x,ρ++[(i9 x)])) (hd:deep=true->∀ j,(v j).cK=true->q j=1:=by intro h;cases h) :
  jF 1 (aL i) fL te deep (ak l) ρ=some (l.map v,ρ):=by
 have h:=ue (k:=1) (pt:=aL i) (tt:=fL) (te:=te) (deep:=deep) (ak l) (fun _=>ρ) (fun _=>true) (fun j=>v (l.getD j 0)) (fun j hj=>?_)
 ·rw[g_,show(List.range l.length).filter (fun _=>true)=List.range l.length by simp]at h
  rw[h]
  have e:(List.range l.length).map (fun j=>v (l.getD j 0))=l.map v:=by
   apply ZI
   intro k
   by_cases hk:k<l.length
   ·simp[hk]
   ·rw[Q2 (by simp;omega),Q2 (by simp;omega)]
  rw[e]
 ·have W7:j<l.length:=by rw[g_]at hj;exact hj
  refine⟨ρ++[(i9 (l.getD j 0))],_,?_,rfl,?_⟩
  ·rw[W4 hj]
   unfold aL
   rw[Qi (by simp[hi])]
   subst hi
   simp[List.set_append]
  ·rw[Qi rfl]
   exact⟨q _,_,he _ (W5 W7),fun⟨h1,h2,h3⟩=>h3 (hd h1 _ h2),by simp⟩
def jt{g:D->D->Option D}{fa fb:aB}{ρ ρ1 ρ2:aR}{x y d:D}{q q':Nat}(ha:fa ρ=some (x,q,ρ1))(hb:fb ρ1=some (y,q',ρ2))(hg:g x y=some d):e2 g fa fb ρ=some (d,9,ρ2):=by unfold e2;rw[ha];simp only[hb,hg]
def gP{f:aB}{ρ ρ1:aR}{b:Bool}{q:Nat}(h:f ρ=some (.bl b,q,ρ1)):bA f ρ=some (b,ρ1):=by unfold bA;rw[h]
def Dj{i:Nat}{g:bT}{ρ ρ1 ρ2:aR}{ds:List D}{d:D}(hl:rA ρ[i]? = true)(hg:g ρ=some ([d],ρ1))(h1:ρ1[i]? = some (some (.lst ds,1)))(hn:ds.length<=1000)(e:ρ1.set i (some (.lst (ds++[d]),1))=ρ2):fj (jo i g) ρ=some (.nx ρ2):=by
 unfold fj jo
 rw[Qi hl,hg]
 simp only[h1,Qi hn,e]
def wM (n:Nat)(r:Nat->Nat):D:=.tup (ak ((List.range n).map r))
abbrev r9 (n:Nat)(r:Nat->Nat):OD:=some (wM n r,9)
@[simp] theorem j34{n:Nat}{r:Nat->Nat}:(wM n r).cK=false:=rfl
def Ij{n i:Nat}{r:Nat->Nat}(h:i<n):fC (wM n r) (Int.ofNat i)=some (iD (r i)):=si h
namespace cw
variable {b x y z:Nat}
variable {n:Nat}{f:Nat->Nat->Nat}(L:cw n f)
include L
theorem le_trans(hx:x<n)(hy:y<n)(hz:z<n)(h1:f x y=y)(h2:f y z=z):f x z=z:=by
 rw[<- h2,<- L.assoc x y z hx hy hz,h1]
theorem lub(hx:x<n)(hy:y<n)(hz:z<n)(h1:f x z=z)(h2:f y z=z):f (f x y) z=z:=by rw[L.assoc x y z hx hy hz,h2,h1]
theorem hJ(hz:z<n)(bz:∀ j,j<n->f z j=j)(hb:b<n):∀ {l:List Nat},(∀ x∈l,x<n)->(∀ x∈l,f x b=b)->f (l.foldl f z) b=b
 | [],_,_=>bz b hb
 | y::l,h,k=>by
  have hy:=h y Qk
  have hl:∀ x∈l,x<n:=fun x m=>h x (Qh _ m)
  have e:(y::l).foldl f z=f y (l.foldl f z):=by
   show l.foldl f (f z y)=_
   rw[bz y hy,L.fV hz bz hy hl]
  rw[e]
  exact L.lub hy (L.fold_lt hz hl) hb (k y Qk) (hJ hz bz hb hl fun x m=>k x (Qh _ m))
omit L
def low (n:Nat)(f:Nat->Nat->Nat)(x:Nat):List Nat:=(List.range n).filter fun y=>decide (f y x=x)
theorem eA:y∈low n f x ↔ y<n/\f y x=x:=by simp[low]
def lr (n:Nat)(f:Nat->Nat->Nat)(z:Nat)(r:Nat->Nat)(x:Nat):Nat:=((low n f x).map r).foldl f z
include L
variable {z:Nat}(hz:z<n)(bz:∀ j,j<n->f z j=j){r s:Nat->Nat}(hr:∀ i,i<n->r i<n)
include hz bz hr
theorem iw:∀ y∈(low n f x).map r,y<n:=fun y m=>by
 obtain⟨k,hk,rfl⟩:=Qx.mp m
 exact hr k (eA.mp hk).1
theorem qk(x:Nat):lr n f z r x<n:=L.fold_lt hz (iw L hz bz hr)
theorem wN(hy:y<n)(h:f y x=x):f (r y) (lr n f z r x)=lr n f z r x:=L.iX hz (iw L hz bz hr) (Qx.mpr ⟨y,eA.mpr ⟨hy,h⟩,rfl⟩)
theorem mP(hb:b<n)(h:∀ y,y<n->f y x=x->f (r y) b=b):f (lr n f z r x) b=b:=L.hJ hz bz hb (iw L hz bz hr) fun y m=>by
 obtain⟨k,hk,rfl⟩:=Qx.mp m
 exact h k (eA.mp hk).1 (eA.mp hk).2
theorem mQ(hx:x<n)(hy:y<n)(h:f x y=y):f (lr n f z r x) (lr n f z r y)=lr n f z r y:=
 L.mP hz bz hr (L.qk hz bz hr y) fun k hk e=>L.wN hz bz hr hk (L.le_trans hk hx hy e h)
end cw
def kT{α:Type}{us:List α}(h:us.length=1):∃ a,us=[a]:=match us,h with|[a],_=>⟨a,rfl⟩
def gQ{α:Type}{us:List α}(h:us.length=2):∃ a b,us=[a,b]:=by
 cases us with
 | nil=>cases h
 | cons a us=>
  obtain⟨b,hh⟩:=kT (JD h)
  exact⟨a,b,by rw[hh]⟩
def sj{α:Type}{us:List α}(h:us.length=3):∃ a b c,us=[a,b,c]:=by
 cases us with
 | nil=>cases h
 | cons a us=>
  obtain⟨b,c,hh⟩:=gQ (JD h)
  exact⟨a,b,c,by rw[hh]⟩
def W8{α:Type}{us:List α}(h:us.length=4):∃ a b c d,us=[a,b,c,d]:=by
 cases us with
 | nil=>cases h
 | cons a us=>
  obtain⟨b,c,d,hh⟩:=sj (JD h)
  exact⟨a,b,c,d,by rw[hh]⟩
def Ik{c:cz}{b:aJ}{Q:aR->Prop}(I:Nat->aR->Prop)
  (h:∀ k ρ,I k ρ->(∃ ρ1,c ρ=some (false,ρ1)/\Q ρ1)\/(∃ ρ1 ρ2 k',c ρ=some (true,ρ1)/\b ρ1=some (.nx ρ2)/\k'<k/\I k' ρ2)):∀ m k ρ,k<m->I k ρ->∃ ρ',mr c b m ρ=some (.nx ρ')/\Q ρ'
 | 0,k,_,hk,_=>absurd hk (Za k)
 | m+1,k,ρ,hk,i=>by
  rcases h k ρ i with⟨ρ1,h1,h2⟩|⟨ρ1,ρ2,k',h1,h2,h3,h4⟩
  ·exact⟨ρ1,by unfold mr;simp[h1],h2⟩
  ·obtain⟨ρ',e,q⟩:=Ik I h m k' ρ2 (by omega) h4
   refine⟨ρ',?_,q⟩
   unfold mr
   simp[h1,h2,e]
def Dk{c:cz}{b:aJ}{Q:aR->Prop}(I:Nat->aR->Prop){k:Nat}{ρ:aR}(hk:k<1000)(i:I k ρ)
  (h:∀ k ρ,I k ρ->(∃ ρ1,c ρ=some (false,ρ1)/\Q ρ1)\/(∃ ρ1 ρ2 k',c ρ=some (true,ρ1)/\b ρ1=some (.nx ρ2)/\k'<k/\I k' ρ2)):∃ ρ',rF c b ρ=some (.nx ρ')/\Q ρ':=Ik I h 1000 k ρ hk i
namespace cw
variable {n:Nat}{f:Nat->Nat->Nat}(L:cw n f){p:Nat}
include L
end cw
end L3
namespace My
open PySem PySem.Spec PyProof.Rows L2 L3
variable {M ks l nw:List (Nat×Nat)}{T:List ((Nat×Nat)×Nat)}{b:Bool}{c i j m m' n p q q' q2 z:Nat}{d r x:D}{ds:List D}{f fa fk fz:aB}{g h:cz}{st:Stmt}{y:List Key}{ρ ρ1 ρ2:aR}
def top (i:Nat):Stmt:=PySem.Challenge.pw_ladderhall_k40_states.main.body.getD i (.Pass ⟨0,0,0,0⟩)
structure Bt (mg:Str->Option Value):Prop where
 ix:mg "ValueError" = none
 sk:mg "bool" = none
 iY:mg "enumerate" = none
 wO:mg "int" = none
 aN:mg "isinstance" = none
 aX:mg "len" = none
 eV:mg "list" = none
 qo:mg "max" = none
 az:mg "range" = none
 iZ:mg "set" = none
 cx:mg "sorted" = none
 cF:mg "tuple" = none
structure Xt (K:PySem.W.Frag) (mg:Str->Option Value):Prop where
 u:oW K mg "RiseError" ["NoPlace"]
 kZ:∃ C,BR K mg "NoPlace" C
 k4:eT K mg ["NoPlace"] "NoHouse"
 pd:eT K mg ["NoPlace"] "NoMap"
 k6:eT K mg ["NoPlace"] "NoPlace"
 mR:eT K mg ["NoPlace"] "NoRule"
 mU:eT K mg ["NoPlace"] "NoStep"
 jP:eT K mg ["NoPlace"] "TooGreat"
section
variable {P:Program}{w:World}{K:PySem.W.Frag}{mg:Str->Option Value}{base:Heap}
def Il:aJ:=aH (fD (bA (e2 j4 (aa 1) (cq 0))) (b_ (aI 0 (aa 1))) ig)
 (aH (fD (bA (e2 eJ (aa 0) (dm aj))) (b_ (eC (.int 0))) ig)
 (b_ (e2 cm (e2 l9 (aI 0 (e2 qW (aa 1) (cq 0))) (eC (.int 31))) (aa 1))))
def wQ:=cB 2 (Il)
def W9:ah ["_law_script","_law_k"] ["_law_script","_law_k"] (bj (top 29)):=dz (by decide +kernel)
def W_(B:Bt mg)(a:At K mg "_law_cell" (top 29) ["_law_script","_law_k"]):aE P w K mg base 1 "_law_cell" 2 (wQ):=
 aE.da a W9 fun _ _ _ _ _ _ _ hr=>
  aT (ij (vi (aG 1 rfl rfl) (fE B.aX (ql 0 rfl rfl))) (aZ (cA (bZ (ql 0 rfl rfl) (aG 1 rfl rfl)))) iG)
  (aT (ij (oK hr (aG 0 rfl rfl) (eR au)) (aZ (cA a_)) iG)
  (aZ (cA (dH (nz (bZ (ql 0 rfl rfl) (tP (aG 1 rfl rfl) (fE B.aX (ql 0 rfl rfl)))) a_) (aG 1 rfl rfl)))))
def Im:aJ:=aH (bh 3 (e2 qW (e2 l9 (e2 cm (aS wQ 2 (ae (aa 0) (ae (aa 1) aj))) (e2 l9 (eC (.int 6151)) (e2 cm (aa 1) (eC (.int 1))))) (eC (.int 40692))) (eC (.int 2147483399))))
 (b_ (e2 qW (e2 qW (e2 cm (e2 l9 (aa 3) (aa 3)) (e2 yo (aa 3) (eC (.int 31)))) (eC (.int 2147483629))) (aa 2)))
def dM:=cB 4 (Im)
def Io:ah ["_law_script","_law_k","_law_many","_law_drawn"] ["_law_script","_law_k","_law_many"] (bj (top 30)):=dz (by decide +kernel)
def Xa(B:Bt mg)(c7:aE P w K mg base 1 "_law_cell" 2 wQ)(a:At K mg "_law_pick" (top 30) ["_law_script","_law_k","_law_many"]):aE P w K mg base 2 "_law_pick" 3 (dM):=
 aE.da a Io fun _ _ _ _ _ _ _ hr=>
  aT (bW (i:=3) Io.nd rfl (Or.inl rfl) (tP (nz (dH (bB c7 hr (by decide) (aP 0 rfl rfl (aP 1 rfl rfl au))) (nz a_ (dH (aG 1 rfl rfl) a_))) a_) a_))
  (aZ (cA (tP (tP (dH (nz (aG 3 rfl rfl) (aG 3 rfl rfl)) (Ba (aG 3 rfl rfl) a_)) a_) (aG 2 rfl rfl))))
def Xb:aJ:=b_ (eS 1 (cX (ae (aa 0) aj)) (aL 1) fL (eS 1 (cX (ae (aa 0) aj)) (aL 2) fL (eB yB (ae (aa 1) (ae (aa 2) aj))) false) false)
def jQ:=cB 1 (Xb)
def Xc:ah ["_law_many"] ["_law_many"] (bj (top 31)):=dz (by decide +kernel)
abbrev Ip:List Str:=["_law_many","_law_one","_law_other"]
def Xd:(Ip).Nodup:=by decide +kernel
abbrev Iq:List Str:=["_law_many","_law_one"]
def Xe:(Iq).Nodup:=by decide +kernel
def Xf(B:Bt mg)(a:At K mg "_law_chain" (top 31) ["_law_many"]):aE P w K mg base 1 "_law_chain" 1 (jQ):=
 aE.da a Xc fun _ _ _ _ _ _ _ hr=>
  aZ (cA (j5 (k:=1) (N':=Iq) false rfl ⟨rfl,by decide +kernel,rfl,rfl,rfl⟩ (gq B.az (aA (cy (qv 0)) au gu)) (fun _ _ _ _=>cH (i:=1) (show 1<=1 by decide) Xe rfl (Or.inr rfl) (Or.inl rfl)) (fun _ _ _ _=>nE) (fun _ _ _ _=>j5 (k:=1) (N':=Ip) false rfl ⟨rfl,by decide +kernel,rfl,rfl,rfl⟩ (gq B.az (aA (cy (qv 0)) au gu)) (fun _ _ _ _=>cH (i:=2) (show 2<=2 by decide) Xd rfl (Or.inl rfl) (Or.inr rfl)) (fun _ _ _ _=>nE) (fun _ _ _ _=>FA rfl B.qo Ud (aA (cy (qv 1)) (aA (cy (qv 2)) au gu) gu)))))
abbrev Xg:aJ:=aH (bh 7 (fh (aI 0 (e2 yo (aa 4) (aa 2))) (e2 yo (aa 6) (aa 2))))
 (fj (jo 5 (ae (e2 cm (e2 l9 (aa 7) (aa 2)) (fh (aI 1 (e2 qW (aa 4) (aa 2))) (e2 qW (aa 6) (aa 2)))) aj)))
abbrev Xh:aJ:=aH (bh 5 (dm aj))
 (aH (fm (cX (ae (e2 l9 (cq 0) (aa 2)) aj)) (aL 6) Xg)
 (fj (jo 3 (ae (aa 5) aj))))
def Xi:aJ:=aH (bh 2 (cq 1))
 (aH (bh 3 (dm aj))
 (aH (fm (cX (ae (e2 l9 (cq 0) (aa 2)) aj)) (aL 4) Xh)
 (b_ (aa 3))))
def nQ:=cB 8 (Xi)
def sr:ah ["_law_one","_law_other","_law_many","_law_made","_law_here","_law_row","_law_there","_law_first"] ["_law_one","_law_other"] (bj (top 32)):=dz (by decide +kernel)
def Xj(B:Bt mg)(a:At K mg "_law_couples" (top 32) ["_law_one","_law_other"]):aE P w K mg base 1 "_law_couples" 2 (nQ):=
 aE.da a sr fun _ _ _ _ _ _ _ hr=>
  aT (bW (i:=2) sr.nd rfl (Or.inl rfl) (fE B.aX (ql 1 rfl rfl)))
  (aT (bW (i:=3) sr.nd rfl (Or.inl rfl) (eR au))
  (aT (ip QO rfl (gq B.az (aA (nz (fE B.aX (ql 0 rfl rfl)) (aG 2 rfl rfl)) au fM)) (cH (i:=4) (show 0<=4 by decide) sr.nd rfl (Or.inl rfl)) (aT (bW (i:=5) sr.nd rfl (Or.inl rfl) (eR au))
  (aT (ip QO rfl (gq B.az (aA (nz (fE B.aX (ql 0 rfl rfl)) (aG 2 rfl rfl)) au fM)) (cH (i:=6) (show 0<=6 by decide) sr.nd rfl (Or.inl rfl)) (aT (bW (i:=7) sr.nd rfl (Or.inl rfl) (jB (bZ (ql 0 rfl rfl) (Ba (aG 4 rfl rfl) (aG 2 rfl rfl))) (Ba (aG 6 rfl rfl) (aG 2 rfl rfl))))
  (aZ (jj (nF (ql 5 rfl rfl) (aA (dH (nz (aG 7 rfl rfl) (aG 2 rfl rfl)) (jB (bZ (ql 1 rfl rfl) (tP (aG 4 rfl rfl) (aG 2 rfl rfl))) (tP (aG 6 rfl rfl) (aG 2 rfl rfl)))) au fM))))))
  (aZ (jj (nF (ql 3 rfl rfl) (aP 5 rfl rfl au)))))))
  (aZ (cA (aG 3 rfl rfl)))))
abbrev Xk:aJ:=fj (jo 3 (ae (Be (yt (bA (e2 jG (eC (.int 0)) (gm (ae (aa 2) (ae (aa 4) aj))))) (bA (e2 eJ (aa 2) (aa 4)))) (eB yB (ae (aa 2) (ae (aa 4) aj))) (e2 cm (aa 0) (eC (.int 1)))) aj))
abbrev Xl:aJ:=aH (bh 3 (dm aj))
 (aH (fm (cX (ae (e2 cm (aa 0) (eC (.int 2))) aj)) (aL 4) Xk)
 (fj (jo 1 (ae (aa 3) aj))))
def Xm:aJ:=aH (bh 1 (dm aj))
 (aH (fm (cX (ae (e2 cm (aa 0) (eC (.int 2))) aj)) (aL 2) Xl)
 (b_ (aa 1)))
def pf:=cB 5 (Xm)
def wR:ah ["_law_many","_law_made","_law_one","_law_row","_law_other"] ["_law_many"] (bj (top 33)):=dz (by decide +kernel)
def Xn(B:Bt mg)(a:At K mg "_law_side_by_side" (top 33) ["_law_many"]):aE P w K mg base 1 "_law_side_by_side" 1 (pf):=
 aE.da a wR fun _ _ _ _ _ _ _ hr=>
  aT (bW (i:=1) wR.nd rfl (Or.inl rfl) (eR au))
  (aT (ip QO rfl (gq B.az (aA (dH (aG 0 rfl rfl) a_) au fM)) (cH (i:=2) (show 0<=2 by decide) wR.nd rfl (Or.inl rfl)) (aT (bW (i:=3) wR.nd rfl (Or.inl rfl) (eR au))
  (aT (ip QO rfl (gq B.az (aA (dH (aG 0 rfl rfl) a_) au fM)) (cH (i:=4) (show 0<=4 by decide) wR.nd rfl (Or.inl rfl)) (aZ (jj (nF (ql 3 rfl rfl) (aA (OB (C3 (Fi (Bl hr a_ (j3 (aP 2 rfl rfl (aP 4 rfl rfl au)))) (Fh (oK hr (aG 2 rfl rfl) (aG 4 rfl rfl))))) (FA rfl B.qo Ud (aP 2 rfl rfl (aP 4 rfl rfl au))) (dH (aG 0 rfl rfl) a_)) au Pw)))))
  (aZ (jj (nF (ql 1 rfl rfl) (aP 3 rfl rfl au)))))))
  (aZ (cA (aG 1 rfl rfl))))
def Ir:aJ:=aH (bh 2 (aS dM 3 (ae (aa 0) (ae (aa 1) (ae (eC (.int 9)) aj)))))
 (aH (fD (bA (e2 j4 (aa 2) (eC (.int 3)))) (b_ (aS jQ 1 (ae (e2 cm (eC (.int 1)) (aS dM 3 (ae (aa 0) (ae (e2 cm (aa 1) (eC (.int 1))) (ae (eC (.int 5)) aj))))) aj))) ig)
 (aH (fD (bA (e2 j4 (aa 2) (eC (.int 5)))) (b_ (aS nQ 2 (ae (aS jQ 1 (ae (eC (.int 2)) aj)) (ae (aS jQ 1 (ae (fh (dm (ae (eC (.int 2)) (ae (eC (.int 3)) (ae (eC (.int 4)) aj)))) (aS dM 3 (ae (aa 0) (ae (e2 cm (aa 1) (eC (.int 1))) (ae (eC (.int 3)) aj))))) aj)) aj)))) ig)
 (aH (fD (bA (e2 j4 (aa 2) (eC (.int 7)))) (b_ (aS pf 1 (ae (aS dM 3 (ae (aa 0) (ae (e2 cm (aa 1) (eC (.int 1))) (ae (eC (.int 5)) aj)))) aj))) ig)
 (aH (fD (bA (e2 eJ (aa 2) (eC (.int 7)))) (b_ (aS nQ 2 (ae (aS jQ 1 (ae (eC (.int 2)) aj)) (ae (aS nQ 2 (ae (aS jQ 1 (ae (eC (.int 2)) aj)) (ae (aS jQ 1 (ae (eC (.int 2)) aj)) aj))) aj)))) ig)
 (aH (bh 3 (dm (ae (dm (ae (eC (.int 0)) (ae (eC (.int 1)) (ae (eC (.int 2)) (ae (eC (.int 3)) (ae (eC (.int 4)) aj)))))) (ae (dm (ae (eC (.int 1)) (ae (eC (.int 1)) (ae (eC (.int 2)) (ae (eC (.int 4)) (ae (eC (.int 4)) aj)))))) (ae (dm (ae (eC (.int 2)) (ae (eC (.int 2)) (ae (eC (.int 2)) (ae (eC (.int 4)) (ae (eC (.int 4)) aj)))))) (ae (dm (ae (eC (.int 3)) (ae (eC (.int 4)) (ae (eC (.int 4)) (ae (eC (.int 3)) (ae (eC (.int 4)) aj)))))) (ae (dm (ae (eC (.int 4)) (ae (eC (.int 4)) (ae (eC (.int 4)) (ae (eC (.int 4)) (ae (eC (.int 4)) aj)))))) aj)))))))
 (b_ (aa 3)))))))
def wU:=cB 4 (Ir)
def Dl:ah ["_law_script","_law_at","_law_kind","_law_rows"] ["_law_script","_law_at"] (bj (top 34)):=dz (by decide +kernel)
def Xo(B:Bt mg)(hV:aE P w K mg base 2 "_law_pick" 3 dM)(c8:aE P w K mg base 1 "_law_chain" 1 jQ)(Dm:aE P w K mg base 1 "_law_couples" 2 nQ)(Xp:aE P w K mg base 1 "_law_side_by_side" 1 pf)(a:At K mg "_law_base" (top 34) ["_law_script","_law_at"]):aE P w K mg base 3 "_law_base" 2 (wU):=
 aE.da a Dl fun _ _ _ _ _ _ _ hr=>
  aT (bW (i:=2) Dl.nd rfl (Or.inl rfl) (bB hV hr (by decide) (aP 0 rfl rfl (aP 1 rfl rfl (cE au)))))
  (aT (ij (vi (aG 2 rfl rfl) a_) (aZ (cA (bB c8 hr (by decide) (aA (dH a_ (bB hV hr (by decide) (aP 0 rfl rfl (aA (dH (aG 1 rfl rfl) a_) (cE au) fM)))) au fM)))) iG)
  (aT (ij (vi (aG 2 rfl rfl) a_) (aZ (cA (bB Dm hr (by decide) (aA (bB c8 hr (by decide) (cE au)) (aA (bB c8 hr (by decide) (aA (jB (eR (cE (cE (cE au)))) (bB hV hr (by decide) (aP 0 rfl rfl (aA (dH (aG 1 rfl rfl) a_) (cE au) fM)))) au iJ)) au cu) cu)))) iG)
  (aT (ij (vi (aG 2 rfl rfl) a_) (aZ (cA (bB Xp hr (by decide) (aA (bB hV hr (by decide) (aP 0 rfl rfl (aA (dH (aG 1 rfl rfl) a_) (cE au) fM))) au cu)))) iG)
  (aT (ij (oK hr (aG 2 rfl rfl) a_) (aZ (cA (bB Dm hr (by decide) (aA (bB c8 hr (by decide) (cE au)) (aA (bB Dm hr (by decide) (aA (bB c8 hr (by decide) (cE au)) (aA (bB c8 hr (by decide) (cE au)) au cu) cu)) au cu) cu)))) iG)
  (aT (bW (i:=3) Dl.nd rfl (Or.inl rfl) (eR (aA (eR (cE (cE (cE (cE (cE au)))))) (aA (eR (cE (cE (cE (cE (cE au)))))) (aA (eR (cE (cE (cE (cE (cE au)))))) (aA (eR (cE (cE (cE (cE (cE au)))))) (aA (eR (cE (cE (cE (cE (cE au)))))) au pQ) pQ) pQ) pQ) pQ)))
  (aZ (cA (aG 3 rfl rfl))))))))
abbrev Xq:aJ:=vA 5 (rD 4 (rC 6)) (rD 4 (rC 7)) (aI 4 (fh (aI 2 (aa 6)) (aa 7)))
abbrev Xr:aJ:=fm (cX (ae (cq 2) aj)) (aL 7) (Xq)
def Iu:aJ:=aH (bh 2 (aS wU 2 (ae (aa 0) (ae (aa 1) aj))))
 (aH (bh 3 (pM (ae (cq 2) aj)))
 (aH (bh 4 (eS 1 (cX (ae (cq 2) aj)) (aL 8) fL (vw 3 (ae (aS dM 3 (ae (aa 0) (ae (e2 cm (e2 cm (aa 1) (eC (.int 2))) (aa 8)) (ae (cq 3) aj)))) aj)) false))
 (aH (bh 5 (eS 1 (eI (aa 2)) (aL 8) fL (vy (dm (ae (eC (.int 0)) aj)) (cq 2)) true))
 (aH (fm (cX (ae (cq 2) aj)) (aL 6) Xr)
 (b_ (j9 (ae (eS 1 (eI (aa 5)) (aL 8) fL (j9 (ae (aa 8) aj)) false) aj)))))))
def wV:=cB 8 (Iu)
def su:ah ["_law_script","_law_at","_law_base_here","_law_left","_law_name","_law_made","_law_one","_law_other"] ["_law_script","_law_at"] (bj (top 35)):=dz (by decide +kernel)
abbrev Iv:List Str:=["_law_script","_law_at","_law_base_here","_law_left","_law_name","_law_made","_law_one","_law_other","_law_k"]
def Xs:(Iv).Nodup:=by decide +kernel
abbrev Dp:List Str:=["_law_script","_law_at","_law_base_here","_law_left","_law_name","_law_made","_law_one","_law_other","_law_row"]
def Iw:(Dp).Nodup:=by decide +kernel
def Xu(B:Bt mg)(c0:aE P w K mg base 3 "_law_base" 2 wU)(hV:aE P w K mg base 2 "_law_pick" 3 dM)(a:At K mg "_law_ladder" (top 35) ["_law_script","_law_at"]):aE P w K mg base 4 "_law_ladder" 2 (wV):=
 aE.da a su fun _ _ _ _ _ _ _ hr=>
  aT (bW (i:=2) su.nd rfl (Or.inr rfl) (bB c0 hr (by decide) (aA (cy (qv 0)) (aA (cy (qv 1)) au gu) gu)))
  (aT (bW (i:=3) su.nd rfl (Or.inr rfl) (Bo rfl B.eV ZV B.az (aA (fE B.aX (qv 2)) au cu)))
  (aT (Bk (i:=4) (k:=1) (N':=Iv) false su.nd rfl (Or.inl rfl) rfl rfl ⟨rfl,by decide +kernel,rfl,rfl,rfl⟩ (gq B.az (aA (fE B.aX (qv 2)) au cu)) (fun _ _ _ _=>cH (i:=8) (show 8<=8 by decide) Xs rfl (Or.inl rfl) (Or.inr rfl)) (fun _ _ _ _=>nE) (fun _ _ _ _=>Pm (qv 3) (aA (bB hV hr (by decide) (aA (cy (qv 0)) (aA (dH (dH (cy (qv 1)) a_) (cy (qv 8))) (aA (fE B.aX (qv 3)) au cu) fM) gu)) au cu)))
  (aT (Bk (i:=5) (k:=1) (N':=Dp) true su.nd rfl (Or.inl rfl) rfl rfl ⟨rfl,by decide +kernel,rfl,rfl,rfl⟩ (lh (cy (qv 2))) (fun _ _ _ _=>cH (i:=8) (show 8<=8 by decide) Iw rfl (Or.inl rfl) (Or.inr rfl)) (fun _ _ _ _=>nE) (fun _ _ _ _=>Pp (eR (cE au)) (fE B.aX (qv 2))))
  (aT (ip QO rfl (gq B.az (aA (fE B.aX (qv 2)) au cu)) (cH (i:=6) (show 0<=6 by decide) su.nd rfl (Or.inl rfl)) (aZ (ip QO rfl (gq B.az (aA (fE B.aX (qv 2)) au cu)) (cH (i:=7) (show 0<=7 by decide) su.nd rfl (Or.inl rfl)) (aZ (Pr (ql 5 rfl rfl) (FP (ql 4 rfl rfl) (FO (ql 6 rfl rfl))) (FP (ql 4 rfl rfl) (FO (ql 7 rfl rfl))) (bZ (ql 4 rfl rfl) (jB (bZ (qv 2) (aG 6 rfl rfl)) (aG 7 rfl rfl))))))))
  (aZ (cA (rn B.cF Zw (aA (j5 (k:=1) (N':=Dp) false rfl ⟨rfl,by decide +kernel,rfl,rfl,rfl⟩ (lh (aG 5 rfl rfl)) (fun _ _ _ _=>cH (i:=8) (show 8<=8 by decide) Iw rfl (Or.inl rfl) (Or.inr rfl)) (fun _ _ _ _=>nE) (fun _ _ _ _=>rn B.cF Zw (aA (cy (qv 8)) au gu))) au BD))))))))
def Iy:aJ:=b_ (fh (eS 1 (cX (ae (cq 0) aj)) (aL 1) (bA (e2 eJ (vn (ae (aI 0 (aa 1)) aj)) (pM (ae (cq 0) aj)))) (aa 1) false) (eC (.int 0)))
def nR:=cB 1 (Iy)
def Xv:ah ["_law_ladder_here"] ["_law_ladder_here"] (bj (top 36)):=dz (by decide +kernel)
abbrev Iz:List Str:=["_law_ladder_here","_law_worth"]
def Xw:(Iz).Nodup:=by decide +kernel
def Xx(B:Bt mg)(a:At K mg "_law_low" (top 36) ["_law_ladder_here"]):aE P w K mg base 1 "_law_low" 1 (nR):=
 aE.da a Xv fun _ _ _ _ _ _ _ hr=>
  aZ (cA (jB (j5 (k:=1) (N':=Iz) false rfl ⟨rfl,by decide +kernel,rfl,rfl,rfl⟩ (gq B.az (aA (fE B.aX (qv 0)) au cu)) (fun _ _ _ _=>cH (i:=1) (show 1<=1 by decide) Xw rfl (Or.inl rfl) (Or.inr rfl)) (fun _ _ _ _=>rl (oK hr (O8 B.eV ZV (aA (bZ (qv 0) (cy (qv 1))) au iJ)) (Bo rfl B.eV ZV B.az (aA (fE B.aX (qv 0)) au cu)))) (fun _ _ _ _=>cy (qv 1))) a_))
abbrev Xy:aJ:=bh 2 (fh (aI 0 (aa 2)) (aa 3))
def IA:aJ:=aH (bh 2 (aS nR 1 (ae (aa 0) aj)))
 (aH (fm (eI (aa 1)) (aL 3) Xy)
 (b_ (aa 2)))
def sv:=cB 4 (IA)
def zA:ah ["_law_ladder_here","_law_worths","_law_here","_law_worth"] ["_law_ladder_here","_law_worths"] (bj (top 37)):=dz (by decide +kernel)
def Xz(B:Bt mg)(wW:aE P w K mg base 1 "_law_low" 1 nR)(a:At K mg "_law_join" (top 37) ["_law_ladder_here","_law_worths"]):aE P w K mg base 2 "_law_join" 2 (sv):=
 aE.da a zA fun _ _ _ _ _ _ _ hr=>
  aT (bW (i:=2) zA.nd rfl (Or.inl rfl) (bB wW hr (by decide) (aP 0 rfl rfl au)))
  (aT (ip QO rfl (lh (aG 1 rfl rfl)) (cH (i:=3) (show 0<=3 by decide) zA.nd rfl (Or.inl rfl)) (aZ (bW (i:=2) zA.nd rfl (Or.inl rfl) (jB (bZ (ql 0 rfl rfl) (aG 2 rfl rfl)) (aG 3 rfl rfl)))))
  (aZ (cA (aG 2 rfl rfl))))
def IB:aJ:=b_ (eS 1 (cX (ae (cq 0) aj)) (aL 2) (bA (e2 eJ (fh (aI 0 (aa 2)) (aa 1)) (aa 1))) (aa 2) false)
def qp:=cB 2 (IB)
def XA:ah ["_law_ladder_here","_law_worth"] ["_law_ladder_here","_law_worth"] (bj (top 38)):=dz (by decide +kernel)
abbrev IC:List Str:=["_law_ladder_here","_law_worth","_law_one"]
def XB:(IC).Nodup:=by decide +kernel
def XD(B:Bt mg)(a:At K mg "_law_under" (top 38) ["_law_ladder_here","_law_worth"]):aE P w K mg base 1 "_law_under" 2 (qp):=
 aE.da a XA fun _ _ _ _ _ _ _ hr=>
  aZ (cA (j5 (k:=1) (N':=IC) false rfl ⟨rfl,by decide +kernel,rfl,rfl,rfl⟩ (gq B.az (aA (fE B.aX (qv 0)) au cu)) (fun _ _ _ _=>cH (i:=2) (show 2<=2 by decide) XB rfl (Or.inl rfl) (Or.inr rfl)) (fun _ _ _ _=>rl (oK hr (jB (bZ (qv 0) (cy (qv 2))) (cy (qv 1))) (cy (qv 1)))) (fun _ _ _ _=>cy (qv 2))))
abbrev XE:aJ:=fj (jo 6 (ae (aS sv 2 (ae (aa 2) (ae (eS 1 (eI (aS qp 2 (ae (aa 2) (ae (aa 5) aj)))) (aL 7) fL (aI 4 (aa 7)) false) aj))) aj))
abbrev XF:aJ:=fj (jo 4 (ae (fh (dm (ae (aa 3) (ae (aa 5) (ae (aS dM 3 (ae (aa 0) (ae (e2 cm (aa 1) (aa 5)) (ae (cq 2) aj)))) aj)))) (aS dM 3 (ae (aa 0) (ae (e2 cm (e2 cm (aa 1) (eC (.int 8))) (aa 5)) (ae (eC (.int 3)) aj))))) aj))
def ID:aJ:=aH (bh 3 (aS nR 1 (ae (aa 2) aj)))
 (aH (bh 4 (dm aj))
 (aH (fm (cX (ae (cq 2) aj)) (aL 5) XF)
 (aH (bh 6 (dm aj))
 (aH (fm (cX (ae (cq 2) aj)) (aL 5) XE)
 (b_ (j9 (ae (aa 6) aj)))))))
def sx:=cB 7 (ID)
def ug:ah ["_law_script","_law_at","_law_ladder_here","_law_low_here","_law_drawn","_law_worth","_law_made"] ["_law_script","_law_at","_law_ladder_here"] (bj (top 39)):=dz (by decide +kernel)
abbrev IE:List Str:=["_law_script","_law_at","_law_ladder_here","_law_low_here","_law_drawn","_law_worth","_law_made","_law_one"]
def XG:(IE).Nodup:=by decide +kernel
def XH(B:Bt mg)(wW:aE P w K mg base 1 "_law_low" 1 nR)(hV:aE P w K mg base 2 "_law_pick" 3 dM)(XI:aE P w K mg base 2 "_law_join" 2 sv)(XJ:aE P w K mg base 1 "_law_under" 2 qp)(a:At K mg "_law_rule" (top 39) ["_law_script","_law_at","_law_ladder_here"]):aE P w K mg base 3 "_law_rule" 3 (sx):=
 aE.da a ug fun _ _ _ _ _ _ _ hr=>
  aT (bW (i:=3) ug.nd rfl (Or.inl rfl) (bB wW hr (by decide) (aP 2 rfl rfl au)))
  (aT (bW (i:=4) ug.nd rfl (Or.inr rfl) (eR au))
  (aT (ip QO rfl (gq B.az (aA (fE B.aX (ql 2 rfl rfl)) au cu)) (cH (i:=5) (show 0<=5 by decide) ug.nd rfl (Or.inl rfl)) (aZ (jj (nF (qv 4) (aA (jB (eR (aP 3 rfl rfl (aP 5 rfl rfl (aA (bB hV hr (by decide) (aP 0 rfl rfl (aA (dH (aG 1 rfl rfl) (aG 5 rfl rfl)) (aA (fE B.aX (ql 2 rfl rfl)) au cu) fM))) au cu)))) (bB hV hr (by decide) (aP 0 rfl rfl (aA (dH (dH (aG 1 rfl rfl) a_) (aG 5 rfl rfl)) (cE au) fM)))) au iJ)))))
  (aT (bW (i:=6) ug.nd rfl (Or.inl rfl) (eR au))
  (aT (ip QO rfl (gq B.az (aA (fE B.aX (ql 2 rfl rfl)) au cu)) (cH (i:=5) (show 0<=5 by decide) ug.nd rfl (Or.inl rfl)) (aZ (jj (nF (ql 6 rfl rfl) (aA (bB XI hr (by decide) (aP 2 rfl rfl (aA (j5 (k:=1) (N':=IE) false rfl ⟨rfl,by decide +kernel,rfl,rfl,rfl⟩ (lh (bB XJ hr (by decide) (aP 2 rfl rfl (aP 5 rfl rfl au)))) (fun _ _ _ _=>cH (i:=7) (show 7<=7 by decide) XG rfl (Or.inl rfl) (Or.inr rfl)) (fun _ _ _ _=>nE) (fun _ _ _ _=>bZ (qv 4) (cy (qv 7)))) au BD))) au cu)))))
  (aZ (cA (rn B.cF Zw (aP 6 rfl rfl au))))))))
abbrev XM:aJ:=aH (bh 4 (fh (aI 0 (aI 1 (aa 2))) (aI 1 (aa 3))))
 (fD (bA (e2 g7 (aI 1 (fh (aI 0 (aa 2)) (aa 3))) (aa 4))) (b_ (eC (.bl false))) ig)
abbrev XN:aJ:=fm (cX (ae (aa 2) aj)) (aL 3) (XM)
def XQ:aJ:=aH (fm (cX (ae (cq 0) aj)) (aL 2) XN)
 (b_ (eC (.bl true)))
def Dq:=cB 5 (XQ)
def zB:ah ["_law_ladder_here","_law_rule_here","_law_one","_law_other","_law_due"] ["_law_ladder_here","_law_rule_here"] (bj (top 40)):=dz (by decide +kernel)
def XR(B:Bt mg)(a:At K mg "_law_spreads" (top 40) ["_law_ladder_here","_law_rule_here"]):aE P w K mg base 1 "_law_spreads" 2 (Dq):=
 aE.da a zB fun _ _ _ _ _ _ _ hr=>
  aT (ip QO rfl (gq B.az (aA (fE B.aX (ql 0 rfl rfl)) au cu)) (cH (i:=2) (show 0<=2 by decide) zB.nd rfl (Or.inl rfl)) (aZ (ip QO rfl (gq B.az (aP 2 rfl rfl au)) (cH (i:=3) (show 0<=3 by decide) zB.nd rfl (Or.inl rfl)) (aT (bW (i:=4) zB.nd rfl (Or.inl rfl) (jB (bZ (ql 0 rfl rfl) (bZ (ql 1 rfl rfl) (aG 2 rfl rfl))) (bZ (ql 1 rfl rfl) (aG 3 rfl rfl))))
  (aZ (ij (tS hr (bZ (ql 1 rfl rfl) (jB (bZ (ql 0 rfl rfl) (aG 2 rfl rfl)) (aG 3 rfl rfl))) (aG 4 rfl rfl)) (aZ (cA oC)) iG))))))
  (aZ (cA oC))
def XS:aJ:=aH (bh 3 (aS sx 3 (ae (aa 0) (ae (aa 1) (ae (aa 2) aj)))))
 (aH (fD (l_ (aS Dq 2 (ae (aa 2) (ae (aa 3) aj)))) (b_ (aa 3)) ig)
 (aH (bh 4 (aS dM 3 (ae (aa 0) (ae (e2 cm (aa 1) (eC (.int 17))) (ae (cq 2) aj)))))
 (aH (bh 5 (dm (ae (j9 (ae (pM (ae (cq 2) aj)) aj)) (ae (BH (gm (ae (aa 4) aj)) (cq 2)) aj))))
 (aH (fj (jo 5 (ae (j9 (ae (eS 1 (cX (ae (cq 2) aj)) (aL 6) fL (fh (aI 2 (aa 6)) (aa 4)) false) aj)) aj)))
 (b_ (aI 5 (aS dM 3 (ae (aa 0) (ae (e2 cm (aa 1) (eC (.int 16))) (ae (eC (.int 3)) aj))))))))))
def Dr:=cB 6 (XS)
def zC:ah ["_law_script","_law_at","_law_ladder_here","_law_rule_here","_law_worth","_law_some"] ["_law_script","_law_at","_law_ladder_here"] (bj (top 41)):=dz (by decide +kernel)
abbrev IF:List Str:=["_law_script","_law_at","_law_ladder_here","_law_rule_here","_law_worth","_law_some","_law_one"]
def XT:(IF).Nodup:=by decide +kernel
def XU(B:Bt mg)(Ds:aE P w K mg base 3 "_law_rule" 3 sx)(XW:aE P w K mg base 1 "_law_spreads" 2 Dq)(hV:aE P w K mg base 2 "_law_pick" 3 dM)(a:At K mg "_law_spread_rule" (top 41) ["_law_script","_law_at","_law_ladder_here"]):aE P w K mg base 4 "_law_spread_rule" 3 (Dr):=
 aE.da a zC fun _ _ _ _ _ _ _ hr=>
  aT (bW (i:=3) zC.nd rfl (Or.inl rfl) (bB Ds hr (by decide) (aP 0 rfl rfl (aP 1 rfl rfl (aA (cy (qv 2)) au gu)))))
  (aT (ij (tR (bB XW hr (by decide) (aA (cy (qv 2)) (aP 3 rfl rfl au) gu))) (aZ (cA (aG 3 rfl rfl))) iG)
  (aT (bW (i:=4) zC.nd rfl (Or.inr rfl) (bB hV hr (by decide) (aP 0 rfl rfl (aA (dH (aG 1 rfl rfl) a_) (aA (fE B.aX (qv 2)) au cu) fM))))
  (aT (bW (i:=5) zC.nd rfl (Or.inl rfl) (eR (aA (rn B.cF Zw (aA (Bo rfl B.eV ZV B.az (aA (fE B.aX (qv 2)) au cu)) au cu)) (aA (P9 (j3 (aA (cy (qv 4)) au gu)) (fE B.aX (qv 2))) au fM) cu)))
  (aT (jj (nF (ql 5 rfl rfl) (aA (rn B.cF Zw (aA (j5 (k:=1) (N':=IF) false rfl ⟨rfl,by decide +kernel,rfl,rfl,rfl⟩ (gq B.az (aA (fE B.aX (qv 2)) au cu)) (fun _ _ _ _=>cH (i:=6) (show 6<=6 by decide) XT rfl (Or.inl rfl) (Or.inr rfl)) (fun _ _ _ _=>nE) (fun _ _ _ _=>jB (bZ (qv 2) (cy (qv 6))) (cy (qv 4)))) au BD)) au cu)))
  (aZ (cA (bZ (ql 5 rfl rfl) (bB hV hr (by decide) (aP 0 rfl rfl (aA (dH (aG 1 rfl rfl) a_) (cE au) fM))))))))))
abbrev zD:aJ:=aH (bh 10 (aS dM 3 (ae (aa 0) (ae (e2 cm (e2 cm (aa 1) (eC (.int 3))) (e2 l9 (eC (.int 2)) (aa 6))) (ae (cq 2) aj)))))
 (fj (jo 9 (ae (gm (ae (aS dM 3 (ae (aa 0) (ae (e2 cm (e2 cm (aa 1) (eC (.int 4))) (e2 l9 (eC (.int 2)) (aa 6))) (ae (aa 4) aj)))) (ae (aa 10) aj))) aj)))
abbrev zE:aJ:=aH (bh 7 (e2 cm (e2 cm (aa 1) (eC (.int 10))) (e2 l9 (eC (.int 22)) (aa 6))))
 (aH (bh 8 (aS sx 3 (ae (aa 0) (ae (e2 cm (aa 7) (eC (.int 2))) (ae (aa 2) aj)))))
 (aH (fD (l_ (aa 3)) (bh 8 (aS Dr 3 (ae (aa 0) (ae (e2 cm (aa 7) (eC (.int 2))) (ae (aa 2) aj))))) ig)
 (fj (jo 5 (ae (gm (ae (aS dM 3 (ae (aa 0) (ae (aa 7) (ae (aa 4) aj)))) (ae (aS dM 3 (ae (aa 0) (ae (e2 cm (aa 7) (eC (.int 1))) (ae (aa 4) aj)))) (ae (aa 8) aj)))) aj)))))
def IG:aJ:=aH (bh 4 (e2 cm (eC (.int 1)) (aS dM 3 (ae (aa 0) (ae (aa 1) (ae (eC (.int 5)) aj))))))
 (aH (bh 5 (dm aj))
 (aH (fm (cX (ae (aS dM 3 (ae (aa 0) (ae (e2 cm (aa 1) (eC (.int 1))) (ae (eC (.int 8)) aj)))) aj)) (aL 6) zE)
 (aH (bh 9 (dm aj))
 (aH (fm (cX (ae (aS dM 3 (ae (aa 0) (ae (e2 cm (aa 1) (eC (.int 2))) (ae (eC (.int 4)) aj)))) aj)) (aL 6) zD)
 (b_ (gm (ae (aa 4) (ae (j9 (ae (aa 5) aj)) (ae (j9 (ae (aa 9) aj)) aj)))))))))
def wX:=cB 11 (IG)
def nS:ah ["_law_script","_law_at","_law_ladder_here","_law_spread","_law_places","_law_ways","_law_k","_law_base_here","_law_rule_here","_law_begins","_law_worth"] ["_law_script","_law_at","_law_ladder_here","_law_spread"] (bj (top 42)):=dz (by decide +kernel)
def XX(B:Bt mg)(hV:aE P w K mg base 2 "_law_pick" 3 dM)(Ds:aE P w K mg base 3 "_law_rule" 3 sx)(XY:aE P w K mg base 4 "_law_spread_rule" 3 Dr)(a:At K mg "_law_chart" (top 42) ["_law_script","_law_at","_law_ladder_here","_law_spread"]):aE P w K mg base 5 "_law_chart" 4 (wX):=
 aE.da a nS fun _ _ _ _ _ _ _ hr=>
  aT (bW (i:=4) nS.nd rfl (Or.inl rfl) (dH a_ (bB hV hr (by decide) (aP 0 rfl rfl (aP 1 rfl rfl (cE au))))))
  (aT (bW (i:=5) nS.nd rfl (Or.inl rfl) (eR au))
  (aT (ip QO rfl (gq B.az (aA (bB hV hr (by decide) (aP 0 rfl rfl (aA (dH (aG 1 rfl rfl) a_) (cE au) fM))) au cu)) (cH (i:=6) (show 0<=6 by decide) nS.nd rfl (Or.inl rfl)) (aT (bW (i:=7) nS.nd rfl (Or.inl rfl) (dH (dH (aG 1 rfl rfl) a_) (nz a_ (aG 6 rfl rfl))))
  (aT (bW (i:=8) nS.nd rfl (Or.inl rfl) (bB Ds hr (by decide) (aP 0 rfl rfl (aA (dH (aG 7 rfl rfl) a_) (aP 2 rfl rfl au) fM))))
  (aT (ij (tR (aG 3 rfl rfl)) (aZ (bW (i:=8) nS.nd rfl (Or.inl rfl) (bB XY hr (by decide) (aP 0 rfl rfl (aA (dH (aG 7 rfl rfl) a_) (aP 2 rfl rfl au) fM))))) iG)
  (aZ (jj (nF (ql 5 rfl rfl) (aA (j3 (aA (bB hV hr (by decide) (aP 0 rfl rfl (aP 7 rfl rfl (aP 4 rfl rfl au)))) (aA (bB hV hr (by decide) (aP 0 rfl rfl (aA (dH (aG 7 rfl rfl) a_) (aP 4 rfl rfl au) fM))) (aP 8 rfl rfl au) cu) cu)) au BE))))))))
  (aT (bW (i:=9) nS.nd rfl (Or.inl rfl) (eR au))
  (aT (ip QO rfl (gq B.az (aA (bB hV hr (by decide) (aP 0 rfl rfl (aA (dH (aG 1 rfl rfl) a_) (cE au) fM))) au cu)) (cH (i:=6) (show 0<=6 by decide) nS.nd rfl (Or.inl rfl)) (aT (bW (i:=10) nS.nd rfl (Or.inl rfl) (bB hV hr (by decide) (aP 0 rfl rfl (aA (dH (dH (aG 1 rfl rfl) a_) (nz a_ (aG 6 rfl rfl))) (aA (fE B.aX (ql 2 rfl rfl)) au cu) fM))))
  (aZ (jj (nF (ql 9 rfl rfl) (aA (j3 (aA (bB hV hr (by decide) (aP 0 rfl rfl (aA (dH (dH (aG 1 rfl rfl) a_) (nz a_ (aG 6 rfl rfl))) (aP 4 rfl rfl au) fM))) (aP 10 rfl rfl au) cu)) au BE))))))
  (aZ (cA (j3 (aP 4 rfl rfl (aA (rn B.cF Zw (aP 5 rfl rfl au)) (aA (rn B.cF Zw (aP 9 rfl rfl au)) au cu) cu)))))))))
def IH:aJ:=aH (bh 1 (eS 1 (cX (ae (aI 0 (eC (.int 0))) aj)) (aL 2) fL (gm (ae (eC (.str "place")) (ae (aa 2) aj))) false))
 (b_ (jq (aa 1) (eS 1 (cX (ae (eB vm (ae (aI 0 (eC (.int 2))) aj)) aj)) (aL 2) fL (gm (ae (eC (.str "begin")) (ae (aa 2) aj))) false)))
def sy:=cB 2 (IH)
def II:ah ["chart","places"] ["chart"] (bj (top 17)):=dz (by decide +kernel)
abbrev Dt:List Str:=["chart","places","number"]
def IJ:(Dt).Nodup:=by decide +kernel
def XZ(B:Bt mg)(a:At K mg "all_starts" (top 17) ["chart"]):aE P w K mg base 1 "all_starts" 1 (sy):=
 aE.da a II fun _ _ _ _ _ _ _ hr=>
  aT (Bk (i:=1) (k:=1) (N':=Dt) false II.nd rfl (Or.inl rfl) rfl rfl ⟨rfl,by decide +kernel,rfl,rfl,rfl⟩ (gq B.az (aA (bZ (ql 0 rfl rfl) a_) au iJ)) (fun _ _ _ _=>cH (i:=2) (show 2<=2 by decide) IJ rfl (Or.inl rfl) (Or.inr rfl)) (fun _ _ _ _=>nE) (fun _ _ _ _=>j3 (aA l8 (aA (cy (qv 2)) au gu) lj)))
  (aZ (cA (yK (aG 1 rfl rfl) (j5 (k:=1) (N':=Dt) false rfl ⟨rfl,by decide +kernel,rfl,rfl,rfl⟩ (gq B.az (aA (O7 B.aX (aA (bZ (ql 0 rfl rfl) a_) au iJ)) au cu)) (fun _ _ _ _=>cH (i:=2) (show 2<=2 by decide) IJ rfl (Or.inl rfl) (Or.inr rfl)) (fun _ _ _ _=>nE) (fun _ _ _ _=>j3 (aA l8 (aA (cy (qv 2)) au gu) lj))))))
def IK:aJ:=b_ (eS 2 (vH (ae (aI 0 (eC (.int 1))) aj)) (mj (du (aL 2) (du (aL 3) kQ))) (bA (e2 eJ (aI 3 (eC (.int 0))) (aa 1))) (aa 2) false)
def sA:=cB 2 (IK)
def X0:ah ["chart","place"] ["chart","place"] (bj (top 19)):=dz (by decide +kernel)
abbrev IL:List Str:=["chart","place","number","way"]
def IM:(IL).Nodup:=by decide +kernel
def X1(B:Bt mg)(a:At K mg "ways_from" (top 19) ["chart","place"]):aE P w K mg base 1 "ways_from" 2 (sA):=
 aE.da a X0 fun _ _ _ _ _ _ _ hr=>
  aZ (cA (j5 (k:=2) (N':=IL) false rfl ⟨rfl,by decide +kernel,rfl,rfl,rfl⟩ (Rr B.iY (aA (bZ (ql 0 rfl rfl) a_) au iJ)) (fun _ _ _ _=>yE (n:=2) rfl (nI (cH (i:=2) (show 2<=2 by decide) IM rfl (Or.inl rfl) (Or.inr rfl)) (nI (cH (i:=3) (show 2<=3 by decide) IM rfl (Or.inl rfl) (Or.inr rfl)) yD)) FT) (fun _ _ _ _=>rl (oK hr (bZ (qv 3) a_) (cy (qv 1)))) (fun _ _ _ _=>cy (qv 2))))
def IP:aJ:=aH (bh 3 (fh (aI 0 (eC (.int 1))) (aa 2)))
 (b_ (gm (ae (aI 3 (eC (.int 1))) (ae (fh (aI 3 (eC (.int 2))) (aI 1 (eC (.int 1)))) aj))))
def uh:=cB 4 (IP)
def IQ:ah ["chart","state","number","way"] ["chart","state","number"] (bj (top 20)):=dz (by decide +kernel)
def X2(B:Bt mg)(a:At K mg "led_on" (top 20) ["chart","state","number"]):aE P w K mg base 1 "led_on" 3 (uh):=
 aE.da a IQ fun _ _ _ _ _ _ _ hr=>
  aT (bW (i:=3) IQ.nd rfl (Or.inl rfl) (jB (bZ (ql 0 rfl rfl) a_) (aG 2 rfl rfl)))
  (aZ (cA (j3 (aA (bZ (ql 3 rfl rfl) a_) (aA (jB (bZ (ql 3 rfl rfl) a_) (bZ (ql 1 rfl rfl) a_)) au iJ) iJ))))
abbrev wY:aJ:=aH (bh 7 (aS uh 3 (ae (aa 0) (ae (aa 4) (ae (aa 6) aj)))))
 (fD (bA (zi (aa 7) 1)) (wB 3 (aa 7) (gm (ae (aI 5 (eC (.int 0))) (ae (jq (aI 5 (eC (.int 1))) (dm (ae (aa 6) aj))) aj)))) ig)
abbrev Du:aJ:=aH (bh 5 (ub 1 (aa 4)))
 (fm (eI (aS sA 2 (ae (aa 0) (ae (aI 4 (eC (.int 0))) aj)))) (aL 6) wY)
def IS:aJ:=aH (bh 3 CY)
 (aH (fm (eI (aa 2)) (aL 4) Du)
 (zj 3))
def ui:=cB 8 (IS)
def uj:ah ["chart","paths","newest","longer","state","path","number","reached"] ["chart","paths","newest"] (bj (top 22)):=dz (by decide +kernel)
def X3(B:Bt mg)(X4:aE P w K mg base 1 "ways_from" 2 sA)(X5:aE P w K mg base 1 "led_on" 3 uh)(a:At K mg "longer_paths" (top 22) ["chart","paths","newest"]):aE P w K mg base 2 "longer_paths" 3 (ui):=
 aE.da a uj fun _ _ _ _ _ _ _ hr=>
  aT (bW (i:=3) uj.nd rfl (Or.inl rfl) Hk)
  (aT (ip QO rfl (lh (aG 2 rfl rfl)) (cH (i:=4) (show 0<=4 by decide) uj.nd rfl (Or.inl rfl)) (aT (bW (i:=5) uj.nd rfl (Or.inl rfl) (UC hr (ql 1 rfl rfl) (aG 4 rfl rfl)))
  (aZ (ip QO rfl (lh (bB X4 hr (by decide) (aP 0 rfl rfl (aA (bZ (ql 4 rfl rfl) a_) au iJ)))) (cH (i:=6) (show 0<=6 by decide) uj.nd rfl (Or.inl rfl)) (aT (bW (i:=7) uj.nd rfl (Or.inl rfl) (bB X5 hr (by decide) (aP 0 rfl rfl (aP 4 rfl rfl (aP 6 rfl rfl au)))))
  (aZ (ij (U_ hr (aG 7 rfl rfl) (ql 1 rfl rfl)) (aZ (UD hr (ql 3 rfl rfl) (aG 7 rfl rfl) (j3 (aA (bZ (ql 5 rfl rfl) a_) (aA (yK (bZ (ql 5 rfl rfl) a_) (eR (aP 6 rfl rfl au))) au fM) iJ)))) iG)))))))
  (aZ (Hs (ql 3 rfl rfl))))
def IU:aJ:=b_ (FI (ae (aa 0) aj))
def wZ:=cB 1 (IU)
def X6:ah ["many"] ["many"] (bj (top 12)):=dz (by decide +kernel)
def X7(B:Bt mg)(a:At K mg "row_of_least" (top 12) ["many"]):aE P w K mg base 1 "row_of_least" 1 (wZ):=
 aE.da a X6 fun _ _ _ _ _ _ _ hr=>
  aZ (cA (Pd rfl B.cF Zw B.az (aP 0 rfl rfl au)))
def IV:aJ:=b_ (By (aa 0) (ae (aS wZ 1 (ae (cq 0) aj)) aj))
def w9:=cB 1 (IV)
def X8:ah ["ladder"] ["ladder"] (bj (top 13)):=dz (by decide +kernel)
def X9(B:Bt mg)(X_:aE P w K mg base 1 "row_of_least" 1 wZ)(a:At K mg "least_of" (top 13) ["ladder"]):aE P w K mg base 2 "least_of" 1 (w9):=
 aE.da a X8 fun _ _ _ _ _ _ _ hr=>
  aZ (cA (Pl hr (aG 0 rfl rfl) (aA (bB X_ hr (by decide) (aA (fE B.aX (ql 0 rfl rfl)) au cu)) au cu)))
def IW:aJ:=aH (fD (bA (e2 eJ (aI 2 (eC (.int 0))) (eC (.str "place")))) (b_ (gm (ae (aI 2 (eC (.int 1))) (ae (aS w9 1 (ae (aa 0) aj)) aj)))) ig)
 (b_ (fh (aI 1 (eC (.int 2))) (aI 2 (eC (.int 1)))))
def uk:=cB 3 (IW)
def Y_:ah ["ladder","chart","start"] ["ladder","chart","start"] (bj (top 18)):=dz (by decide +kernel)
def Z_(B:Bt mg)(c30:aE P w K mg base 2 "least_of" 1 w9)(a:At K mg "started" (top 18) ["ladder","chart","start"]):aE P w K mg base 3 "started" 3 (uk):=
 aE.da a Y_ fun _ _ _ _ _ _ _ hr=>
  aT (ij (oK hr (bZ (ql 2 rfl rfl) a_) l8) (aZ (cA (j3 (aA (bZ (ql 2 rfl rfl) a_) (aA (bB c30 hr (by decide) (aP 0 rfl rfl au)) au cu) iJ)))) iG)
  (aZ (cA (jB (bZ (ql 1 rfl rfl) a_) (bZ (ql 2 rfl rfl) a_))))
abbrev Dv:aJ:=aH (bh 5 (wF ui 2 (aa 1) (aa 4)))
 (aH (fj (zh 2 5))
 (bh 4 (uc 5)))
abbrev Dw:aJ:=fj (sf 2 (aS uk 3 (ae (aa 0) (ae (aa 1) (ae (aa 3) aj)))) (gm (ae (aa 3) (ae (dm aj) aj))))
def IX:aJ:=aH (bh 2 CY)
 (aH (fm (eI (aS sy 1 (ae (aa 1) aj))) (aL 3) Dw)
 (aH (bh 4 (uc 2))
 (aH (rF (l_ (aa 4)) Dv)
 (zj 2))))
def sC:=cB 6 (IX)
def um:ah ["ladder","chart","paths","start","newest","further"] ["ladder","chart"] (bj (top 21)):=dz (by decide +kernel)
def x9a(B:Bt mg)(c25:aE P w K mg base 1 "all_starts" 1 sy)(c38:aE P w K mg base 3 "started" 3 uk)(c32:aE P w K mg base 2 "longer_paths" 3 ui)(a:At K mg "shortest_paths" (top 21) ["ladder","chart"]):aE P w K mg base 4 "shortest_paths" 2 (sC):=
 aE.da a um fun _ _ _ _ _ _ _ hr=>
  aT (bW (i:=2) um.nd rfl (Or.inl rfl) Hk)
  (aT (ip QO rfl (lh (bB c25 hr (by decide) (aP 1 rfl rfl au))) (cH (i:=3) (show 0<=3 by decide) um.nd rfl (Or.inl rfl)) (aZ (jj (U4 hr (ql 2 rfl rfl) (bB c38 hr (by decide) (aP 0 rfl rfl (aP 1 rfl rfl (aP 3 rfl rfl au)))) (j3 (aP 3 rfl rfl (aA (eR au) au pQ)))))))
  (aT (bW (i:=4) um.nd rfl (Or.inl rfl) (Hr rfl B.eV ZV (ql 2 rfl rfl)))
  (aT (BJ QO (tR (aG 4 rfl rfl)) (aT (bW (i:=5) um.nd rfl (Or.inl rfl) (Wd c32 hr (by decide) (aG 1 rfl rfl) (ql 2 rfl rfl) (aG 4 rfl rfl)))
  (aT (jj (U7 hr (ql 2 rfl rfl) (ql 5 rfl rfl)))
  (aZ (bW (i:=4) um.nd rfl (Or.inl rfl) (Hr rfl B.eV ZV (ql 5 rfl rfl)))))))
  (aZ (Hs (ql 2 rfl rfl))))))
def IY:aJ:=b_ (wD (aS sC 2 (ae (aa 0) (ae (aa 1) aj))))
def w_:=cB 2 (IY)
def z0s:ah ["ladder","chart"] ["ladder","chart"] (bj (top 23)):=dz (by decide +kernel)
def z3t(B:Bt mg)(c37:aE P w K mg base 4 "shortest_paths" 2 sC)(a:At K mg "states" (top 23) ["ladder","chart"]):aE P w K mg base 5 "states" 2 (w_):=
 aE.da a z0s fun _ _ _ _ _ _ _ hr=>
  aZ (cA (V_ rfl B.cx (bB c37 hr (by decide) (aP 0 rfl rfl (aP 1 rfl rfl au)))))
abbrev uo:aJ:=fD (q9 (bA (e2 eJ (aa 6) (aa 4))) (bA (pW (gm (ae (aa 7) (ae (aI 8 (aa 5)) aj))) 2))) (fj (jo 2 (ae (gm (ae (aa 7) (ae (aI 8 (aa 5)) aj))) aj))) (ig)
abbrev Dx:aJ:=aH (vD (aI 2 (aa 3)) (mj (du (aL 4) (du (aL 5) kQ))))
 (aH (fm (eI (aI 1 (eC (.int 1)))) (mj (du (aL 6) (du (aL 7) (du (aL 8) kQ)))) uo)
 (bh 3 (e2 cm (aa 3) (eC (.int 1)))))
def IZ:aJ:=aH (bh 2 (eS 1 (cX (ae (aI 1 (eC (.int 0))) aj)) (aL 9) fL (gm (ae (aa 9) (ae (aS nR 1 (ae (aa 0) aj)) aj))) false))
 (aH (fj (tV 2 (eS 1 (eI (aI 1 (eC (.int 2)))) (aL 9) (bA (pW (aa 9) 2)) (aa 9) false)))
 (aH (bh 2 (y9 (aa 2)))
 (aH (bh 3 (eC (.int 0)))
 (aH (rF (bA (e2 j4 (aa 3) (cq 2))) Dx)
 (b_ (CS (aa 2)))))))
def xa:=cB 9 (IZ)
def nT:ah ["_law_ladder_here","_law_chart_here","_law_found","_law_at","_law_place","_law_worth","_law_start","_law_goal","_law_rule_here"] ["_law_ladder_here","_law_chart_here"] (bj (top 44)):=dz (by decide +kernel)
abbrev I0:List Str:=["_law_ladder_here","_law_chart_here","_law_found","_law_at","#4","_law_worth","_law_start","_law_goal","_law_rule_here","_law_place"]
def y0i:(I0).Nodup:=by decide +kernel
abbrev I_:List Str:=["_law_ladder_here","_law_chart_here","_law_found","_law_at","_law_place","_law_worth","_law_start","_law_goal","_law_rule_here","_law_begin"]
def y0c:(I_).Nodup:=by decide +kernel
def y3m(B:Bt mg)(wW:aE P w K mg base 1 "_law_low" 1 nR)(a:At K mg "_law_states" (top 44) ["_law_ladder_here","_law_chart_here"]):aE P w K mg base 2 "_law_states" 2 (xa):=
 aE.da a nT fun _ _ _ _ _ _ _ hr=>
  aT (bW (i:=2) nT.nd rfl (Or.inr rfl) (j5 (k:=1) (N':=I0) false rfl ⟨rfl,by decide +kernel,rfl,rfl,rfl⟩ (gq B.az (aA (bZ (ql 1 rfl rfl) a_) au iJ)) (fun _ _ _ _=>cH (i:=9) (show 9<=9 by decide) y0i rfl (Or.inl rfl) (Or.inr rfl)) (fun _ _ _ _=>nE) (fun _ _ _ _=>j3 (aA (cy (qv 9)) (aA (bB wW hr (by decide) (aA (cy (qv 0)) au gu)) au cu) gu))))
  (aT (jj (FY (qv 2) (j5 (k:=1) (N':=I_) false rfl ⟨rfl,by decide +kernel,rfl,rfl,rfl⟩ (lh (bZ (ql 1 rfl rfl) a_)) (fun _ _ _ _=>cH (i:=9) (show 9<=9 by decide) y0c rfl (Or.inl rfl) (Or.inr rfl)) (fun _ _ _ _=>rl (Gx hr (cy (qv 9)) (qv 2))) (fun _ _ _ _=>cy (qv 9)))))
  (aT (bW (i:=2) nT.nd rfl (Or.inr rfl) (TU rfl hr B.cx B.iZ (cy (qv 2))))
  (aT (bW (i:=3) nT.nd rfl (Or.inl rfl) a_)
  (aT (BJ QO (vi (aG 3 rfl rfl) (fE B.aX (qv 2))) (aT (P1 (bZ (qv 2) (aG 3 rfl rfl)) (yE (n:=2) rfl (nI (cH (i:=4) (show 0<=4 by decide) nT.nd rfl (Or.inl rfl)) (nI (cH (i:=5) (show 0<=5 by decide) nT.nd rfl (Or.inl rfl)) yD)) FT))
  (aT (ip QO rfl (lh (bZ (ql 1 rfl rfl) a_)) (yE (n:=3) rfl (nI (cH (i:=6) (show 0<=6 by decide) nT.nd rfl (Or.inl rfl)) (nI (cH (i:=7) (show 0<=7 by decide) nT.nd rfl (Or.inl rfl)) (nI (cH (i:=8) (show 0<=8 by decide) nT.nd rfl (Or.inl rfl)) yD))) FW) (aZ (ij (C3 (OA (oK hr (aG 6 rfl rfl) (aG 4 rfl rfl)) (Oz (Gx hr (j3 (aP 7 rfl rfl (aA (bZ (ql 8 rfl rfl) (aG 5 rfl rfl)) au iJ))) (qv 2))))) (aZ (jj (nF (qv 2) (aA (j3 (aP 7 rfl rfl (aA (bZ (ql 8 rfl rfl) (aG 5 rfl rfl)) au iJ))) au BE)))) iG)))
  (aZ (bW (i:=3) nT.nd rfl (Or.inl rfl) (dH (aG 3 rfl rfl) a_))))))
  (aZ (cA (TY B.cx (cy (qv 2)))))))))
def y63:aJ:=aH (bh 1 (dm (ae (pV ["NoPlace"] "NoHouse" (aa 0)) (ae (pV ["NoPlace"] "NoMap" (aa 0)) (ae (pV ["NoPlace"] "NoPlace" (aa 0)) (ae (pV ["NoPlace"] "NoRule" (aa 0)) aj))))))
 (aH (fj (tV 1 (dm (ae (pV ["NoPlace"] "NoStep" (aa 0)) (ae (pV ["NoPlace"] "TooGreat" (aa 0)) aj)))))
 (aH (fD (yt (bA (e2 g7 (B5 (aa 1) (ae (eC (.bl true)) aj)) (eC (.int 1)))) (oF (l_ (B3 (aa 0))))) (b_ (eC (.str "wrong"))) ig)
 (b_ (fh (dm (ae (eC (.str "no house")) (ae (eC (.str "no map")) (ae (eC (.str "no place")) (ae (eC (.str "no rule")) (ae (eC (.str "no step")) (ae (eC (.str "too great")) aj))))))) (B6 (aa 1) (ae (eC (.bl true)) aj))))))
def zG:=cB 2 (y63)
def J_:ah ["_law_kept","_law_kinds"] ["_law_kept"] (bj (top 43)):=dz (by decide +kernel)
def y6g(B:Bt mg)(T:Xt K mg)(a:At K mg "_law_word" (top 43) ["_law_kept"]):aE P w K mg base 1 "_law_word" 1 (zG):=
 aE.da a J_ fun _ _ _ _ _ _ _ hr=>
  aT (bW (i:=1) J_.nd rfl (Or.inl rfl) (eR (aA (tY T.k4 B.aN (aG 0 rfl rfl)) (aA (tY T.pd B.aN (aG 0 rfl rfl)) (aA (tY T.k6 B.aN (aG 0 rfl rfl)) (aA (tY T.mR B.aN (aG 0 rfl rfl)) au cu) cu) cu) cu)))
  (aT (jj (FY (ql 1 rfl rfl) (eR (aA (tY T.mU B.aN (aG 0 rfl rfl)) (aA (tY T.jP B.aN (aG 0 rfl rfl)) au cu) cu))))
  (aT (ij (C3 (Fi (tS hr (RW hr (aG 1 rfl rfl) (aA oC au lj)) a_) (Fh (yr (tR (RN B.aN B.ix (aG 0 rfl rfl))))))) (aZ (cA l8)) iG)
  (aZ (cA (jB (eR (aA l8 (aA l8 (aA l8 (aA l8 (aA l8 (aA l8 au lj) lj) lj) lj) lj) lj)) (RX hr (aG 1 rfl rfl) (aA oC au lj)))))))
def Ka:aJ:=b_ (yC (yF .int (aa 0)) (BC (yF .bool (aa 0))))
def xf:=cB 1 (Ka)
def y6y:ah ["thing"] ["thing"] (bj (top 9)):=dz (by decide +kernel)
def y8o(B:Bt mg)(a:At K mg "is_whole" (top 9) ["thing"]):aE P w K mg base 1 "is_whole" 1 (xf):=
 aE.da a y6y fun _ _ _ _ _ _ _ hr=>
  aZ (cA (FR (FV .int B.aN B.wO PyProof.Rows.boot_int (aG 0 rfl rfl)) (FQ (Pt (FV .bool B.aN B.sk PyProof.Rows.boot_bool (aG 0 rfl rfl))))))
def Kb:aJ:=b_ (yC (aS xf 1 (ae (aa 0) aj)) (nJ vh j4 (eC (.int 0)) (aa 0) (aa 1)))
def qq:=cB 2 (Kb)
def y02:ah ["thing","many"] ["thing","many"] (bj (top 10)):=dz (by decide +kernel)
def y16(B:Bt mg)(c29:aE P w K mg base 1 "is_whole" 1 xf)(a:At K mg "is_number_of" (top 10) ["thing","many"]):aE P w K mg base 2 "is_number_of" 2 (qq):=
 aE.da a y02 fun _ _ _ _ _ _ _ hr=>
  aZ (cA (FR (bB c29 hr (by decide) (aP 0 rfl rfl au)) (FQ (PY a_ (aG 0 rfl rfl) (aG 1 rfl rfl)))))
def Kc:aJ:=fD (oF (l_ (aS qq 2 (ae (aa 1) (ae (aa 0) aj))))) FZ (ig)
def sD:=cB 2 (Kc)
def Kd:ah ["places","place"] ["places","place"] (bj (top 15)):=dz (by decide +kernel)
def x8i(B:Bt mg)(Dy:aE P w K mg base 2 "is_number_of" 2 qq)(a:At K mg "refuse_no_place" (top 15) ["places","place"]):aE P w K mg base 3 "refuse_no_place" 2 (sD):=
 aE.da a Kd fun _ _ _ _ _ _ _ hr=>
  aZ (ij (yr (tR (bB Dy hr (by decide) (aP 1 rfl rfl (aP 0 rfl rfl au))))) (aZ Ra) iG)
def Ke:g8:=vR (oF (l_ (aS qq 2 (ae (aa 1) (ae (aa 0) aj))))) (Gf "NoPlace") (Ge)
def sE:List D->Option Str:=fnX 2 Ke
def x89(B:Bt mg)(T:Xt K mg)(Dy:aE P w K mg base 2 "is_number_of" 2 qq)(a:At K mg "refuse_no_place" (top 15) ["places","place"]):kS P w K mg base 3 "refuse_no_place" 2 sE:=
 kS.da (k:=2) a Kd fun _ _ _ _ _ _ _ hr=>
  B7 (R3 (yr (tR (bB Dy hr (by decide) (aP 1 rfl rfl (aP 0 rfl rfl au))))) (B7 (R6 hr T.kZ)) R1)
def Kf:aJ:=b_ (eS 3 (eI (aI 0 (eC (.int 1)))) (mj (du (aL 2) (du (aL 3) (du (aL 4) kQ)))) (bA (e2 jG (aa 2) (aa 1))) (aa 3) false)
def mV:=cB 2 (Kf)
def y2g:ah ["chart","places"] ["chart","places"] (bj (top 25)):=dz (by decide +kernel)
abbrev Kg:List Str:=["chart","places","start","goal","rule"]
def Dz:(Kg).Nodup:=by decide +kernel
def y56(B:Bt mg)(a:At K mg "goals_from" (top 25) ["chart","places"]):aE P w K mg base 1 "goals_from" 2 (mV):=
 aE.da a y2g fun _ _ _ _ _ _ _ hr=>
  aZ (cA (j5 (k:=3) (N':=Kg) false rfl ⟨rfl,by decide +kernel,rfl,rfl,rfl⟩ (lh (bZ (ql 0 rfl rfl) a_)) (fun _ _ _ _=>yE (n:=3) rfl (nI (cH (i:=2) (show 2<=2 by decide) Dz rfl (Or.inl rfl) (Or.inr rfl)) (nI (cH (i:=3) (show 2<=3 by decide) Dz rfl (Or.inl rfl) (Or.inr rfl)) (nI (cH (i:=4) (show 2<=4 by decide) Dz rfl (Or.inl rfl) (Or.inr rfl)) yD))) FW) (fun _ _ _ _=>rl (Bl hr (cy (qv 2)) (cy (qv 1)))) (fun _ _ _ _=>cy (qv 3))))
abbrev y13:aJ:=aH (bh 3 (aa 2))
 (bh 2 (lD (jq (aa 3) (aS mV 2 (ae (aa 0) (ae (aa 3) aj))))))
def Kh:aJ:=aH (bh 2 (aa 1))
 (aH (bh 3 (eC .aK))
 (aH (rF (bA (e2 g7 (aa 2) (aa 3))) y13)
 (b_ (aa 2))))
def uq:=cB 4 (Kh)
def xg:ah ["chart","places","reached","ahead"] ["chart","places"] (bj (top 27)):=dz (by decide +kernel)
def y2t(B:Bt mg)(DA:aE P w K mg base 1 "goals_from" 2 mV)(a:At K mg "all_reached" (top 27) ["chart","places"]):aE P w K mg base 2 "all_reached" 2 (uq):=
 aE.da a xg fun _ _ _ _ _ _ _ hr=>
  aT (bW (i:=2) xg.nd rfl (Or.inl rfl) (aG 1 rfl rfl))
  (aT (bW (i:=3) xg.nd rfl (Or.inl rfl) ym)
  (aT (BJ QO (tS hr (aG 2 rfl rfl) (aG 3 rfl rfl)) (aT (bW (i:=3) xg.nd rfl (Or.inl rfl) (aG 2 rfl rfl))
  (aZ (bW (i:=2) xg.nd rfl (Or.inl rfl) (zr rfl B.cx B.iZ (yK (aG 3 rfl rfl) (bB DA hr (by decide) (aP 0 rfl rfl (aP 3 rfl rfl au)))))))))
  (aZ (cA (aG 2 rfl rfl)))))
def Ki:aJ:=aH (fj (aS sD 2 (ae (aI 0 (eC (.int 0))) (ae (aa 1) aj))))
 (b_ (aS uq 2 (ae (aa 0) (ae (dm (ae (aa 1) aj)) aj))))
def xh:=cB 2 (Ki)
def Kj:ah ["chart","place"] ["chart","place"] (bj (top 26)):=dz (by decide +kernel)
def x9d(B:Bt mg)(DB:aE P w K mg base 3 "refuse_no_place" 2 sD)(c24:aE P w K mg base 2 "all_reached" 2 uq)(a:At K mg "places_reached" (top 26) ["chart","place"]):aE P w K mg base 4 "places_reached" 2 (xh):=
 aE.da a Kj fun _ _ _ _ _ _ _ hr=>
  aT (jj (bB DB hr (by decide) (aA (bZ (ql 0 rfl rfl) a_) (aP 1 rfl rfl au) iJ)))
  (aZ (cA (bB c24 hr (by decide) (aP 0 rfl rfl (aA (eR (aP 1 rfl rfl au)) au pQ)))))
def DC:g8:=BV sE 2 (ae (aI 0 (eC (.int 0))) (ae (aa 1) aj))
def mW:List D->Option Str:=fnX 2 DC
def x8o(B:Bt mg)(T:Xt K mg)(c42:kS P w K mg base 3 "refuse_no_place" 2 sE)(a:At K mg "places_reached" (top 26) ["chart","place"]):kS P w K mg base 4 "places_reached" 2 mW:=
 kS.da (k:=3) a Kj fun _ _ _ _ _ _ _ hr=>
  B7 (R5 (R7 c42 hr (by decide) (aA (bZ (ql 0 rfl rfl) a_) (aP 1 rfl rfl au) iJ)))
def DD:aJ:=aH (bh 2 (eC .aK))
 (aH (bh 3 (eC .aK))
 (aH (vU ["NoPlace"] (bh 3 (aS xh 2 (ae (aa 0) (ae (aa 1) aj)))) (vT mW 2 (ae (aa 0) (ae (aa 1) aj))) 4 2)
 (aH (fD (bA (e2 yN (aa 2) (eC .aK))) (b_ (aa 3)) ig)
 (b_ (aS zG 1 (ae (aa 2) aj))))))
def sF:=cB 5 (DD)
def xi:ah ["_law_chart_here","_law_place","_law_kept","_law_answer","e"] ["_law_chart_here","_law_place"] (bj (top 45)):=dz (by decide +kernel)
def y1i(B:Bt mg)(T:Xt K mg)(c33:aE P w K mg base 4 "places_reached" 2 xh)(c23:aE P w K mg base 1 "_law_word" 1 zG)(c41:kS P w K mg base 4 "places_reached" 2 mW)(a:At K mg "_law_reached" (top 45) ["_law_chart_here","_law_place"]):aE P w K mg base 5 "_law_reached" 2 (sF):=
 aE.da a xi fun _ _ _ _ _ _ _ hr=>
  aT (bW (i:=2) xi.nd rfl (Or.inl rfl) ym)
  (aT (bW (i:=3) xi.nd rfl (Or.inl rfl) ym)
  (aT (Sg (ie:=4) (ik:=2) T.u (aZ (bW (i:=3) xi.nd rfl (Or.inl rfl) (bB c33 hr (by decide) (aP 0 rfl rfl (aP 1 rfl rfl au))))) (Sa (Sb c41 hr (by decide) (aP 0 rfl rfl (aP 1 rfl rfl au)))) xi.nd rfl rfl)
  (aT (ij (RP (aG 2 rfl rfl) ym) (aZ (cA (aG 3 rfl rfl))) iG)
  (aZ (cA (bB c23 hr (by decide) (aP 2 rfl rfl au)))))))
def Kk:aJ:=aH (fj (aS sD 2 (ae (aI 0 (eC (.int 0))) (ae (aa 1) aj))))
 (b_ (lD (aS mV 2 (ae (aa 0) (ae (dm (ae (aa 1) aj)) aj)))))
def xj:=cB 2 (Kk)
def y71:ah ["chart","place"] ["chart","place"] (bj (top 24)):=dz (by decide +kernel)
def y8s(B:Bt mg)(DB:aE P w K mg base 3 "refuse_no_place" 2 sD)(DA:aE P w K mg base 1 "goals_from" 2 mV)(a:At K mg "goals_of" (top 24) ["chart","place"]):aE P w K mg base 4 "goals_of" 2 (xj):=
 aE.da a y71 fun _ _ _ _ _ _ _ hr=>
  aT (jj (bB DB hr (by decide) (aA (bZ (ql 0 rfl rfl) a_) (aP 1 rfl rfl au) iJ)))
  (aZ (cA (zr rfl B.cx B.iZ (bB DA hr (by decide) (aP 0 rfl rfl (aA (eR (aP 1 rfl rfl au)) au pQ))))))
abbrev ur:aJ:=bh 4 (lD (jq (aa 4) (eS 1 (eI (aI 2 (eC (.int 1)))) (aL 6) (bA (e2 jG (aI 6 (eC (.int 0))) (aa 4))) (aI 6 (eC (.int 1))) false)))
abbrev uu:aJ:=aH (bh 4 (dm (ae (aa 3) aj)))
 (aH (fm (cX (ae (aI 2 (eC (.int 0))) aj)) (aL 5) ur)
 (aH (fD (oF (bA (nJ vh j4 (eC (.int 0)) (aa 3) (aI 2 (eC (.int 0)))))) (bh 4 (eC (.str "no place"))) (fD (bA (e2 g7 (aS xj 2 (ae (aa 2) (ae (aa 3) aj))) (lD (eS 1 (eI (aI 2 (eC (.int 1)))) (aL 6) (bA (e2 eJ (aI 6 (eC (.int 0))) (aa 3))) (aI 6 (eC (.int 1))) false)))) (b_ (eC (.bl false))) ig))
 (fD (bA (e2 g7 (aS sF 2 (ae (aa 2) (ae (aa 3) aj))) (aa 4))) (b_ (eC (.bl false))) ig)))
def Kl:aJ:=aH (bh 1 (aS wV 2 (ae (aa 0) (ae (eC (.int 0)) aj))))
 (aH (bh 2 (aS wX 4 (ae (aa 0) (ae (eC (.int 20)) (ae (aa 1) (ae (eC (.bl false)) aj))))))
 (aH (fD (bA (e2 g7 (aS w_ 2 (ae (aa 1) (ae (aa 2) aj))) (aS xa 2 (ae (aa 1) (ae (aa 2) aj))))) (b_ (eC (.bl false))) ig)
 (aH (fm (yT (ae (yG (eC (.int 1))) (ae (e2 cm (aI 2 (eC (.int 0))) (eC (.int 2))) aj))) (aL 3) uu)
 (b_ (eC (.bl true))))))
def uv:=cB 6 (Kl)
def qr:ah ["_law_script","_law_ladder_here","_law_chart_here","_law_place","_law_due","_law_again"] ["_law_script"] (bj (top 46)):=dz (by decide +kernel)
abbrev DE:List Str:=["_law_script","_law_ladder_here","_law_chart_here","_law_place","_law_due","_law_again","_law_way"]
def Km:(DE).Nodup:=by decide +kernel
def j15(B:Bt mg)(c13:aE P w K mg base 4 "_law_ladder" 2 wV)(c10:aE P w K mg base 5 "_law_chart" 4 wX)(c39:aE P w K mg base 5 "states" 2 w_)(c21:aE P w K mg base 2 "_law_states" 2 xa)(c27:aE P w K mg base 4 "goals_of" 2 xj)(c16:aE P w K mg base 5 "_law_reached" 2 sF){f:Addr}{fd:FuncData}(F:lX K "law" "law" (top 46) f fd):dU P w K mg base jh 6 f fd ["_law_script"] (kM K 1 uv):=
 Wg (k:=5) F qr fun _ _ _ _ _ _ _ hr=>
  aT (bW (i:=1) qr.nd rfl (Or.inl rfl) (bB c13 hr (by decide) (aP 0 rfl rfl (cE au))))
  (aT (bW (i:=2) qr.nd rfl (Or.inl rfl) (bB c10 hr (by decide) (aP 0 rfl rfl (cE (aP 1 rfl rfl (aA oC au lj))))))
  (aT (ij (tS hr (bB c39 hr (by decide) (aP 1 rfl rfl (aP 2 rfl rfl au))) (bB c21 hr (by decide) (aP 1 rfl rfl (aP 2 rfl rfl au)))) (aZ (cA oC)) iG)
  (aT (ip QO rfl (Sr B.az (aA (PZ a_) (aA (dH (bZ (ql 2 rfl rfl) a_) a_) au fM) Pu)) (cH (i:=3) (show 0<=3 by decide) qr.nd rfl (Or.inr rfl)) (aT (bW (i:=4) qr.nd rfl (Or.inr rfl) (eR (aA (cy (qv 3)) au gu)))
  (aT (ip QO rfl (gq B.az (aA (bZ (ql 2 rfl rfl) a_) au iJ)) (cH (i:=5) (show 0<=5 by decide) qr.nd rfl (Or.inl rfl)) (aZ (bW (i:=4) qr.nd rfl (Or.inr rfl) (zr rfl B.cx B.iZ (yK (cy (qv 4)) (j5 (k:=1) (N':=DE) false rfl ⟨rfl,by decide +kernel,rfl,rfl,rfl⟩ (lh (bZ (ql 2 rfl rfl) a_)) (fun _ _ _ _=>cH (i:=6) (show 6<=6 by decide) Km rfl (Or.inl rfl) (Or.inr rfl)) (fun _ _ _ _=>rl (Bl hr (bZ (qv 6) a_) (cy (qv 4)))) (fun _ _ _ _=>bZ (qv 6) a_)))))))
  (aT (ij (yr (Q_ a_ (cy (qv 3)) (bZ (ql 2 rfl rfl) a_))) (aZ (bW (i:=4) qr.nd rfl (Or.inr rfl) l8)) (aZ (ij (tS hr (bB c27 hr (by decide) (aP 2 rfl rfl (aA (cy (qv 3)) au gu))) (zr rfl B.cx B.iZ (j5 (k:=1) (N':=DE) false rfl ⟨rfl,by decide +kernel,rfl,rfl,rfl⟩ (lh (bZ (ql 2 rfl rfl) a_)) (fun _ _ _ _=>cH (i:=6) (show 6<=6 by decide) Km rfl (Or.inl rfl) (Or.inr rfl)) (fun _ _ _ _=>rl (oK hr (bZ (qv 6) a_) (cy (qv 3)))) (fun _ _ _ _=>bZ (qv 6) a_)))) (aZ (cA oC)) iG)))
  (aZ (ij (tS hr (bB c16 hr (by decide) (aP 2 rfl rfl (aA (cy (qv 3)) au gu))) (cy (qv 4))) (aZ (cA oC)) iG))))))
  (aZ (cA oC)))))
end
abbrev dB (ns:List Int):D:=.lst (ns.map D.int)
abbrev n0 (l:List Int):OD:=some (dB l,0)
def zH (ns:List Int)(k:Int):Int:=if k<ns.length then ns.getD k.toNat 0 else if ns=[]then 0 else ns.getD (k % ns.length).toNat 0*31+k
def Kn{ns:List Int}{k:Int}(h0:0<=k)(h:k<ns.length):L2.dW (ns.map D.int) k=some (.int (ns.getD k.toNat 0)):=by
 obtain⟨m,rfl⟩:∃ m:Nat,k=Int.ofNat m:=⟨k.toNat,by show k=(k.toNat:Int);omega⟩
 have hk:m<ns.length:=by have:(m:Int)<ns.length:=h;omega
 apply uf
 rw[Ql,Qb hk]
 simp[hk]
def j2u(ns:List Int):Sh 1 (dB ns):=.lst fun d m=>by
 obtain⟨x,_,rfl⟩:=Qx.mp m
 exact .int _
def Ko(ns:List Int):eJ (dB ns) (.lst [])=some (.bl (decide (ns=[]))):=by
 unfold eJ
 rw[Qi ⟨(j2u ns).ok,(qh []).ok⟩]
 cases ns<;>rfl
def z9m(ns:List Int)(k:Int)(h0:0<=k):wQ [dB ns,.int k]=some (.int (zH ns k),9):=by
 unfold wQ Il zH
 by_cases h:k<ns.length
 ·simp[h,Kn h0 h,iI,fC]
 ·by_cases hn:ns=[]
  ·subst hn
   have h':¬ k<0:=by omega
   simp[h',iI,Ko]
  ·have hp:(0:Int)<ns.length:=by have:=Z9.mpr hn;omega
   have h1:=V9 k (Int.ne_of_gt hp)
   have h2:=Vu k hp
   have h3:=Kn h1 h2
   have jA:=Z9.mpr hn
   simp[h,iI,fC,Ko,hn,jA,h3]
def qt (ns:List Int)(k:Int):Int:=(zH ns k+6151*(k+1))*40692 % 2147483399
def ju (ns:List Int)(k m:Int):Int:=(qt ns k*qt ns k+qt ns k / 31) % 2147483629 % m
def sG(ns:List Int)(k m:Int)(h0:0<=k)(hm:0<m):dM [dB ns,.int k,.int m]=some (.int (ju ns k m),9):=by
 have d0:0<=qt ns k:=V9 _ (by decide)
 have d1:qt ns k<2147483399:=Vu _ (by decide)
 have g1:-18446744073709551616<qt ns k:=by omega
 have g2:qt ns k<18446744073709551616:=by omega
 have hd:(zH ns k+6151*(k+1))*40692 % 2147483399=qt ns k:=rfl
 unfold dM Im ju
 simp[z9m ns k h0,hm,hd,g1,g2]
def qu(ns:List Int)(k:Int){m:Int}(hm:0<m):0<=ju ns k m:=V9 _ (Int.ne_of_gt hm)
def sH(ns:List Int)(k:Int){m:Int}(hm:0<m):ju ns k m<m:=Vu _ hm
def tf (rows:List (List Nat))(i j:Nat):Nat:=(rows.getD i []).getD j 0
def d7 (rows:List (List Nat)):D:=bK rows.length (tf rows)
def ch (n:Nat):List (List Nat):=(List.range n).map fun i=>(List.range n).map fun j=>max i j
def cp (a b:List (List Nat)):List (List Nat):=(List.range (a.length*b.length)).map fun i=>(List.range (a.length*b.length)).map fun j=>tf a (i / b.length) (j / b.length)*b.length+tf b (i % b.length) (j % b.length)
def sb (n:Nat):List (List Nat):=(List.range (n+2)).map fun i=>(List.range (n+2)).map fun j=>if i=0\/j=0\/i=j then max i j else n+1
def n5:List (List Nat):=[[0,1,2,3,4],[1,1,2,4,4],[2,2,2,4,4],[3,4,4,3,4],[4,4,4,4,4]]
def ph:List (List (List Nat)):=[ch 1,ch 2,ch 3,ch 4,ch 5,cp (ch 2) (ch 2),cp (ch 2) (ch 3),cp (ch 2) (ch 4),sb 0,sb 1,sb 2,sb 3,sb 4,cp (ch 2) (cp (ch 2) (ch 2)),n5]
def ch1:jQ [.int 1]=some (d7 (ch 1),1):=by rfl
def zI:jQ [.int 2]=some (d7 (ch 2),1):=by rfl
def Kp:jQ [.int 3]=some (d7 (ch 3),1):=by rfl
def Kq:jQ [.int 4]=some (d7 (ch 4),1):=by rfl
def ch5:jQ [.int 5]=some (d7 (ch 5),1):=by rfl
def sb0:pf [.int 0]=some (d7 (sb 0),0):=by rfl
def sb1:pf [.int 1]=some (d7 (sb 1),0):=by rfl
def sb2:pf [.int 2]=some (d7 (sb 2),0):=by rfl
def sb3:pf [.int 3]=some (d7 (sb 3),0):=by rfl
def sb4:pf [.int 4]=some (d7 (sb 4),0):=by rfl
def Kr:nQ [d7 (ch 2),d7 (ch 2)]=some (d7 (cp (ch 2) (ch 2)),0):=by rfl
def j8e:nQ [d7 (ch 2),d7 (ch 3)]=some (d7 (cp (ch 2) (ch 3)),0):=by rfl
def j85:nQ [d7 (ch 2),d7 (ch 4)]=some (d7 (cp (ch 2) (ch 4)),0):=by rfl
def j6r:nQ [d7 (ch 2),d7 (cp (ch 2) (ch 2))]=some (d7 (cp (ch 2) (cp (ch 2) (ch 2))),0):=by rfl
def z8f(ns:List Int)(t:Int)(h0:0<=t):∃ rows∈ph,∃ q,wU [dB ns,.int t]=some (d7 rows,q):=by
 have k0:=qu ns t (m:=9) (by decide)
 have k1:=sH ns t (m:=9) (by decide)
 have p0:=qu ns (t+1) (m:=5) (by decide)
 have p1:=sH ns (t+1) (m:=5) (by decide)
 have r0:=qu ns (t+1) (m:=3) (by decide)
 have r1:=sH ns (t+1) (m:=3) (by decide)
 have e9:=sG ns t 9 h0 (by decide)
 have e5:=sG ns (t+1) 5 (by omega) (by decide)
 have e3:=sG ns (t+1) 3 (by omega) (by decide)
 have mem:∀ i:Nat,i<15->ph.getD i []∈ph:=fun i hi=>by
  rw[Qf,Qb (show i<ph.length from hi)]
  exact Q4 _
 have hc:∀ p:Int,0<=p->p<5->∃ rows∈ph,jQ [.int (1+p)]=some (d7 rows,1):=fun p a b=>by
  have:p=0\/p=1\/p=2\/p=3\/p=4:=by omega
  rcases this with rfl|rfl|rfl|rfl|rfl
  ·exact⟨_,mem 0 (by decide),ch1⟩
  ·exact⟨_,mem 1 (by decide),zI⟩
  ·exact⟨_,mem 2 (by decide),Kp⟩
  ·exact⟨_,mem 3 (by decide),Kq⟩
  ·exact⟨_,mem 4 (by decide),ch5⟩
 have hs:∀ p:Int,0<=p->p<5->∃ rows∈ph,pf [.int p]=some (d7 rows,0):=fun p a b=>by
  have:p=0\/p=1\/p=2\/p=3\/p=4:=by omega
  rcases this with rfl|rfl|rfl|rfl|rfl
  ·exact⟨_,mem 8 (by decide),sb0⟩
  ·exact⟨_,mem 9 (by decide),sb1⟩
  ·exact⟨_,mem 10 (by decide),sb2⟩
  ·exact⟨_,mem 11 (by decide),sb3⟩
  ·exact⟨_,mem 12 (by decide),sb4⟩
 have hp:∀ r:Int,0<=r->r<3->∃ x mX rows,fC (.lst [.int 2,.int 3,.int 4]) r=some (.int x)/\jQ [.int x]=some (d7 mX,1)/\rows∈ph/\nQ [d7 (ch 2),d7 mX]=some (d7 rows,0):=fun r a b=>by
  have:r=0\/r=1\/r=2:=by omega
  rcases this with rfl|rfl|rfl
  ·exact⟨2,_,_,rfl,zI,mem 5 (by decide),Kr⟩
  ·exact⟨3,_,_,rfl,Kp,mem 6 (by decide),j8e⟩
  ·exact⟨4,_,_,rfl,Kq,mem 7 (by decide),j85⟩
 unfold wU Ir
 generalize ju ns t 9=k at *
 generalize ju ns (t+1) 5=p at *
 generalize ju ns (t+1) 3=r at *
 by_cases h3:k<3
 ·obtain⟨rows,hm,e⟩:=hc p p0 p1
  exact⟨rows,hm,1,by simp[e9,e5,h3,e]⟩
 by_cases h5:k<5
 ·obtain⟨x,mX,rows,ea,e1,hm,mn⟩:=hp r r0 r1
  exact⟨rows,hm,0,by simp[e9,e3,h3,h5,zI,ea,e1,mn]⟩
 by_cases h7:k<7
 ·obtain⟨rows,hm,e⟩:=hs p p0 p1
  exact⟨rows,hm,0,by simp[e9,e5,h3,h5,h7,e]⟩
 have:k=7\/k=8:=by omega
 rcases this with rfl|rfl
 ·exact⟨_,mem 13 (by decide),0,by simp[e9,HW,zI,Kr];exact j6r⟩
 ·refine⟨_,mem 14 (by decide),0,?_⟩
  simp[e9,HW]
  rfl
def z4b:∀ rows∈ph,Di rows.length (tf rows)=true:=by decide +kernel
def pk (ns:List Int)(t:Int)(k m:Nat):Nat:=(ju ns (t+2+Int.ofNat k) (Int.ofNat m)).toNat
def DF(ns:List Int)(t:Int)(k m:Nat)(h:0<m):pk ns t k m<m:=by
 have h1:=qu ns (t+2+Int.ofNat k) (m:=Int.ofNat m) (by show(0:Int)<m;omega)
 have h2:=sH ns (t+2+Int.ofNat k) (m:=Int.ofNat m) (by show(0:Int)<m;omega)
 have h3:(Int.ofNat m)=(m:Int):=rfl
 unfold pk
 omega
def j6v(ns:List Int)(t:Int)(k m:Nat)(h:0<m):ju ns (t+2+Int.ofNat k) (Int.ofNat m)=Int.ofNat (pk ns t k m):=by
 have h1:=qu ns (t+2+Int.ofNat k) (m:=Int.ofNat m) (by show(0:Int)<m;omega)
 unfold pk
 show _=((ju ns (t+2+Int.ofNat k) (Int.ofNat m)).toNat:Int)
 omega
section
variable (ns:List Int)(t:Int)(n:Nat)(B:Nat->Nat->Nat)(q:Nat)
def z3u(h0:0<=t)(hn:n<=16):jF 1 (aL 8) fL (vw 3 (ae (aS dM 3 (ae (aa 0) (ae (e2 cm (e2 cm (aa 1) (eC (.int 2))) (aa 8)) (ae (cq 3) aj)))) aj)) false (cU n)
  [(n0 ns),some (.int t,9),some (bK n B,q),some (.lst (cU n),1),none,none,none,none] =
  some (ak ((List.range n).map (drawn (pk ns t) n)),[(n0 ns),some (.int t,9),some (bK n B,q),some (.lst [],1),none,none,none,none]):=by
 have hp:=DF ns t
 have h:=ue (k:=1) (pt:=aL 8) (tt:=fL) (te:=vw 3 (ae (aS dM 3 (ae (aa 0) (ae (e2 cm (e2 cm (aa 1) (eC (.int 2))) (aa 8)) (ae (cq 3) aj)))) aj)) (deep:=false) (cU n)
  (fun k=>[(n0 ns),some (.int t,9),some (bK n B,q),(uL (left (pk ns t) n k)),none,none,none,none]) (fun _=>true) (fun k=>(iD (drawn (pk ns t) n k))) (fun k hk=>?_)
 ·rw[gp]at h
  have hl:left (pk ns t) n n=[]:=ZQ.mp (by rw[wK hp n (Qg n)];omega)
  rw[hl]at h
  have e1:(List.range n).filter (fun _=>true)=List.range n:=by simp
  rw[e1]at h
  simp only[ak,Q7,Function.comp_def]
  exact h
 ·rw[gp]at hk
  have hl:=wK hp k (ZN hk)
  have Ks:0<(left (pk ns t) n k).length:=by rw[hl];omega
  have e:=j6v ns t k _ Ks
  have hj:=DF ns t k _ Ks
  have Kt:=sG ns (t+2+Int.ofNat k) (Int.ofNat (left (pk ns t) n k).length) (by show 0<=t+2+(k:Int);omega) (by show(0:Int)<((left (pk ns t) n k).length:Int);omega)
  have hs:seqIndex? (Int.ofNat (pk ns t k (left (pk ns t) n k).length)) (ak (left (pk ns t) n k)).length=some (pk ns t k (left (pk ns t) n k).length):=(Ao (zt (by rw[g_];exact hj))).1
  have hg:(ak (left (pk ns t) n k))[pk ns t k (left (pk ns t) n k).length]? = some (iD (drawn (pk ns t) n k)):=by
   rw[HI]
   unfold drawn
   rw[Qf,Qb hj]
   rfl
  have hb:pk ns t k (left (pk ns t) n k).length<=16:=by omega
  have he:(ak (left (pk ns t) n k)).eraseIdx (pk ns t k (left (pk ns t) n k).length)=ak (left (pk ns t) n (k+1)):=by rw[left,HY]
  refine⟨[(n0 ns),some (.int t,9),some (bK n B,q),(uL (left (pk ns t) n k)),none,none,none,none,(i9 k)],_,by simp[cU],rfl,?_⟩
  rw[Qi rfl]
  refine⟨9,[(n0 ns),some (.int t,9),some (bK n B,q),(uL (left (pk ns t) n (k+1))),none,none,none,none,(i9 k)],?_,by simp,by simp⟩
  have b1:(-1000:Int)<=Int.ofNat (pk ns t k (left (pk ns t) n k).length):=by show(-1000:Int)<=(pk ns t k (left (pk ns t) n k).length:Int);omega
  have b2:Int.ofNat (pk ns t k (left (pk ns t) n k).length)<=1000:=by show(pk ns t k (left (pk ns t) n k).length:Int)<=1000;omega
  have iP:iI (.lst (ak (left (pk ns t) n k)))=some (left (pk ns t) n k).length:=by simp[iI,g_]
  rw[e]at Kt
  simp[-Int.ofNat_eq_natCast,iP,Kt,hs,hg,he,b1,b2]
def z9k(hn:n<=16)(x:OD):jF 1 (aL 8) fL (vy (dm (ae (eC (.int 0)) aj)) (cq 2)) true ((List.range n).map fun i=>el n B i)
  [(n0 ns),some (.int t,9),some (bK n B,0),some (.lst [],1),x,none,none,none] =
  some ((List.range n).map fun i=>el n (fun _ _=>0) i,[(n0 ns),some (.int t,9),some (bK n B,0),some (.lst [],1),x,none,none,none]):=by
 have h:=ue (k:=1) (pt:=aL 8) (tt:=fL) (te:=vy (dm (ae (eC (.int 0)) aj)) (cq 2)) (deep:=true) ((List.range n).map fun i=>el n B i)
  (fun _=>[(n0 ns),some (.int t,9),some (bK n B,0),some (.lst [],1),x,none,none,none]) (fun _=>true) (fun i=>el n (fun _ _=>0) i) (fun k hk=>?_)
 ·rw[Qe,QP,show(List.range n).filter (fun _=>true)=List.range n by simp]at h
  exact h
 ·refine⟨[(n0 ns),some (.int t,9),some (bK n B,0),some (.lst [],1),x,none,none,none,some (el n B k,0)],_,by simp[el],rfl,?_⟩
  rw[Qi rfl]
  refine⟨1,[(n0 ns),some (.int t,9),some (bK n B,0),some (.lst [],1),x,none,none,none,some (el n B k,0)],?_,by simp,by simp⟩
  have z:el n (fun _ _=>0) k=D.lst (List.replicate n [D.int 0]).flatten:=(WY n).symm
  have b1:(-1000:Int)<=n:=by omega
  have b2:(n:Int)<=1000:=by omega
  have b3:n<=1000:=by omega
  rw[z]
  simp[wJ,b1,b2,b3]
def gz (π ι:Nat->Nat)(i j a b:Nat):Nat:=if ι a<i\/(ι a=i/\ι b<j)then π (B (ι a) (ι b))else 0
abbrev sJ:aJ:=vA 5 (rD 4 (rC 6)) (rD 4 (rC 7)) (aI 4 (fh (aI 2 (aa 6)) (aa 7)))
section
variable {n B}{π ι:Nat->Nat}(cl:∀ i j,i<n->j<n->B i j<n)(h1:∀ i,i<n->π i<n)(h2:∀ i,i<n->ι i<n)(h3:∀ i,i<n->ι (π i)=i)(h4:∀ i,i<n->π (ι i)=i)
include cl h1 h2 h3 h4
theorem z2j{f:Nat->Nat->Nat}(hi:i<n)(hj:j<n){y:OD} :
  sJ [(n0 ns),some (.int t,9),some (bK n B,0),some (.lst [],1),(uL ((List.range n).map π)),some (bK n f,2),(i9 i),(i9 j)] =
  some (.nx [(n0 ns),some (.int t,9),some (bK n B,0),some (.lst [],1),(uL ((List.range n).map π)),some (bK n (fun a b=>if a=π i/\b=π j then π (B i j)else f a b),2),(i9 i),(i9 j)]):=by
 have a1:=WV (f:=B) hi
 have a2:=WW (f:=B) (i:=i) hj
 have a3:fC (.lst (ak ((List.range n).map π))) (Int.ofNat (B i j))=some (iD (π (B i j))):=si (cl i j hi hj)
 have a4:fC (.lst (ak ((List.range n).map π))) (Int.ofNat i)=some (iD (π i)):=si hi
 have a5:fC (.lst (ak ((List.range n).map π))) (Int.ofNat j)=some (iD (π j)):=si hj
 have a6:iF ((List.range n).map fun a=>el n f a).length (Int.ofNat (π i))=some (π i):=zt (by simpa using h1 i hi)
 have a7:((List.range n).map fun a=>el n f a)[π i]? = some (.lst (ak ((List.range n).map fun b=>f (π i) b))):=by rw[Ql,Zq (h1 i hi)];rfl
 have a8:iF (ak ((List.range n).map fun b=>f (π i) b)).length (Int.ofNat (π j))=some (π j):=zt (by simpa [g_]using h1 j hj)
 have a9:=WX (n:=n) (f:=f) (a:=π i) (b:=π j) (v:=π (B i j))
 rw[<- a9]
 show sJ [(n0 ns),some (.int t,9),some (bK n B,0),some (.lst [],1),(uL ((List.range n).map π)),some (.lst ((List.range n).map fun a=>el n f a),2),(i9 i),(i9 j)]=_
 unfold sJ
 simp only[vA,aI,fh,aa,rD,rC,ZC,List.getElem?_cons_zero,D.cK,ZD,a1,a2,a3,a4,a5,a6,a7,a8,ne_eq,not_true_eq_false,false_and,and_false,Zp,Qu,reduceCtorEq,Za,Q6,h_,List.set_cons_succ,List.set_cons_zero]
abbrev ku (f:Nat->Nat->Nat)(x y:OD):aR:=[(n0 ns),some (.int t,9),some (bK n B,0),some (.lst [],1),(uL ((List.range n).map π)),some (bK n f,2),x,y]
omit cl h1 h2 h3 h4
theorem uw(h:i<(cU n).length):(cU n)[i]=(iD i):=by simp[cU]
include cl h1 h2 h3 h4
theorem z4n(hi:i<n)(hj:j<n):bK n (fun a b=>if a=π i/\b=π j then π (B i j)else gz B π ι i j a b)=bK n (gz B π ι i (j+1)):=by
 refine zu fun a b ha hb=>?_
 unfold gz
 by_cases h:a=π i/\b=π j
 ·obtain⟨rfl,rfl⟩:=h
  rw[Qi ⟨rfl,rfl⟩,h3 i hi,h3 j hj,Qi (.inr ⟨rfl,Zn _⟩)]
 ·rw[Qj h]
  have:¬ (ι a=i/\ι b=j):=fun⟨e1,e2⟩=>h ⟨by rw[<- e1,h4 a ha],by rw[<- e2,h4 b hb]⟩
  by_cases c:ι a<i\/ι a=i/\ι b<j
  ·rw[Qi c,Qi (by omega)]
  ·rw[Qj c,Qj (by omega)]
theorem j0h:bK n (gz B π ι i n)=bK n (gz B π ι (i+1) 0):=by
 refine zu fun a b ha hb=>?_
 have:=h2 b hb
 unfold gz
 by_cases c:ι a<i\/ι a=i/\ι b<n
 ·rw[Qi c,Qi (by omega)]
 ·rw[Qj c,Qj (by omega)]
theorem z5o(hn:n<=16)(hi:i<n)(y:OD):∃ y',il (aL 7) sJ (cU n) (ku ns t (n:=n) (B:=B) (π:=π) (gz B π ι i 0) ((i9 i)) y) =
  some (.nx (ku ns t (n:=n) (B:=B) (π:=π) (gz B π ι (i+1) 0) ((i9 i)) y')):=by
 obtain⟨ρ',e,y',rfl⟩:=jN (pt:=aL 7) (body:=sJ) (cU n) (fun j ρ=>∃ y,ρ=ku ns t (n:=n) (B:=B) (π:=π) (gz B π ι i j) ((i9 i)) y) (ku ns t (n:=n) (B:=B) (π:=π) (gz B π ι i 0) ((i9 i)) y) (fun j hj ρ ag=>by
  obtain⟨y,hy⟩:=ag
  subst hy
  rw[gp]at hj
  refine⟨ku ns t (n:=n) (B:=B) (π:=π) (gz B π ι i j) ((i9 i)) ((i9 j)),_,by rw[uw];simp,.inl (z2j ns t cl h1 h2 h3 h4 hi hj (y:=none)),?_⟩
  rw[z4n cl h1 h2 h3 h4 hi hj]
  exact⟨_,rfl⟩) ⟨y,rfl⟩
 refine⟨y',?_⟩
 rw[e,gp]
 show some (Out.nx [_,_,_,_,_,some (bK n (gz B π ι i n),2),_,_])=_
 rw[j0h cl h1 h2 h3 h4]
theorem z4z(hn:n<=16)(x y:OD):∃ x' y',il (aL 6) (fm (cX (ae (cq 2) aj)) (aL 7) sJ) (cU n) (ku ns t (n:=n) (B:=B) (π:=π) (fun _ _=>0) x y) =
  some (.nx (ku ns t (n:=n) (B:=B) (π:=π) (fun a b=>π (B (ι a) (ι b))) x' y')):=by
 have z:bK n (fun _ _=>0)=bK n (gz B π ι 0 0):=zu fun a b _ _=>by unfold gz;rw[Qj (by omega)]
 have z':bK n (gz B π ι n 0)=bK n (fun a b=>π (B (ι a) (ι b))):=zu fun a b ha _=>by unfold gz;rw[Qi (.inl (h2 a ha))]
 obtain⟨ρ',e,x',y',rfl⟩:=jN (pt:=aL 6) (body:=fm (cX (ae (cq 2) aj)) (aL 7) sJ) (cU n) (fun i ρ=>∃ x y,ρ=ku ns t (n:=n) (B:=B) (π:=π) (gz B π ι i 0) x y) (ku ns t (n:=n) (B:=B) (π:=π) (gz B π ι 0 0) x y) (fun i hi ρ ag=>by
  obtain⟨x,y,hy⟩:=ag
  subst hy
  rw[gp]at hi
  obtain⟨y',hy'⟩:=z5o ns t cl h1 h2 h3 h4 hn hi y
  refine⟨ku ns t (n:=n) (B:=B) (π:=π) (gz B π ι i 0) ((i9 i)) y,_,by rw[uw];simp,.inl (show _=some (Out.nx (ku ns t (n:=n) (B:=B) (π:=π) (gz B π ι (i+1) 0) ((i9 i)) y'))from ?_),⟨_,_,rfl⟩⟩
  have b1:(-1000:Int)<=Int.ofNat n:=by show(-1000:Int)<=n;omega
  have b2:Int.ofNat n<=1000:=by show(n:Int)<=1000;omega
  have e:cX (ae (cq 2) aj) (ku ns t (n:=n) (B:=B) (π:=π) (gz B π ι i 0) ((i9 i)) y)=some (cU n,ku ns t (n:=n) (B:=B) (π:=π) (gz B π ι i 0) ((i9 i)) y):=by
   simp[-Int.ofNat_eq_natCast,wJ,b1,b2]
   rfl
  unfold fm
  rw[e]
  exact hy') ⟨x,y,rfl⟩
 refine⟨x',y',?_⟩
 show il _ _ _ [_,_,_,_,_,some (bK n (fun _ _=>0),2),_,_]=some (.nx [_,_,_,_,_,some (bK n (fun a b=>π (B (ι a) (ι b))),2),_,_])
 rw[z,<- z']
 rw[gp]at e
 exact e
end
end
def z5j{f:Nat->Nat->Nat}{a b c d e:OD}{x y:OD}:jF 1 (aL 8) fL (j9 (ae (aa 8) aj)) false ((List.range n).map fun i=>el n f i) [a,b,c,d,e,some (bK n f,0),x,y] =
  some ((List.range n).map fun i=>kY n f i,[a,b,c,d,e,some (bK n f,0),x,y]):=by
 have h:=ue (k:=1) (pt:=aL 8) (tt:=fL) (te:=j9 (ae (aa 8) aj)) (deep:=false) ((List.range n).map fun i=>el n f i)
  (fun _=>[a,b,c,d,e,some (bK n f,0),x,y]) (fun _=>true) (fun i=>kY n f i) (fun k hk=>?_)
 ·rw[Qe,QP,show(List.range n).filter (fun _=>true)=List.range n by simp]at h
  exact h
 ·refine⟨[a,b,c,d,e,some (bK n f,0),x,y,some (el n f k,0)],_,by simp[el],rfl,?_⟩
  rw[Qi rfl]
  exact⟨9,[a,b,c,d,e,some (bK n f,0),x,y,some (el n f k,0)],by simp[el,kY],by simp,by simp⟩
def qw(hn:n<=1000)(h:ρ[i]? = some (some (d,q)))(hl:iI d=some n):cX (ae (cq i) aj) ρ=some (cU n,ρ):=by
 have b1:(-1000:Int)<=Int.ofNat n:=by show(-1000:Int)<=n;omega
 have b2:Int.ofNat n<=1000:=by show(n:Int)<=1000;omega
 simp only[cX,ae,cq,aj,h,hl]
 rw[Qi ⟨b1,b2⟩]
 rfl
def z7o:∀ rows∈ph,rows.length<=8:=by decide +kernel
def z93(ns:List Int)(t:Int)(h0:0<=t):∃ n f,cw n f/\n<=8/\wV [dB ns,.int t]=(t9 n f):=by
 obtain⟨rows,hm,q,hb⟩:=z8f ns t h0
 have L:=W1 (z4b rows hm)
 have h8:=z7o rows hm
 unfold d7 at hb
 revert hb L h8
 generalize rows.length=n
 generalize tf rows=B
 intro hb L h8
 have hp:=DF ns t
 have hn:n<=1000:=QU L.hi (by decide)
 refine⟨n,fun a b=>drawn (pk ns t) n (B (kr (pk ns t) n a) (kr (pk ns t) n b)),L.W2 (fun i hi=>H9 hp hi) (fun i hi=>H_ hp hi) (fun i hi=>Ig hp hi) (fun i hi=>Ie hp hi),h8,?_⟩
 unfold wV Iu
 refine gy ?_
 have s0:nB 8 [dB ns,.int t]=[(n0 ns),some (.int t,9),none,none,none,none,none,none]:=rfl
 rw[s0]
 refine(bp (ρ1:=[(n0 ns),some (.int t,9),some (bK n B,q),none,none,none,none,none]) ?_).trans ?_
 ·simp[hb]
 refine(bp (ρ1:=[(n0 ns),some (.int t,9),some (bK n B,q),some (.lst (cU n),1),none,none,none,none]) ?_).trans ?_
 ·exact g9 (HH (qw hn rfl wJ)) rfl
 refine(bp (ρ1:=[(n0 ns),some (.int t,9),some (bK n B,q),some (.lst [],1),(uL ((List.range n).map (drawn (pk ns t) n))),none,none,none]) ?_).trans ?_
 ·exact g9 (jO (qw hn rfl wJ) (z3u ns t n B q h0 L.hi)) rfl
 refine(bp (ρ1:=[(n0 ns),some (.int t,9),some (bK n B,0),some (.lst [],1),(uL ((List.range n).map (drawn (pk ns t) n))),some (bK n (fun _ _=>0),2),none,none]) ?_).trans ?_
 ·have e:eI (aa 2) [(n0 ns),some (.int t,9),some (bK n B,q),some (.lst [],1),(uL ((List.range n).map (drawn (pk ns t) n))),none,none,none]=some ((List.range n).map fun i=>el n B i,[(n0 ns),some (.int t,9),some (bK n B,0),some (.lst [],1),(uL ((List.range n).map (drawn (pk ns t) n))),none,none,none]):=by
   by_cases hq:q=0
   ·subst hq;simp[bK,hn]
   ·simp[bK,hn,hq]
  exact g9 (jO e (z9k ns t n B L.hi _)) rfl
 obtain⟨x',y',hf⟩:=z4z ns t (n:=n) (B:=B) (π:=drawn (pk ns t) n) (ι:=kr (pk ns t) n) L.cl (fun i hi=>H9 hp hi) (fun i hi=>H_ hp hi) (fun i hi=>Ig hp hi) (fun i hi=>Ie hp hi) L.hi none none
 refine(bp ((kX (qw hn rfl wJ)).trans hf)).trans ?_
 refine iW (ρ1:=[(n0 ns),some (.int t,9),some (bK n B,0),some (.lst [],1),(uL ((List.range n).map (drawn (pk ns t) n))),some (bK n (fun a b=>drawn (pk ns t) n (B (kr (pk ns t) n a) (kr (pk ns t) n b))),0),x',y']) ?_
 have e:eI (aa 5) (ku ns t (n:=n) (B:=B) (π:=drawn (pk ns t) n) (fun a b=>drawn (pk ns t) n (B (kr (pk ns t) n a) (kr (pk ns t) n b))) x' y')=some ((List.range n).map fun i=>el n (fun a b=>drawn (pk ns t) n (B (kr (pk ns t) n a) (kr (pk ns t) n b))) i,[(n0 ns),some (.int t,9),some (bK n B,0),some (.lst [],1),(uL ((List.range n).map (drawn (pk ns t) n))),some (bK n (fun a b=>drawn (pk ns t) n (B (kr (pk ns t) n a) (kr (pk ns t) n b))),0),x',y']):=by
  simp[bK,hn]
 have e2:=jO (k:=1) (pt:=aL 8) (tt:=fL) (te:=j9 (ae (aa 8) aj)) (deep:=false) e z5j
 exact HG (kq e2)
section
variable {n:Nat}{f:Nat->Nat->Nat}
def z5b(hn:n<=1000){w:Nat}(hw:w<n):qp [cf n f,(iD w)]=(uL ((List.range n).filter fun x=>decide (f x w=w))):=by
 unfold qp IB
 refine gy (iW (jO (deep:=false) (ρ2:=[(t9 n f),(i9 w)]) (qw hn rfl nP) ?_))
 refine wL (i:=2) (ρ:=[(t9 n f),(i9 w)]) (deep:=false) rfl (fun x=>decide (f x w=w)) (fun x=>(iD x)) (fun _=>9) (fun j hj=>?_) (fun j hj _=>?_)
 ·simp[-Int.ofNat_eq_natCast,Dc hj,HK hw,zy]
 ·simp[-Int.ofNat_eq_natCast]
variable (L:cw n f){z:Nat}(hz:z<n)(bz:∀ j,j<n->f z j=j)
include L hz bz
theorem Ku{w:Nat}(hw:w<n):decide ((List.range n).map (fun j=>f w j)=List.range n)=decide (w=z):=by
 rw[Jw,W3]
 exact⟨fun h=>L.mO hz bz hw h,fun h=>by subst h;exact bz⟩
theorem DG(hn:n<=1000):nR [cf n f]=(i9 z):=by
 unfold nR Iy
 refine gy (iW (ρ1:=[(t9 n f)]) ?_)
 have hc:eS 1 (cX (ae (cq 0) aj)) (aL 1) (bA (e2 eJ (vn (ae (aI 0 (aa 1)) aj)) (pM (ae (cq 0) aj)))) (aa 1) false (nB 1 [cf n f])=some (.lst (ak [z]),1,[(t9 n f)]):=by
  refine(jO (deep:=false) (ρ2:=[(t9 n f)]) (qw hn rfl nP) (wL rfl (fun x=>decide (x=z)) (fun x=>(iD x)) (fun _=>9) (fun j hj=>?_) (fun j hj _=>?_))).trans ?_
  ·have e1:vn (ae (aI 0 (aa 1)) aj) ([(t9 n f)]++[(i9 j)])=some (.lst (ak ((List.range n).map fun k=>f j k)),1,[(t9 n f),(i9 j)]):=by
    simp[-Int.ofNat_eq_natCast,Dc hj,kY]
   have mn:pM (ae (cq 0) aj) [(t9 n f),(i9 j)]=some (.lst (ak (List.range n)),1,[(t9 n f),(i9 j)]):=HH (qw hn rfl nP)
   unfold bA e2
   rw[e1]
   simp only[mn,W0,Ku L hz bz hj]
   rfl
  ·simp[-Int.ofNat_eq_natCast]
  ·rw[Ih,Qi hz]
   rfl
 unfold fh
 rw[hc]
 simp[-Int.ofNat_eq_natCast,fC,ak,L2.dW,iF]
theorem j0y(hn:n<=1000){l:List Nat}(hl:l.length<=1000)(hm:∀ x∈l,x<n):sv [cf n f,.lst (ak l)]=(i9 (l.foldl f z)):=by
 unfold sv IA
 refine gy ?_
 refine(bp (ρ1:=[(t9 n f),some (.lst (ak l),0),(i9 z),none]) ?_).trans ?_
 ·simp[-Int.ofNat_eq_natCast,DG L hz bz hn]
 obtain⟨ρ',e,y,rfl⟩:=jN (pt:=aL 3) (body:=bh 2 (fh (aI 0 (aa 2)) (aa 3))) (ak l) (fun i ρ=>∃ y,ρ=[(t9 n f),some (.lst (ak l),0),(i9 ((l.take i).foldl f z)),y]) [(t9 n f),some (.lst (ak l),0),(i9 z),none] (fun i hi ρ ag=>by
  obtain⟨y,hy⟩:=ag
  subst hy
  have cS:i<l.length:=by rw[g_]at hi;exact hi
  have hg:(ak l)[i]=.int (Int.ofNat l[i]):=by simp[ak]
  have hx:l[i]<n:=hm _ (Q4 cS)
  have ha:(l.take i).foldl f z<n:=L.fold_lt hz fun x m=>hm x (JW m)
  refine⟨[(t9 n f),some (.lst (ak l),0),(i9 ((l.take i).foldl f z)),some (.int (Int.ofNat l[i]),9)],[(t9 n f),some (.lst (ak l),0),(i9 ((l.take (i+1)).foldl f z)),some (.int (Int.ofNat l[i]),9)],?_,.inl ?_,⟨_,rfl⟩⟩
  ·rw[hg];simp
  ·rw[List.take_succ_eq_append_getElem cS,JP]
   simp[-Int.ofNat_eq_natCast,Dc ha,HK hx]) ⟨none,rfl⟩
 rw[g_,ZZ]at e
 refine(bp ((kX (ds:=ak l) (ρ1:=[(t9 n f),some (.lst (ak l),0),(i9 z),none]) ?_).trans e)).trans ?_
 ·simp[g_,hl]
 ·simp[-Int.ofNat_eq_natCast]
end
section
variable {n:Nat}{f:Nat->Nat->Nat}
variable (L:cw n f){z:Nat}(hz:z<n)(bz:∀ j,j<n->f z j=j)
include L hz bz
theorem z54(hn:n<=1000):w9 [cf n f]=(i9 z):=by
 have b1:(-1000:Int)<=Int.ofNat n:=by show(-1000:Int)<=n;omega
 have b2:Int.ofNat n<=1000:=by show(n:Int)<=1000;omega
 have hr:wZ [(iD n)]=(v9 (List.range n)):=by
  unfold wZ IU
  simp[-Int.ofNat_eq_natCast,b1,b2]
  rfl
 have hi:tU (.tup (ak (List.range n))) ((List.range n).map fun i=>kY n f i)=some z:=by
  unfold tU
  rw[HN,Q7]
  have ev:∀ i,i<n->PyData.eqv (bJ (kY n f i)) (bJ (.tup (ak (List.range n))))=decide (i=z):=fun i hi=>(HU _ _).trans (Ku L hz bz hi)
  refine HX (x:=bJ (kY n f z)) ?_ ?_ ?_
  ·rw[Ql,Zq hz];rfl
  ·rw[ev z hz];simp
  ·intro i y hi hy
   have cS:i<n:=Va hi hz
   rw[Ql,Zq cS]at hy
   cases hy
   refine(ev i cS).trans ?_
   simp;omega
 have h1:dA (.tup ((List.range n).map fun i=>kY n f i))=true:=(WZ n f).ok
 have h2:dA (.tup (ak (List.range n)))=true:=(zx _).ok
 have hl:iI (.tup ((List.range n).map fun i=>kY n f i))=some n:=nP (f:=f)
 unfold w9 IV cf
 simp[-Int.ofNat_eq_natCast,hr,hl,h1,h2,hi]
include L hz bz
theorem y6z(ns:List Int)(t:Int)(h0:0<=t):∃ d:Nat->Nat,(∀ i,i<n->d i<n)/\sx [dB ns,.int t,cf n f]=some (wM n (cw.lr n f z d),9):=by
 have hn:n<=1000:=QU L.hi (by decide)
 have xk:(0:Int)<Int.ofNat n:=by show(0:Int)<(n:Int);omega
 have dr:∀ i,∃ v,v<n/\(i<n->∀ ρ:aR,ρ[0]? = some (some (dB ns,0))->ρ[1]? = some (some (.int t,9))->ρ[2]? = some (some (cf n f,9))->ρ[3]? = some (some (.int (Int.ofNat z),9))->ρ[5]? = some (some (.int (Int.ofNat i),9))->
   fh (dm (ae (aa 3) (ae (aa 5) (ae (aS dM 3 (ae (aa 0) (ae (e2 cm (aa 1) (aa 5)) (ae (cq 2) aj)))) aj)))) (aS dM 3 (ae (aa 0) (ae (e2 cm (e2 cm (aa 1) (eC (.int 8))) (aa 5)) (ae (eC (.int 3)) aj)))) ρ=some (.int (Int.ofNat v),9,ρ)):=fun i=>by
  have e1:=sG ns (t+Int.ofNat i) (Int.ofNat n) (by show 0<=t+(i:Int);omega) xk
  have mn:=sG ns (t+8+Int.ofNat i) 3 (by show 0<=t+8+(i:Int);omega) (by decide)
  have l1:=qu ns (t+Int.ofNat i) xk
  have l2:=sH ns (t+Int.ofNat i) xk
  have k1:=qu ns (t+8+Int.ofNat i) (m:=3) (by decide)
  have k2:=sH ns (t+8+Int.ofNat i) (m:=3) (by decide)
  generalize ju ns (t+Int.ofNat i) (Int.ofNat n)=a at *
  generalize ju ns (t+8+Int.ofNat i) 3=b at *
  obtain⟨a',rfl⟩:∃ a':Nat,a=Int.ofNat a':=⟨a.toNat,by show a=(a.toNat:Int);omega⟩
  have ha':a'<n:=by have:(a':Int)<(n:Int):=l2;omega
  by_cases hi:i<n
  ·have hb:b=0\/b=1\/b=2:=by omega
   rcases hb with rfl|rfl|rfl
   ·refine⟨z,hz,fun _ ρ h0 h1 h2 h3 h5=>?_⟩
    simp[-Int.ofNat_eq_natCast,h0,h1,h2,h3,h5,nP,e1,mn,fC,L2.dW,iF]
   ·refine⟨i,hi,fun _ ρ h0 h1 h2 h3 h5=>?_⟩
    simp[-Int.ofNat_eq_natCast,h0,h1,h2,h3,h5,nP,e1,mn,fC,L2.dW,iF]
   ·refine⟨a',ha',fun _ ρ h0 h1 h2 h3 h5=>?_⟩
    simp[-Int.ofNat_eq_natCast,h0,h1,h2,h3,h5,nP,e1,mn,fC,L2.dW,iF]
  ·exact⟨z,hz,fun h=>absurd h hi⟩
 obtain⟨d,hd⟩:∃ d:Nat->Nat,∀ i,d i<n/\(i<n->∀ ρ:aR,ρ[0]? = some (some (dB ns,0))->ρ[1]? = some (some (.int t,9))->ρ[2]? = some (some (cf n f,9))->ρ[3]? = some (some (.int (Int.ofNat z),9))->ρ[5]? = some (some (.int (Int.ofNat i),9))->
   fh (dm (ae (aa 3) (ae (aa 5) (ae (aS dM 3 (ae (aa 0) (ae (e2 cm (aa 1) (aa 5)) (ae (cq 2) aj)))) aj)))) (aS dM 3 (ae (aa 0) (ae (e2 cm (e2 cm (aa 1) (eC (.int 8))) (aa 5)) (ae (eC (.int 3)) aj)))) ρ=some (.int (Int.ofNat (d i)),9,ρ)):=
  ⟨fun i=>(dr i).choose,fun i=>(dr i).choose_spec⟩
 refine⟨d,fun i _=>(hd i).1,?_⟩
 unfold sx ID
 refine gy ?_
 have hs:nB 7 [dB ns,.int t,cf n f]=[some (dB ns,0),some (.int t,9),some (cf n f,9),none,none,none,none]:=rfl
 rw[hs]
 refine(bp (ρ1:=[some (dB ns,0),some (.int t,9),some (cf n f,9),some (.int (Int.ofNat z),9),none,none,none]) ?_).trans ?_
 ·simp[-Int.ofNat_eq_natCast,DG L hz bz hn]
 refine(bp (ρ1:=[some (dB ns,0),some (.int t,9),some (cf n f,9),some (.int (Int.ofNat z),9),some (.lst [],1),none,none]) ?_).trans ?_
 ·simp
 obtain⟨ρ',e,y,rfl⟩:=jN (pt:=aL 5) (body:=fj (jo 4 (ae (fh (dm (ae (aa 3) (ae (aa 5) (ae (aS dM 3 (ae (aa 0) (ae (e2 cm (aa 1) (aa 5)) (ae (cq 2) aj)))) aj)))) (aS dM 3 (ae (aa 0) (ae (e2 cm (e2 cm (aa 1) (eC (.int 8))) (aa 5)) (ae (eC (.int 3)) aj))))) aj))) (cU n)
  (fun i ρ=>∃ y,ρ=[some (dB ns,0),some (.int t,9),some (cf n f,9),some (.int (Int.ofNat z),9),some (.lst (ak ((List.range i).map d)),1),y,none])
  [some (dB ns,0),some (.int t,9),some (cf n f,9),some (.int (Int.ofNat z),9),some (.lst [],1),none,none] (fun i hi ρ ag=>by
   obtain⟨y,hy⟩:=ag
   subst hy
   have cS:i<n:=by rw[gp]at hi;exact hi
   have hdi:=(hd i).2 cS [some (dB ns,0),some (.int t,9),some (cf n f,9),some (.int (Int.ofNat z),9),some (.lst (ak ((List.range i).map d)),1),some (.int (Int.ofNat i),9),none] rfl rfl rfl rfl rfl
   refine⟨[some (dB ns,0),some (.int t,9),some (cf n f,9),some (.int (Int.ofNat z),9),some (.lst (ak ((List.range i).map d)),1),some (.int (Int.ofNat i),9),none],[some (dB ns,0),some (.int t,9),some (cf n f,9),some (.int (Int.ofNat z),9),some (.lst (ak ((List.range (i+1)).map d)),1),some (.int (Int.ofNat i),9),none],?_,.inl ?_,⟨_,rfl⟩⟩
   ·rw[show(cU n)[i]=.int (Int.ofNat i)by simp[cU]];simp
   ·have ex:ak ((List.range (i+1)).map d)=ak ((List.range i).map d)++[.int (Int.ofNat (d i))]:=by rw[Y4];simp[ak]
    have hl:(ak ((List.range i).map d)).length<=1000:=by rw[g_,Qe,QP];omega
    exact Dj rfl (kq hdi) rfl hl (by rw[ex];rfl)) ⟨none,rfl⟩
 rw[gp]at e
 refine(bp ((kX (qw hn rfl nP)).trans e)).trans ?_
 refine(bp (ρ1:=[some (dB ns,0),some (.int t,9),some (cf n f,9),some (.int (Int.ofNat z),9),some (.lst (ak ((List.range n).map d)),1),y,some (.lst [],1)]) ?_).trans ?_
 ·simp
 have vN:∀ i,i<n->d i<n:=fun i _=>(hd i).1
 obtain⟨ρ',e,y',rfl⟩:=jN (pt:=aL 5) (body:=fj (jo 6 (ae (aS sv 2 (ae (aa 2) (ae (eS 1 (eI (aS qp 2 (ae (aa 2) (ae (aa 5) aj)))) (aL 7) fL (aI 4 (aa 7)) false) aj))) aj))) (cU n)
  (fun i ρ=>∃ y,ρ=[some (dB ns,0),some (.int t,9),some (cf n f,9),some (.int (Int.ofNat z),9),some (.lst (ak ((List.range n).map d)),1),y,some (.lst (ak ((List.range i).map (cw.lr n f z d))),1)])
  [some (dB ns,0),some (.int t,9),some (cf n f,9),some (.int (Int.ofNat z),9),some (.lst (ak ((List.range n).map d)),1),y,some (.lst [],1)] (fun i hi ρ ag=>by
   obtain⟨y,hy⟩:=ag
   subst hy
   have cS:i<n:=by rw[gp]at hi;exact hi
   refine⟨[some (dB ns,0),some (.int t,9),some (cf n f,9),some (.int (Int.ofNat z),9),some (.lst (ak ((List.range n).map d)),1),some (.int (Int.ofNat i),9),some (.lst (ak ((List.range i).map (cw.lr n f z d))),1)],[some (dB ns,0),some (.int t,9),some (cf n f,9),some (.int (Int.ofNat z),9),some (.lst (ak ((List.range n).map d)),1),some (.int (Int.ofNat i),9),some (.lst (ak ((List.range (i+1)).map (cw.lr n f z d))),1)],?_,.inl ?_,⟨_,rfl⟩⟩
   ·rw[show(cU n)[i]=.int (Int.ofNat i)by simp[cU]];simp
   ·have ex:ak ((List.range (i+1)).map (cw.lr n f z d))=ak ((List.range i).map (cw.lr n f z d))++[.int (Int.ofNat (cw.lr n f z d i))]:=by rw[Y4];simp[ak]
    have hl:(ak ((List.range i).map (cw.lr n f z d))).length<=1000:=by rw[g_,Qe,QP];omega
    have pj:(cw.low n f i).length<=1000:=by
     have:=ZL (fun y=>decide (f y i=i)) (List.range n)
     rw[QP]at this
     exact QU this hn
    have hit:eI (aS qp 2 (ae (aa 2) (ae (aa 5) aj))) [some (dB ns,0),some (.int t,9),some (cf n f,9),some (.int (Int.ofNat z),9),some (.lst (ak ((List.range n).map d)),1),some (.int (Int.ofNat i),9),some (.lst (ak ((List.range i).map (cw.lr n f z d))),1)]=some (ak (cw.low n f i),[some (dB ns,0),some (.int t,9),some (cf n f,9),some (.int (Int.ofNat z),9),some (.lst (ak ((List.range n).map d)),1),some (.int (Int.ofNat i),9),some (.lst (ak ((List.range i).map (cw.lr n f z d))),1)]):=by
     have hb:qp [cf n f,.int (Int.ofNat i)]=some (.lst (ak (cw.low n f i)),1):=z5b hn cS
     simp[-Int.ofNat_eq_natCast,hb,g_,pj]
    have hc:=jO (k:=1) (te:=aI 4 (aa 7)) (deep:=false) hit (W6 (i:=7) (cw.low n f i) rfl (fun y=>.int (Int.ofNat (d y))) (fun _=>9) (fun y hy=>by
     have hyn:=(cw.eA.mp hy).1
     have rq:fC (.lst (ak ((List.range n).map d))) (Int.ofNat y)=some (.int (Int.ofNat (d y))):=si hyn
     simp[-Int.ofNat_eq_natCast,rq]))
    have hm:∀ y∈(cw.low n f i).map d,y<n:=cw.iw L hz bz vN
    have e':((cw.low n f i).map fun y=>D.int (Int.ofNat (d y)))=ak ((cw.low n f i).map d):=by simp[ak]
    rw[e']at hc
    have hj:sv [cf n f,.lst (ak ((cw.low n f i).map d))]=some (.int (Int.ofNat (cw.lr n f z d i)),9):=j0y L hz bz hn (by rw[Qe];exact pj) hm
    have ha:=kq (fN (n:=2) (sh (f:=aa 2) (q:=9) (d:=cf n f) (ρ:=[some (dB ns,0),some (.int t,9),some (cf n f,9),some (.int (Int.ofNat z),9),some (.lst (ak ((List.range n).map d)),1),some (.int (Int.ofNat i),9),some (.lst (ak ((List.range i).map (cw.lr n f z d))),1)]) (ρ1:=[some (dB ns,0),some (.int t,9),some (cf n f,9),some (.int (Int.ofNat z),9),some (.lst (ak ((List.range n).map d)),1),some (.int (Int.ofNat i),9),some (.lst (ak ((List.range i).map (cw.lr n f z d))),1)]) rfl (kq hc)) rfl hj)
    exact Dj rfl ha rfl hl (by rw[ex];rfl)) ⟨y,rfl⟩
 rw[gp]at e
 refine(bp ((kX (qw hn rfl nP)).trans e)).trans ?_
 exact iW (HG (kq (q:=0) (ρ1:=[some (dB ns,0),some (.int t,9),some (cf n f,9),some (.int (Int.ofNat z),9),some (.lst (ak ((List.range n).map d)),1),y',some (.lst (ak ((List.range n).map (cw.lr n f z d))),0)]) rfl))
end
def gA (n:Nat):D->Bool
 | .int i=>decide (0<=i)&&decide (i<(n:Int))
 | _=>false
def nU(d:D):xf [d]=(b9 (match d with|.int _=>true|_=>false)):=by
 unfold xf Ka
 cases d<;>simp[oQ]
def Kv(n:Nat)(d:D):qq [d,(iD n)]=(b9 (gA n d)):=by
 unfold qq Kb
 cases d with
 | int i=>
  have h:=nU (.int i)
  by_cases h0:0<=i
  ·by_cases h1:i<(n:Int)
   ·simp[h,gA,h0,h1]
   ·simp[h,gA,h0,h1]
  ·simp[h,gA,h0]
 | aK=>simp[nU,gA]
 | bl b=>simp[nU,gA]
 | str x=>simp[nU,gA]
 | tup ds=>simp[nU,gA]
 | lst ds=>simp[nU,gA]
 | jZ ks ds=>simp[nU,gA]
 | exc nm=>simp[nU,gA]
 | ob f fo vs ds=>simp[nU,gA]
 | mp k ds=>simp[nU,gA]
structure dw where
 p:Nat
 W:List (Nat×Nat×(Nat->Nat))
 B:List (Nat×Nat)
def df (n:Nat)(w:Nat×Nat×(Nat->Nat)):D:=.tup [(iD w.1),(iD w.2.1),wM n w.2.2]
def lE (b:Nat×Nat):D:=.tup [(iD b.1),(iD b.2)]
def cZ (n:Nat)(C:dw):D:=.tup [(iD C.p),.tup (C.W.map (df n)),.tup (C.B.map lE)]
abbrev c9 (n:Nat)(C:dw):OD:=some (cZ n C,9)
def zJ (n:Nat)(f:Nat->Nat->Nat)(p:Nat)(w:Nat×Nat×(Nat->Nat)):Prop:=w.1<p/\w.2.1<p/\(∀ i,i<n->w.2.2 i<n)/\∀ x y,x<n->y<n->f x y=y->f (w.2.2 x) (w.2.2 y)=w.2.2 y
def DH (n:Nat)(p:Nat)(b:Nat×Nat):Prop:=b.1<p/\b.2<n
structure dw.Ok (n:Nat) (f:Nat->Nat->Nat) (C:dw):Prop where
 p1:1<=C.p
 p8:C.p<=8
 i6:C.W.length<=60
 Kw:C.B.length<=60
 ws:∀ w∈C.W,zJ n f C.p w
 bs:∀ b∈C.B,DH n C.p b
@[simp] theorem j1b{C:dw}:(cZ n C).cK=false:=rfl
@[simp] theorem j4w{w:Nat×Nat×(Nat->Nat)}:(df n w).cK=false:=rfl
@[simp] theorem j4q{b:Nat×Nat}:(lE b).cK=false:=rfl
def sL(ns:List Int){k:Int}(hk:0<=k){m:Int}(hm:0<m):∃ v:Nat,(v:Int)<m/\dM [dB ns,.int k,.int m]=some (.int (Int.ofNat v),9):=by
 have h1:=qu ns k hm
 have h2:=sH ns k hm
 refine⟨(ju ns k m).toNat,by omega,?_⟩
 rw[sG ns k m hk hm]
 have:ju ns k m=Int.ofNat (ju ns k m).toNat:=by show _=(((ju ns k m).toNat:Nat):Int);omega
 rw[<- this]
def sM(hm:m<=1000){fe:aB}{ρ':aR}(h:fe ρ=some ((iD m),q,ρ')):cX (ae fe aj) ρ=some (cU m,ρ'):=by
 have b1:(-1000:Int)<=Int.ofNat m:=by show(-1000:Int)<=m;omega
 have b2:Int.ofNat m<=1000:=by show(m:Int)<=1000;omega
 simp only[cX,ae,aj,h]
 rw[Qi ⟨b1,b2⟩]
 rfl
section
variable {n:Nat}{f:Nat->Nat->Nat}(L:cw n f){z:Nat}(hz:z<n)(bz:∀ j,j<n->f z j=j)
include L hz bz
theorem y96(ns:List Int)(t:Int)(h0:0<=t)(hp:1<=p)(m:Nat)(hm:m<=7) :
  ∃ W:List (Nat×Nat×(Nat->Nat)),W.length=m/\(∀ w∈W,zJ n f p w)/\∃ a b c,il (aL 6) zE (cU m) [(n0 ns),some (.int t,9),(t9 n f),(b9 false),(i9 p),some (.lst [],1),none,none,none,none,none]=some (.nx [(n0 ns),some (.int t,9),(t9 n f),(b9 false),(i9 p),some (.lst (W.map (df n)),1),a,b,c,none,none]):=by
 have zK:(0:Int)<Int.ofNat p:=by show(0:Int)<(p:Int);omega
 obtain⟨ρ',e,W,hl,aw,a,b,c,rfl⟩:=jN (pt:=aL 6) (body:=zE) (cU m) (fun i ρ=>∃ W:List (Nat×Nat×(Nat->Nat)),W.length=i/\(∀ w∈W,zJ n f p w)/\∃ a b c,ρ=[(n0 ns),some (.int t,9),(t9 n f),(b9 false),(i9 p),some (.lst (W.map (df n)),1),a,b,c,none,none]) [(n0 ns),some (.int t,9),(t9 n f),(b9 false),(i9 p),some (.lst [],1),none,none,none,none,none] (fun i hi ρ ag=>by
  obtain⟨W,hl,aw,a,b,c,hr⟩:=ag
  subst hr
  have cS:i<m:=by rw[gp]at hi;exact hi
  obtain⟨x,hx⟩:∃ x:Int,x=t+10+22*Int.ofNat i:=⟨_,rfl⟩
  have hx0:0<=x:=by have:Int.ofNat i=(i:Int):=rfl;omega
  obtain⟨d,hd,hR⟩:=y6z L hz bz ns (x+2) (by omega)
  obtain⟨s,hs,es⟩:=sL ns hx0 zK
  obtain⟨g,hg,eg⟩:=sL ns (show 0<=x+1 by omega) zK
  have lg:s<p:=by have:(s:Int)<(p:Int):=hs;omega
  have kR:g<p:=by have:(g:Int)<(p:Int):=hg;omega
  have qO:zJ n f p (s,g,cw.lr n f z d):=⟨lg,kR,fun i _=>L.qk hz bz hd i,fun x y hx hy e=>L.mQ hz bz hd hx hy e⟩
  generalize cw.lr n f z d=r at *
  have hW:W.length<=1000:=by omega
  refine⟨[(n0 ns),some (.int t,9),(t9 n f),(b9 false),(i9 p),some (.lst (W.map (df n)),1),(i9 i),b,c,none,none],[(n0 ns),some (.int t,9),(t9 n f),(b9 false),(i9 p),some (.lst ((W++[(s,g,r)]).map (df n)),1),(i9 i),some (.int x,9),(r9 n r),none,none],by rw[uw];simp,.inl ?_,W++[(s,g,r)],by simp[hl],fun w hw=>?_,_,_,_,rfl⟩
  ·unfold zE
   refine(bp (ρ1:=[(n0 ns),some (.int t,9),(t9 n f),(b9 false),(i9 p),some (.lst (W.map (df n)),1),(i9 i),some (.int x,9),c,none,none]) (by rw[hx];simp[-Int.ofNat_eq_natCast])).trans ?_
   refine(bp (ρ1:=[(n0 ns),some (.int t,9),(t9 n f),(b9 false),(i9 p),some (.lst (W.map (df n)),1),(i9 i),some (.int x,9),(r9 n r),none,none]) (by simp[-Int.ofNat_eq_natCast,hR])).trans ?_
   refine(bp (ρ1:=[(n0 ns),some (.int t,9),(t9 n f),(b9 false),(i9 p),some (.lst (W.map (df n)),1),(i9 i),some (.int x,9),(r9 n r),none,none]) (by simp[-Int.ofNat_eq_natCast])).trans ?_
   simp[-Int.ofNat_eq_natCast,es,eg,hW,df]
  ·rcases QF.mp hw with h|h
   ·exact aw w h
   ·rw[Qv.mp h];exact qO) ⟨[],rfl,(fun _ z=>nomatch z),none,none,none,rfl⟩
 rw[gp]at hl
 exact⟨W,hl,aw,a,b,c,e⟩
theorem y8y(ns:List Int)(t:Int)(h0:0<=t)(hp:1<=p)(m:Nat)(hm:m<=3)(W:OD)(a b c:OD) :
  ∃ B:List (Nat×Nat),B.length=m/\(∀ w∈B,DH n p w)/\∃ a' h,il (aL 6) zD (cU m) [(n0 ns),some (.int t,9),(t9 n f),(b9 false),(i9 p),W,a,b,c,some (.lst [],1),none]=some (.nx [(n0 ns),some (.int t,9),(t9 n f),(b9 false),(i9 p),W,a',b,c,some (.lst (B.map lE),1),h]):=by
 have zK:(0:Int)<Int.ofNat p:=by show(0:Int)<(p:Int);omega
 have xk:(0:Int)<Int.ofNat n:=by have:=L.lo;show(0:Int)<(n:Int);omega
 obtain⟨ρ',e,B,hl,aw,a',h,rfl⟩:=jN (pt:=aL 6) (body:=zD) (cU m) (fun i ρ=>∃ B:List (Nat×Nat),B.length=i/\(∀ w∈B,DH n p w)/\∃ a h,ρ=[(n0 ns),some (.int t,9),(t9 n f),(b9 false),(i9 p),W,a,b,c,some (.lst (B.map lE),1),h]) [(n0 ns),some (.int t,9),(t9 n f),(b9 false),(i9 p),W,a,b,c,some (.lst [],1),none] (fun i hi ρ ag=>by
  obtain⟨B,hl,aw,a,h,hr⟩:=ag
  subst hr
  have cS:i<m:=by rw[gp]at hi;exact hi
  have hii:Int.ofNat i=(i:Int):=rfl
  obtain⟨v,hv,ev⟩:=sL ns (show 0<=t+3+2*Int.ofNat i by omega) xk
  obtain⟨g,hg,eg⟩:=sL ns (show 0<=t+4+2*Int.ofNat i by omega) zK
  have BM:v<n:=by have:(v:Int)<(n:Int):=hv;omega
  have kR:g<p:=by have:(g:Int)<(p:Int):=hg;omega
  have hB:B.length<=1000:=by omega
  refine⟨[(n0 ns),some (.int t,9),(t9 n f),(b9 false),(i9 p),W,(i9 i),b,c,some (.lst (B.map lE),1),h],[(n0 ns),some (.int t,9),(t9 n f),(b9 false),(i9 p),W,(i9 i),b,c,some (.lst ((B++[(g,v)]).map lE),1),(i9 v)],by rw[uw];simp,.inl ?_,B++[(g,v)],by simp[hl],fun w hw=>?_,_,_,rfl⟩
  ·unfold zD
   refine(bp (ρ1:=[(n0 ns),some (.int t,9),(t9 n f),(b9 false),(i9 p),W,(i9 i),b,c,some (.lst (B.map lE),1),(i9 v)]) (by simp[-Int.ofNat_eq_natCast,nP,ev])).trans ?_
   simp[-Int.ofNat_eq_natCast,eg,hB,lE]
  ·rcases QF.mp hw with h|h
   ·exact aw w h
   ·rw[Qv.mp h];exact⟨kR,BM⟩) ⟨[],rfl,(fun _ z=>nomatch z),a,none,rfl⟩
 rw[gp]at hl
 exact⟨B,hl,aw,a',h,e⟩
theorem y46(ns:List Int)(t:Int)(h0:0<=t):∃ C:dw,C.Ok n f/\C.p<=5/\C.W.length<=7/\C.B.length<=3/\wX [dB ns,.int t,cf n f,.bl false]=(c9 n C):=by
 obtain⟨p0,GS,ep⟩:=sL ns h0 (m:=5) (by decide)
 obtain⟨mw,hmw,ew⟩:=sL ns (show 0<=t+1 by omega) (m:=8) (by decide)
 obtain⟨mb,hmb,eb⟩:=sL ns (show 0<=t+2 by omega) (m:=4) (by decide)
 obtain⟨p,hp⟩:∃ p:Nat,p=p0+1:=⟨_,rfl⟩
 have jA:(1:Int)+Int.ofNat p0=Int.ofNat p:=by show(1:Int)+(p0:Int)=(p:Int);omega
 obtain⟨W,hWl,DI,a,b,c,eW⟩:=y96 L hz bz ns t h0 (p:=p) (by omega) mw (by omega)
 obtain⟨B,hBl,DJ,a',h,eB⟩:=y8y L hz bz ns t h0 (p:=p) (by omega) mb (by omega) (some (.lst (W.map (df n)),1)) a b c
 refine⟨⟨p,W,B⟩,⟨by show 1<=p;omega,by show p<=8;omega,by show W.length<=60;omega,by show B.length<=60;omega,DI,DJ⟩,by show p<=5;omega,by show W.length<=7;omega,by show B.length<=3;omega,?_⟩
 unfold wX IG
 refine gy ?_
 show aH _ _ [(n0 ns),some (.int t,9),(t9 n f),(b9 false),none,none,none,none,none,none,none]=_
 refine(bp (ρ1:=[(n0 ns),some (.int t,9),(t9 n f),(b9 false),(i9 p),none,none,none,none,none,none]) (by simp[-Int.ofNat_eq_natCast,ep,jA])).trans ?_
 refine(bp (ρ1:=[(n0 ns),some (.int t,9),(t9 n f),(b9 false),(i9 p),some (.lst [],1),none,none,none,none,none]) (by simp)).trans ?_
 refine(bp ((kX (ρ1:=[(n0 ns),some (.int t,9),(t9 n f),(b9 false),(i9 p),some (.lst [],1),none,none,none,none,none]) (sM (m:=mw) (by omega) (q:=9) (by simp[-Int.ofNat_eq_natCast,ew]))).trans eW)).trans ?_
 refine(bp (ρ1:=[(n0 ns),some (.int t,9),(t9 n f),(b9 false),(i9 p),some (.lst (W.map (df n)),1),a,b,c,some (.lst [],1),none]) (by simp)).trans ?_
 refine(bp ((kX (ρ1:=[(n0 ns),some (.int t,9),(t9 n f),(b9 false),(i9 p),some (.lst (W.map (df n)),1),a,b,c,some (.lst [],1),none]) (sM (m:=mb) (by omega) (q:=9) (by simp[-Int.ofNat_eq_natCast,eb]))).trans eB)).trans ?_
 simp[-Int.ofNat_eq_natCast,cZ]
end
def sN{α:Type}{k:Nat}{pt:fS}{tt:cz}{te:aB}(enc:α->D)(ext:α->aR)(b:α->Bool)(v:α->D)(q:α->Nat):∀ l:List α,
  (∀ x∈l,pt (enc x) (ρ++List.replicate k none)=some (ρ++ext x)/\tt (ρ++ext x)=some (b x,ρ++ext x)/\(b x=true->te (ρ++ext x)=some (v x,q x,ρ++ext x)))->jF k pt tt te false (l.map enc) ρ=some ((l.filter b).map v,ρ)
 | [],_=>rfl
 | x::l,h=>by
  obtain⟨h1,h2,h3⟩:=h x Qk
  have ih:=sN enc ext b v q l (fun y m=>h y (Qh _ m))
  have ht:(ρ++ext x).take ρ.length=ρ:=by simp
  rw[QK]
  unfold jF
  rw[h1]
  simp only[h2]
  cases hb:b x with
  | true=>
   simp only[ZD,h3 hb,ht,ih]
   rw[List.filter_cons_of_pos hb]
   simp
  | false=>
   simp only[ht,ih]
   rw[List.filter_cons_of_neg (by rw[hb];simp)]
   simp
def z40(v:Nat)(l:List Nat):inD (iD v) (.lst (ak l))=some (decide (v∈l)):=by
 show some ((cC (ak l)).any fun y=>PyData.eqv y (bJ (iD v)))=_
 congr 1
 induction l with
 | nil=>rfl
 | cons a l ih=>
  have h1:(cC (ak (a::l)))=bJ (iD a)::cC (ak l):=rfl
  rw[h1,JH,ih]
  have h2:PyData.eqv (bJ (iD a)) (bJ (iD v))=decide (a=v):=HV a v
  rw[h2]
  by_cases h:a=v
  ·simp[h]
  ·have h':¬ v=a:=fun q=>h q.symm
   simp[h,h']
def Kx(v:Nat)(l:List Nat):jG (iD v) (.lst (ak l))=some (.bl (decide (v∈l))):=by
 unfold jG
 rw[Qi ⟨(Sh.int (k:=0) _).ok,(qh l).ok⟩,z40]
 rfl
def z4p{x:D×Nat}(h:ρ[i]? = some (some x)):ρ.set i (some x)=ρ:=by
 apply ZI
 intro k
 by_cases hk:i=k
 ·subst hk
  rw[h,QL (Qr.mp h).1]
 ·rw[QM hk]
def nV(h:ρ[i]? = some (some (.lst ds,q))):aa i ρ=some (.lst ds,0,ρ.set i (some (.lst ds,0))):=by
 unfold aa
 rw[h]
 by_cases hq:q=0
 ·subst hq
  rw[z4p h]
  rfl
 ·simp[hq]
def DK(e:g ρ=some (b,ρ1)):oF g ρ=some (!b,ρ1):=by unfold oF;rw[e]
def Ky(h:f ρ=some (.bl b,q,ρ1)):l_ f ρ=some (b,ρ1):=by unfold l_;rw[h];cases b<;>rfl
def z43(h:ρ[i]? = some (some (d,q)))(hl:iI d=some n):cq i ρ=some ((iD n),9,ρ):=by unfold cq;rw[h];simp only[hl]
def Kz{b:aB}{k:Int}(hb:b ρ=some (.int k,q',ρ))(h:ρ[i]? = some (some (x,q)))(ha:fC x k=some d)(hd:d.cK=false):aI i b ρ=some (d,9,ρ):=by
 unfold aI
 rw[h]
 simp only[hb,h,ha,hd,h_]
 simp
def DL{a b:aB}{k:Int}(h:a ρ=some (x,q,ρ1))(hb:b ρ1=some (.int k,q',ρ2))(ha:fC x k=some d)(hx:x.cK=false)(hd:d.cK=false):fh a b ρ=some (d,9,ρ2):=by
 unfold fh
 rw[h]
 simp only[hb,ha,hd,hx,h_]
 simp
def j5v{y:D}(h:f ρ=some (.tup [x,y],q,ρ1))(e:(ρ1.set i (some (x,h_ x))).set j (some (y,h_ y))=ρ2)(hi:i<ρ1.length)(hj:j<ρ1.length):vD f (mj (du (aL i) (du (aL j) kQ))) ρ=some (.nx ρ2):=by
 subst e
 unfold vD
 rw[h]
 simp[hi,hj]
def KA{α:Type}[DecidableEq α]:∀ {l m:List α},l.Nodup->(∀ x∈l,x∈m)->l.length<=m.length
 | [],m,_,_=>QS _
 | a::l,m,nd,h=>by
  have ha:=h a Qk
  obtain⟨n1,n2⟩:=Q9.mp nd
  have ih:=KA (l:=l) (m:=m.erase a) n2 fun x hx=>(YR (fun z=>n1 (by rw[<- z];exact hx))).mpr (h x (Qh _ hx))
  have:=Ya ha
  have:=Ys ha
  rw[Zh]
  omega
section
variable {α β γ:Type}[DecidableEq α][DecidableEq γ](enc:γ->α)(inj:∀ a b,enc a=enc b->a=b)
include inj
theorem zL(v:γ->β){k:γ}:∀ {ks:List γ},k∈ks->vL (ks.map enc) (ks.map v) (enc k)=some (v k)
 | [],h=>(QG h).elim
 | x::ks,h=>by
  simp only[QK,vL]
  by_cases hx:x=k
  ·subst hx;simp
  ·rw[Qj fun z=>hx (inj _ _ z)]
   exact zL v ((Qt.mp h).resolve_left fun z=>hx z.symm)
theorem DM(v:γ->β){k:γ}:∀ {ks:List γ},k ∉ ks->vL (ks.map enc) (ks.map v) (enc k)=none
 | [],h=>by simp[vL]
 | x::ks,h=>by
  simp only[QK,vL]
  rw[Qj fun z=>h (by rw[inj _ _ z];exact Qk)]
  exact DM v fun z=>h (Qh _ z)
theorem DN{k:γ}{ks:List γ}:ki (ks.map enc) (enc k)=true ↔ k∈ks:=by
 unfold ki
 rw[List.any_eq_true]
 exact⟨fun⟨x,hx,e⟩=>by
  obtain⟨y,hy,rfl⟩:=Qx.mp hx
  rw[<- inj _ _ (Q8 e)]
  exact hy,fun h=>⟨enc k,List.mem_map_of_mem h,Qy rfl⟩⟩
theorem KC(v:γ->β)(k:γ)(e:β):∀ ks:List γ,iN (ks.map enc) (ks.map v) (enc k) e=ks.map fun a=>if a=k then e else v a
 | []=>by simp[iN]
 | x::ks=>by
  simp only[QK,iN]
  rw[KC v k e ks]
  by_cases h:x=k
  ·subst h;simp
  ·have h':¬ enc x=enc k:=fun z=>h (inj _ _ z)
   rw[Qj h',Qj h]
end
def pq(a b:Nat×Nat)(h:bo a=bo b):a=b:=by
 have h1:Int.ofNat a.1=Int.ofNat b.1:=by injection h with e1 e2;injection e1
 have h2:Int.ofNat a.2=Int.ofNat b.2:=by injection h with e1 e2;injection e2 with e3 e4;injection e3
 exact Prod.ext (Uv h1) (Uv h2)
def z4u{fv:aB}{k k':MK}{cj:List D}(hv:fv ρ=some (d,q,ρ1))(h1:dv ρ1[i]? = true)(hk:fk ρ1=some (x,q',ρ2))(h2:ρ2[i]? = some (some (.mp k ds,1)))(dO:ds.length<1000)(hp:wA k ds x d=some (k',cj)) :
  wB i fk fv ρ=some (.nx (ρ2.set i (some (.mp k' cj,1)))):=by
 unfold wB
 rw[hv]
 simp only[h1,ZD,hk,h2,dO,hp]
def j08{k:MK}(h1:dv ρ[i]? = true)(hk:fk ρ=some (x,q,ρ1))(h2:ρ1[i]? = some (some (.mp k ds,q2)))(hg:rZ k ds x=some (some d)) :
  ub i fk ρ=some (d,h_ d,ρ1):=by
 unfold ub
 rw[Qi h1,hk]
 simp only[h2,hg]
def xl{g:bT}(h:g ρ=some (ds,ρ1))(hl:ds.length<=1000):gm g ρ=some (.tup ds,9,ρ1):=by
 unfold gm
 rw[h]
 exact Qi hl
def z9u(kp:List (Nat×Nat)):∀ i j,i<=j->j<(iM kp).length->rk ((iM kp).getD i (0,0))<=rk ((iM kp).getD j (0,0)):=fun i j rp hj=>by
 have up:=Yl (le:=fun a b:Nat×Nat=>decide (rk a<=rk b)) (fun a b c h1 h2=>Qy (V3 (Q8 h1) (Q8 h2))) (fun a b=>by
  rcases Uy (rk a) (rk b)with h|h
  ·rw[Qy h];rfl
  ·rw[Qy h,Uz]) kp
 rcases Nat.lt_or_eq_of_le rp with h|h
 ·have:=Jg.mp up i j (ZP rp hj) hj h
  rw[Qf,Qf,Qb (ZP rp hj),Qb hj]
  exact Q8 this
 ·rw[h];exact YS _
abbrev eX:=Bool×Nat
def cW (s:eX):D:=.tup [.str (if s.1 then "begin" else "place"),(iD s.2)]
def nW (C:dw)(s:eX):Prop:=s.2<(if s.1 then C.B.length else C.p)
def atS (C:dw)(z:Nat)(s:eX):Nat×Nat:=if s.1 then C.B.getD s.2 (0,0)else(s.2,z)
def gR (C:dw):List eX:=(List.range C.p).map (fun k=>(false,k))++(List.range C.B.length).map (fun k=>(true,k))
def DO{C:dw}{s:eX}:s∈gR C ↔ nW C s:=by
 obtain⟨b,k⟩:=s
 unfold gR nW
 rw[QF,Qx,Qx]
 cases b with
 | true=>
  refine⟨fun h=>h.elim (fun⟨_,_,e⟩=>by cases e) fun⟨k',hk,e⟩=>by cases e;exact QJ.mp hk,fun h=>.inr ⟨k,QJ.mpr h,rfl⟩⟩
 | false=>
  refine⟨fun h=>h.elim (fun⟨k',hk,e⟩=>by cases e;exact QJ.mp hk) (fun⟨_,_,e⟩=>by cases e),fun h=>.inl ⟨k,QJ.mpr h,rfl⟩⟩
abbrev ky (C:dw)(j:Nat):Nat×Nat×(Nat->Nat):=C.W.getD j (0,0,id)
def dC (C:dw)(k:Nat×Nat)(j:Nat):Nat×Nat:=((ky C j).2.1,(ky C j).2.2 k.2)
def dQ (C:dw)(a:Nat):List Nat:=(C.W.zipIdx.filter fun x=>decide (x.1.1=a)).map (·.2)
def sO{C:dw}{a:Nat}:j∈dQ C a ↔ j<C.W.length/\(ky C j).1=a:=by
 unfold dQ
 rw[Qx]
 constructor
 ·rintro ⟨x,hx,rfl⟩
  obtain⟨h1,h2⟩:=Zr.mp hx
  obtain⟨y,i⟩:=x
  have h3:=Y5.mp h1
  have hi:=(Qr.mp h3).1
  refine⟨hi,?_⟩
  show(C.W.getD i (0,0,id)).1=a
  rw[Qf,h3]
  exact Q8 h2
 ·rintro ⟨h1,h2⟩
  refine⟨(ky C j,j),Zr.mpr ⟨Y5.mpr ?_,Qy h2⟩,rfl⟩
  show C.W[j]? = some (C.W.getD j (0,0,id))
  rw[Qf,Qb h1]
  rfl
def z2d(C:dw)(a:Nat):(dQ C a).length<=C.W.length:=by
 unfold dQ
 rw[Qe]
 refine QU (ZL _ _) ?_
 rw[Vl]
 exact Qg _
def bq (x:eX×List Nat):D:=.tup [cW x.1,.lst (ak x.2)]
@[simp] theorem j38{x:eX×List Nat}:(bq x).cK=false:=rfl
@[simp] theorem j6u{k:Nat×Nat}:(ay k).cK=false:=rfl
@[simp] theorem j5r{s:eX}:(cW s).cK=false:=rfl
def j2r(s:eX):Sh 1 (cW s):=by
 obtain⟨b,k⟩:=s
 have h1:Sh 0 (.str (if b=true then "begin" else "place")):=by
  cases b with
  | true=>exact⟨by decide +kernel,QS _⟩
  | false=>exact⟨by decide +kernel,QS _⟩
 exact .tup fun d hd=>by
  rcases Qt.mp hd with rfl|hd
  ·exact h1
  ·rw[Qv.mp hd];exact .int _
def z9i(x:eX×List Nat):Sh 2 (bq x):=.tup fun d hd=>by
 rcases Qt.mp hd with h|hd
 ·rw[h];exact j2r _
 ·rw[Qv.mp hd];exact qh _
def z0n(ks:List (Nat×Nat))(P:Nat×Nat->eX×List Nat):j6 (ks.map fun k=>bq (P k))=true:=zw fun d hd=>by
 obtain⟨k,_,rfl⟩:=Qx.mp hd
 exact(z9i _).1
def aV (ks:List (Nat×Nat))(P:Nat×Nat->eX×List Nat):D:=.mp (.t (ks.map bo)) (ks.map fun k=>bq (P k))
def RS (C:dw)(z:Nat):Nat->Nat×Nat->Prop
 | 0,k=>∃ s,nW C s/\atS C z s=k
 | m+1,k=>∃ k',RS C z m k'/\∃ j,j<C.W.length/\(ky C j).1=k'.1/\dC C k' j=k
def Wk (C:dw):Nat×Nat->List Nat->Nat×Nat->Prop
 | k,[],k'=>k=k'
 | k,j::ws,k'=>j<C.W.length/\(ky C j).1=k.1/\Wk C (dC C k j) ws k'
def Wk.snoc{C:dw}{k':Nat×Nat}:∀ {ws:List Nat} {k:Nat×Nat},Wk C k ws k'->j<C.W.length->(ky C j).1=k'.1->Wk C k (ws++[j]) (dC C k' j)
 | [],k,h,h1,h2=>by
  have h:k=k':=h
  subst h
  exact⟨h1,h2,rfl⟩
 | i::ws,k,h,h1,h2=>⟨h.1,h.2.1,Wk.snoc h.2.2 h1 h2⟩
structure k7 (C:dw) (z m:Nat) (ks:List (Nat×Nat)) (P:Nat×Nat->eX×List Nat) (nw:List (Nat×Nat)):Prop where
 nd:ks.Nodup
 nn:nw.Nodup
 i1:∀ k∈ks,∃ j,j<=m/\RS C z j k/\(∀ i,i<j->¬ RS C z i k)/\nW C (P k).1/\Wk C (atS C z (P k).1) (P k).2 k/\(P k).2.length=j
 i2:∀ j k,j<=m->RS C z j k->k∈ks
 i3:∀ k,k∈nw ↔ RS C z m k/\∀ i,i<m->¬ RS C z i k
 ml:m+(if nw=[]then 0 else 1)<=ks.length
def k7.sub{C:dw}{P:Nat×Nat->eX×List Nat}(b:k7 C z m ks P nw):∀ k∈nw,k∈ks:=fun k hk=>b.i2 m k (Qg m) ((b.i3 k).mp hk).1
def k7.end{C:dw}{P:Nat×Nat->eX×List Nat}(b:k7 C z m ks P []):∀ j k,RS C z j k->k∈ks:=by
 have low:∀ k∈ks,∃ j,j<m/\RS C z j k:=fun k hk=>by
  obtain⟨j,h1,h2,h3,_⟩:=b.i1 k hk
  refine⟨j,Nat.lt_of_le_of_ne h1 fun e=>?_,h2⟩
  subst e
  exact absurd ((b.i3 k).mpr ⟨h2,h3⟩) (by simp)
 intro j
 induction j with
 | zero=>exact fun k h=>b.i2 0 k (QS _) h
 | succ j ih=>
  rintro k ⟨k',h1,h2⟩
  obtain⟨i,hi,hr⟩:=low k' (ih k' h1)
  exact b.i2 (i+1) k hi ⟨k',hr,h2⟩
def k7.next{C:dw}{L:List (Nat×Nat)}{P PL:Nat×Nat->eX×List Nat}(b:k7 C z m ks P nw)(bH:nw ≠ [])(nL:L.Nodup)(hL:∀ k,k∈L ↔ k ∉ ks/\∃ st∈nw,∃ j∈dQ C st.1,dC C st j=k)(hP:∀ k∈L,∃ st∈nw,∃ j∈dQ C st.1,dC C st j=k/\PL k=((P st).1,(P st).2++[j])) :
  k7 C z (m+1) (ks++L) (fun k=>if k∈L then PL k else P k) L:=by
 have key:∀ k,k∈L ↔ RS C z (m+1) k/\∀ i,i<m+1->¬ RS C z i k:=fun k=>by
  rw[hL]
  constructor
  ·rintro ⟨h1,st,h2,j,h3,rfl⟩
   obtain⟨h4,h5⟩:=sO.mp h3
   exact⟨⟨st,((b.i3 st).mp h2).1,j,h4,h5,rfl⟩,fun i hi h=>h1 (b.i2 i _ (by omega) h)⟩
  ·rintro ⟨⟨k',h1,j,h2,h3,rfl⟩,h4⟩
   refine⟨fun h=>?_,k',(b.i3 k').mpr ⟨h1,fun i hi h=>h4 (i+1) (by omega) ⟨k',h,j,h2,h3,rfl⟩⟩,j,sO.mpr ⟨h2,h3⟩,rfl⟩
   obtain⟨i,hi,hr,_⟩:=b.i1 _ h
   exact h4 i (by omega) hr
 refine⟨Jo.mpr ⟨b.nd,nL,fun x hx y hy e=>((hL y).mp hy).1 (by rw[<- e];exact hx)⟩,nL,fun k hk=>?_,fun j k hj h=>?_,key,?_⟩
 ·by_cases xm:k∈L
  ·obtain⟨st,h1,j,h2,e,hPL⟩:=hP k xm
   obtain⟨r1,r2⟩:=(key k).mp xm
   obtain⟨i,q1,q2,q3,q4,q5,q6⟩:=b.i1 st (b.sub st h1)
   have him:i=m:=by
    refine YX q1 (VW.mp fun z=>?_)
    exact((b.i3 st).mp h1).2 i z q2
   obtain⟨f1,f2⟩:=sO.mp h2
   refine⟨m+1,Qg _,r1,r2,?_⟩
   show nW C (if k∈L then PL k else P k).1/\Wk C (atS C z (if k∈L then PL k else P k).1) (if k∈L then PL k else P k).2 k/\(if k∈L then PL k else P k).2.length=m+1
   rw[Qi xm,hPL]
   refine⟨q4,?_,?_⟩
   ·rw[<- e]
    exact q5.snoc f1 f2
   ·show((P st).2++[j]).length=m+1
    rw[Qo,q6,him]
    rfl
  ·have hks:k∈ks:=(QF.mp hk).resolve_right xm
   obtain⟨j,h1,h2⟩:=b.i1 k hks
   refine⟨j,by omega,?_⟩
   show _/\_/\nW C (if k∈L then PL k else P k).1/\Wk C (atS C z (if k∈L then PL k else P k).1) (if k∈L then PL k else P k).2 k/\(if k∈L then PL k else P k).2.length=j
   rw[Qj xm]
   exact h2
 ·by_cases hjm:j<=m
  ·exact QA _ (b.i2 j k hjm h)
  ·have:j=m+1:=by omega
   subst this
   by_cases hk:k∈ks
   ·exact QA _ hk
   ·exact Qq _ ((key k).mpr ⟨h,fun i hi hr=>hk (b.i2 i k (by omega) hr)⟩)
 ·have:=b.ml
  rw[Qj bH]at this
  rw[Qo]
  by_cases DP:L=[]
  ·rw[Qi DP];omega
  ·rw[Qj DP]
   have:=Z9.mpr DP
   omega
section
variable {n:Nat}{f:Nat->Nat->Nat}(L:cw n f){z:Nat}(hz:z<n)(bz:∀ j,j<n->f z j=j){C:dw}(hC:C.Ok n f)
def KD{C:dw}(hj:j<C.W.length):ky C j∈C.W:=by
 unfold ky
 rw[Qf,Qb hj]
 exact Q4 hj
include L hz bz hC
theorem KG{s:eX}(h:nW C s):(atS C z s).1<C.p/\(atS C z s).2<n:=by
 obtain⟨b,k⟩:=s
 cases b with
 | true=>
  have hk:k<C.B.length:=h
  have:C.B.getD k (0,0)∈C.B:=by
   rw[Qf,Qb hk]
   exact Q4 hk
  exact hC.bs _ this
 | false=>exact⟨h,hz⟩
theorem KH{k:Nat×Nat}(hk:k.2<n)(hj:j<C.W.length):(dC C k j).1<C.p/\(dC C k j).2<n:=by
 have:=hC.ws _ (KD hj)
 exact⟨this.2.1,this.2.2.1 _ hk⟩
theorem sP:∀ {m:Nat} {k:Nat×Nat},RS C z m k->k.1<C.p/\k.2<n
 | 0,k,⟨s,h1,h2⟩=>by rw[<- h2];exact KG L hz bz hC h1
 | m+1,k,⟨k',h1,j,h2,h3,h4⟩=>by rw[<- h4];exact KH L hz bz hC (sP h1).2 h2
omit L hz bz hC in
theorem sQ{p n:Nat}(nd:ks.Nodup)(h:∀ k∈ks,k.1<p/\k.2<n):ks.length<=p*n:=by
 have h1:(ks.map fun k=>k.1*n+k.2).Nodup:=by
  refine List.Pairwise.map _ (fun a b my=>my) ((List.Pairwise.and_mem.mp nd).imp fun {a b} hh=>?_)
  obtain⟨ha,hb,bH⟩:=hh
  intro e
  have a2:=(h a ha).2
  have b2:=(h b hb).2
  have e:a.1*n+a.2=b.1*n+b.2:=e
  have e1:a.1=b.1:=by
   have x1:(a.1*n+a.2) / n=a.1:=by rw[Y9,Nat.mul_add_div (by omega),VP a2];omega
   have x2:(b.1*n+b.2) / n=b.1:=by rw[Y9,Nat.mul_add_div (by omega),VP b2];omega
   rw[<- x1,e,x2]
  rw[e1]at e
  exact bH (Prod.ext e1 (by omega))
 have:=KA (m:=List.range (p*n)) h1 fun x hx=>by
  obtain⟨k,hk,rfl⟩:=Qx.mp hx
  obtain⟨a,b⟩:=h k hk
  refine QJ.mpr ?_
  calc k.1*n+k.2<k.1*n+n:=by omega
   _=(k.1+1)*n:=by rw[Nat.succ_mul]
   _<=p*n:=Nat.mul_le_mul_right n a
 rw[Qe,QP]at this
 exact this
end
def z3q:eJ (.str "place") (.str "place")=some (.bl true):=by
 have h:dA (.str "place")=true:=by decide +kernel
 unfold eJ
 rw[Qi ⟨h,h⟩]
 rfl
def j4a:eJ (.str "begin") (.str "place")=some (.bl false):=by
 have h:dA (.str "begin")=true:=by decide +kernel
 have h':dA (.str "place")=true:=by decide +kernel
 have e:mf (.str "begin") (.str "place")=false:=by decide +kernel
 unfold eJ
 rw[Qi ⟨h,h'⟩,e]
section
variable {n:Nat}{f:Nat->Nat->Nat}(L:cw n f){z:Nat}(hz:z<n)(bz:∀ j,j<n->f z j=j){C:dw}(hC:C.Ok n f)
include hC
theorem y4u(a:Nat):sA [cZ n C,(iD a)]=(uL (dQ C a)):=by
 have hw:=hC.i6
 unfold sA IK
 refine gy (iW (ρ1:=[(c9 n C),(i9 a)]) ?_)
 have hi:vH (ae (aI 0 (eC (.int 1))) aj) [(c9 n C),(i9 a)]=some (C.W.zipIdx.map fun x=>.tup [(iD x.2),df n x.1],[(c9 n C),(i9 a)]):=by
  have h0:ae (aI 0 (eC (.int 1))) aj [(c9 n C),(i9 a)]=some ([.tup (C.W.map (df n))],[(c9 n C),(i9 a)]):=rfl
  unfold vH
  rw[h0]
  show(if(C.W.map (df n)).length<=1000 then some (mv (C.W.map (df n)),_)else none)=_
  rw[Qi (by rw[Qe];omega)]
  unfold mv
  rw[List.zipIdx_map,Q7]
  rfl
 have hc:=jO (k:=2) (pt:=mj (du (aL 2) (du (aL 3) kQ))) (tt:=bA (e2 eJ (aI 3 (eC (.int 0))) (aa 1))) (te:=aa 2) (deep:=false) hi (sN (k:=2) (fun x:(Nat×Nat×(Nat->Nat))×Nat=>.tup [(iD x.2),df n x.1]) (fun x=>[(i9 x.2),some (df n x.1,9)]) (fun x=>decide (x.1.1=a)) (fun x=>(iD x.2)) (fun _=>9) C.W.zipIdx (fun x hx=>by
  refine⟨rfl,?_,fun _=>rfl⟩
  exact gP (jt (fa:=aI 3 (eC (.int 0))) (fb:=aa 1) (q:=9) (q':=9) rfl rfl (zy x.1.1 a))))
 refine hc.trans ?_
 unfold dQ ak
 rw[Q7]
 rfl
theorem z1o{k:Nat×Nat}(hk:k.2<n)(hj:j<C.W.length):uh [cZ n C,ay k,(iD j)]=(p9 (dC C k j)):=by
 have e:fC (.tup (C.W.map (df n))) (Int.ofNat j)=some (df n (ky C j)):=uf (by rw[Ql,Qb hj];simp[hj])
 unfold uh IP
 refine gy ?_
 refine(bp (ρ1:=[(c9 n C),(p9 k),(i9 j),some (df n (ky C j),9)]) (g9 (DL (a:=aI 0 (eC (.int 1))) (b:=aa 2) (q:=9) (q':=9) rfl rfl e rfl rfl) rfl)).trans ?_
 have e2:=Ij (r:=(ky C j).2.2) hk
 exact iW (xl (sh (f:=aI 3 (eC (.int 1))) (q:=9) rfl (kq (DL (a:=aI 3 (eC (.int 2))) (b:=aI 1 (eC (.int 1))) (q:=9) (q':=9) rfl rfl e2 rfl rfl))) (by show 2<=1000;decide))
include L hz bz
theorem y9i{s:eX}(hs:nW C s):uk [cf n f,cZ n C,cW s]=(p9 (atS C z s)):=by
 have hn:n<=1000:=QU L.hi (by decide)
 obtain⟨b,k⟩:=s
 unfold uk IW
 cases b with
 | true=>
  have hk:k<C.B.length:=hs
  have e:fC (.tup (C.B.map lE)) (Int.ofNat k)=some (lE (C.B.getD k (0,0))):=uf (by rw[Ql,Qb hk];simp[hk])
  refine gy ?_
  refine(bp (ρ1:=[(t9 n f),(c9 n C),some (cW (true,k),9)]) ((nO (gP (jt (fa:=aI 2 (eC (.int 0))) (fb:=eC (.str "place")) (q:=9) (q':=9) rfl rfl j4a))).trans rfl)).trans ?_
  exact iW (DL (a:=aI 1 (eC (.int 2))) (b:=aI 2 (eC (.int 1))) (q:=9) (q':=9) rfl rfl e rfl rfl)
 | false=>
  refine gy (HF ((wI (gP (jt (fa:=aI 2 (eC (.int 0))) (fb:=eC (.str "place")) (q:=9) (q':=9) rfl rfl z3q))).trans ?_))
  exact iW (xl (sh (f:=aI 2 (eC (.int 1))) (q:=9) rfl (kq (fN (ds:=[cf n f]) (kq rfl) rfl (z54 L hz bz hn)))) (by show 2<=1000;decide))
omit L hz bz in
theorem y2s:sy [cZ n C]=some (.lst ((gR C).map cW),1):=by
 have hB:=hC.Kw
 have hp:=hC.p8
 unfold sy IH
 refine gy ?_
 show aH _ _ [(c9 n C),none]=_
 have c2:fC (cZ n C) 2=some (.tup (C.B.map lE)):=rfl
 have lB:iI (.tup (C.B.map lE))=some C.B.length:=by simp[iI]
 have h1:=jO (k:=1) (tt:=fL) (te:=gm (ae (eC (.str "place")) (ae (aa 2) aj))) (deep:=false) (sM (m:=C.p) (by omega) (fe:=aI 0 (eC (.int 0))) (ρ:=[(c9 n C),none]) (ρ':=[(c9 n C),none]) (q:=9) rfl) (wL (i:=2) rfl (fun _=>true) (fun k=>cW (false,k)) (fun _=>9) (fun k hk=>rfl) (fun k hk _=>by simp[-Int.ofNat_eq_natCast,cW]))
 rw[show(List.range C.p).filter (fun _=>true)=List.range C.p by simp]at h1
 refine(bp (ρ1:=[(c9 n C),some (.lst ((List.range C.p).map fun k=>cW (false,k)),1)]) (g9 h1 rfl)).trans ?_
 have h2:=jO (k:=1) (tt:=fL) (te:=gm (ae (eC (.str "begin")) (ae (aa 2) aj))) (deep:=false) (sM (m:=C.B.length) (by omega) (fe:=eB vm (ae (aI 0 (eC (.int 2))) aj)) (ρ:=[(c9 n C),some (.lst ((List.range C.p).map fun k=>cW (false,k)),0)]) (ρ':=[(c9 n C),some (.lst ((List.range C.p).map fun k=>cW (false,k)),0)]) (q:=9) (by simp[-Int.ofNat_eq_natCast,c2,lB])) (wL (i:=2) rfl (fun _=>true) (fun k=>cW (true,k)) (fun _=>9) (fun k hk=>rfl) (fun k hk _=>by simp[-Int.ofNat_eq_natCast,cW]))
 rw[show(List.range C.B.length).filter (fun _=>true)=List.range C.B.length by simp]at h2
 have ea:(gR C).map cW=((List.range C.p).map fun k=>cW (false,k))++((List.range C.B.length).map fun k=>cW (true,k)):=by
  unfold gR
  rw[Zb,Q7,Q7]
  rfl
 rw[ea]
 refine iW (ρ1:=[(c9 n C),some (.lst ((List.range C.p).map fun k=>cW (false,k)),0)]) ?_
 have v1:aa 1 [(c9 n C),some (.lst ((List.range C.p).map fun k=>cW (false,k)),1)]=some (.lst ((List.range C.p).map fun k=>cW (false,k)),0,[(c9 n C),some (.lst ((List.range C.p).map fun k=>cW (false,k)),0)]):=rfl
 unfold jq
 rw[v1]
 have hl:((List.range C.p).map fun k=>cW (false,k)).length+((List.range C.B.length).map fun k=>cW (true,k)).length<=1000:=by
  rw[Qe,Qe,QP,QP];omega
 generalize ((List.range C.p).map fun k=>cW (false,k))=x at *
 generalize ((List.range C.B.length).map fun k=>cW (true,k))=y at *
 rw[Qj (by decide)]at h2
 simp only[h2,Qi hl]
omit L hz bz hC in
theorem j5j(ks:List (Nat×Nat))(P:Nat×Nat->eX×List Nat)(r:Nat×Nat)(x:eX×List Nat):∃ bF:List (Nat×Nat),wA (.t (ks.map bo)) (ks.map fun k=>bq (P k)) (ay r) (bq x)=some (.t (bF.map bo),bF.map fun k=>bq (if k=r then x else P k))/\(∀ k,k∈bF ↔ k∈ks\/k=r)/\(ks.Nodup->bF.Nodup)/\bF.length<=ks.length+1:=by
 have e0:wA (.t (ks.map bo)) (ks.map fun k=>bq (P k)) (ay r) (bq x)=some (if ki (ks.map bo) (bo r)=true then(MK.t (ks.map bo),iN (ks.map bo) (ks.map fun k=>bq (P k)) (bo r) (bq x))else(.t (ks.map bo++[bo r]),(ks.map fun k=>bq (P k))++[bq x])):=rfl
 by_cases hm:r∈ks
 ·refine⟨ks,?_,fun k=>⟨.inl,fun h=>h.elim id fun h=>by rw[h];exact hm⟩,id,Jn _⟩
  rw[e0,Qi ((DN bo pq).mpr hm),KC bo pq]
  congr 2
  refine Q5 fun a _=>?_
  by_cases ha:a=r
  ·rw[Qi ha,Qi ha]
  ·rw[Qj ha,Qj ha]
 ·refine⟨ks++[r],?_,fun k=>by rw[QF,Qv],fun nd=>Jo.mpr ⟨nd,by simp,fun a ha b hb e=>hm (by rw[<- Qv.mp hb,<- e];exact ha)⟩,by rw[Qo];exact Qg _⟩
  rw[e0,Qj fun q=>hm ((DN bo pq).mp q),Zb,Zb]
  congr 3
  ·exact Q5 fun a ha=>by rw[Qj fun q=>hm (by rw[<- q];exact ha)]
  ·show [bq x]=[bq (if r=r then x else P r)]
   rw[Qi rfl]
def LI (C:dw)(ks:List (Nat×Nat))(P:Nat×Nat->eX×List Nat)(T:List ((Nat×Nat)×Nat))(M:List (Nat×Nat))(PM:Nat×Nat->eX×List Nat):Prop:=
 M.Nodup/\(∀ k,k∈M ↔ k ∉ ks/\∃ x∈T,dC C x.1 x.2=k)/\∀ k∈M,∃ x∈T,dC C x.1 x.2=k/\PM k=((P x.1).1,(P x.1).2++[x.2])
omit L hz bz hC in
theorem LI.old{P PM:Nat×Nat->eX×List Nat}{x:(Nat×Nat)×Nat}(h:LI C ks P T M PM)(hx:dC C x.1 x.2∈ks):LI C ks P (T++[x]) M PM:=by
 obtain⟨h1,h2,h3⟩:=h
 refine⟨h1,fun k=>?_,fun k hk=>?_⟩
 ·rw[h2]
  refine and_congr_right fun hk=>⟨fun⟨y,hy,e⟩=>⟨y,QA _ hy,e⟩,fun⟨y,hy,e⟩=>?_⟩
  rcases QF.mp hy with q|q
  ·exact⟨y,q,e⟩
  ·rw[Qv.mp q]at e
   exact absurd (by rw[<- e];exact hx) hk
 ·obtain⟨y,hy,e⟩:=h3 k hk
  exact⟨y,QA _ hy,e⟩
omit L hz bz hC in
theorem LI.new{M':List (Nat×Nat)}{P PM:Nat×Nat->eX×List Nat}{x:(Nat×Nat)×Nat}(h:LI C ks P T M PM)(hx:dC C x.1 x.2 ∉ ks)(h1:∀ k,k∈M' ↔ k∈M\/k=dC C x.1 x.2)(h2:M.Nodup->M'.Nodup) :
  LI C ks P (T++[x]) M' (fun k=>if k=dC C x.1 x.2 then((P x.1).1,(P x.1).2++[x.2])else PM k):=by
 obtain⟨a1,a2,a3⟩:=h
 refine⟨h2 a1,fun k=>?_,fun k hk=>?_⟩
 ·rw[h1,a2]
  constructor
  ·rintro (⟨q1,y,hy,e⟩|q)
   ·exact⟨q1,y,QA _ hy,e⟩
   ·rw[q]
    exact⟨hx,x,Qq _ Qk,rfl⟩
  ·rintro ⟨q1,y,hy,e⟩
   rcases QF.mp hy with q|q
   ·exact .inl ⟨q1,y,q,e⟩
   ·rw[Qv.mp q]at e
    exact .inr e.symm
 ·by_cases ke:k=dC C x.1 x.2
  ·exact⟨x,Qq _ Qk,ke.symm,Qi ke⟩
  ·obtain⟨y,hy,e1,e2⟩:=a3 k ((h1 k).mp hk |>.resolve_right ke)
   exact⟨y,QA _ hy,e1,by show(if k=dC C x.1 x.2 then _ else PM k)=_;rw[Qj ke];exact e2⟩
theorem z0q{P:Nat×Nat->eX×List Nat}(iV:∀ k∈ks,k.1<C.p/\k.2<n)(bO:∀ k∈nw,k∈ks)(hl:nw.length<=900)(hPl:∀ k∈ks,(P k).2.length<=900) :
  ∃ M PM,ui [cZ n C,aV ks P,.lst (nw.map ay)]=some (aV M PM,1)/\M.Nodup/\(∀ k,k∈M ↔ k ∉ ks/\∃ st∈nw,∃ j∈dQ C st.1,dC C st j=k)/\∀ k∈M,∃ st∈nw,∃ j∈dQ C st.1,dC C st j=k/\PM k=((P st).1,(P st).2++[j]):=by
 have hw:=hC.i6
 have ux:=hC.p8
 have jR:=L.hi
 have KI:C.p*n<=128:=QU (Vv ux jR) (by decide)
 obtain⟨ρ',e,M,PM,a,b,c,d,mY,rfl⟩:=jN (pt:=aL 4) (body:=Du) (nw.map ay)
  (fun i ρ=>∃ M PM a b c d,LI C ks P ((nw.take i).flatMap fun st=>(dQ C st.1).map fun j=>(st,j)) M PM/\ρ=[(c9 n C),some (aV ks P,0),some (.lst (nw.map ay),0),some (aV M PM,1),a,b,c,d])
  [(c9 n C),some (aV ks P,0),some (.lst (nw.map ay),0),some (aV [] P,1),none,none,none,none] (fun i hi ρ ag=>by
  obtain⟨M,PM,a,b,c,d,mY,hr⟩:=ag
  subst hr
  have cS:i<nw.length:=by rw[Qe]at hi;exact hi
  have ed:(nw.map ay)[i]=ay nw[i]:=by simp
  have et:nw.take (i+1)=nw.take i++[nw[i]]:=by rw[Z6];simp[cS]
  have ff:nw[i]∈nw:=Q4 cS
  rw[ed,et,List.flatMap_append]
  have xn:∀ k∈nw.take i,k∈nw:=fun k m=>JW m
  have hT0:∀ x∈(nw.take i).flatMap fun st=>(dQ C st.1).map fun j=>(st,j),x.1∈nw/\x.2∈dQ C x.1.1:=fun x hx=>by
   obtain⟨st,h1,h2⟩:=YI.mp hx
   obtain⟨j,h3,rfl⟩:=Qx.mp h2
   exact⟨xn st h1,h3⟩
  generalize ((nw.take i).flatMap fun st=>(dQ C st.1).map fun j=>(st,j))=T0 at *
  generalize nw[i]=st at *
  have sR:=bO st ff
  have DQ:=iV st sR
  have hj:∀ j∈dQ C st.1,j<C.W.length:=fun j hj=>(sO.mp hj).1
  refine⟨[(c9 n C),some (aV ks P,0),some (.lst (nw.map ay),0),some (aV M PM,1),(p9 st),b,c,d],?_⟩
  have hix:ub 1 (aa 4) [(c9 n C),some (aV ks P,0),some (.lst (nw.map ay),0),some (aV M PM,1),(p9 st),b,c,d]=some (bq (P st),9,[(c9 n C),some (aV ks P,0),some (.lst (nw.map ay),0),some (aV M PM,1),(p9 st),b,c,d]):=by
   refine(j08 (k:=.t (ks.map bo)) (ds:=ks.map fun k=>bq (P k)) (q2:=0) rfl rfl rfl (d:=bq (P st)) ?_).trans rfl
   show some (vL (ks.map bo) (ks.map fun k=>bq (P k)) (bo st))=_
   rw[zL bo pq _ sR]
  have inner:∃ M' uy c' d',LI C ks P (T0++(dQ C st.1).map fun j=>(st,j)) M' uy/\il (aL 6) wY (ak (dQ C st.1)) [(c9 n C),some (aV ks P,0),some (.lst (nw.map ay),0),some (aV M PM,1),(p9 st),some (bq (P st),9),c,d]=some (.nx [(c9 n C),some (aV ks P,0),some (.lst (nw.map ay),0),some (aV M' uy,1),(p9 st),some (bq (P st),9),c',d']):=by
   obtain⟨ρ2,e2,M',uy,c',d',pw,rfl⟩:=jN (pt:=aL 6) (body:=wY) (ak (dQ C st.1))
    (fun i ρ=>∃ M PM c d,LI C ks P (T0++((dQ C st.1).take i).map fun j=>(st,j)) M PM/\ρ=[(c9 n C),some (aV ks P,0),some (.lst (nw.map ay),0),some (aV M PM,1),(p9 st),some (bq (P st),9),c,d])
    [(c9 n C),some (aV ks P,0),some (.lst (nw.map ay),0),some (aV M PM,1),(p9 st),some (bq (P st),9),c,d] (fun i hi ρ ag=>by
    obtain⟨M,PM,c,d,mY,hr⟩:=ag
    subst hr
    have cS:i<(dQ C st.1).length:=by rw[g_]at hi;exact hi
    have ed:(ak (dQ C st.1))[i]=.int (Int.ofNat (dQ C st.1)[i]):=by simp[ak]
    have et:(dQ C st.1).take (i+1)=(dQ C st.1).take i++[(dQ C st.1)[i]]:=by rw[Z6];simp[cS]
    have Ck:=hj _ (Q4 cS)
    have hT:∀ x∈T0++((dQ C st.1).take i).map fun j=>(st,j),x.1∈nw/\x.2∈dQ C x.1.1:=fun x hx=>by
     rcases QF.mp hx with h|h
     ·exact hT0 x h
     ·obtain⟨j,h3,rfl⟩:=Qx.mp h
      exact⟨ff,JW h3⟩
    rw[ed,et,Zb,<- ZH]
    generalize T0++((dQ C st.1).take i).map (fun j=>(st,j))=T at *
    generalize (dQ C st.1)[i]=j at *
    have hMl:M.length<1000:=by
     have:=sQ (p:=C.p) (n:=n) mY.1 fun k hk=>by
      obtain⟨_,x,hx,rfl⟩:=(mY.2.1 k).mp hk
      obtain⟨y1,y2⟩:=hT x hx
      exact KH L hz bz hC (iV _ (bO _ y1)).2 (sO.mp y2).1
     omega
    have wb:=z1o (n:=n) hC (k:=st) DQ.2 Ck
    refine⟨[(c9 n C),some (aV ks P,0),some (.lst (nw.map ay),0),some (aV M PM,1),(p9 st),some (bq (P st),9),(i9 j),d],?_⟩
    have KJ:bh 7 (aS uh 3 (ae (aa 0) (ae (aa 4) (ae (aa 6) aj)))) [(c9 n C),some (aV ks P,0),some (.lst (nw.map ay),0),some (aV M PM,1),(p9 st),some (bq (P st),9),(i9 j),d]=some (.nx [(c9 n C),some (aV ks P,0),some (.lst (nw.map ay),0),some (aV M PM,1),(p9 st),some (bq (P st),9),(i9 j),(p9 (dC C st j))]):=
     g9 (fN (ds:=[cZ n C,ay st,(iD j)]) rfl rfl wb) rfl
    have oU:∀ b,(rZ (.t (ks.map bo)) (ks.map fun k=>bq (P k)) (ay (dC C st j))).map (fun r=>!r.isSome)=some b->bA (zi (aa 7) 1) [(c9 n C),some (aV ks P,0),some (.lst (nw.map ay),0),some (aV M PM,1),(p9 st),some (bq (P st),9),(i9 j),(p9 (dC C st j))]=some (b,[(c9 n C),some (aV ks P,0),some (.lst (nw.map ay),0),some (aV M PM,1),(p9 st),some (bq (P st),9),(i9 j),(p9 (dC C st j))]):=fun b hb=>by
     refine gP (q:=9) ?_
     obtain⟨r,e1,e2⟩:=Qw.mp hb
     show(match rZ (.t (ks.map bo)) (ks.map fun k=>bq (P k)) (ay (dC C st j))with|some r=>some (D.bl (!r.isSome),9,_)|none=>none)=_
     rw[e1,<- e2]
    have hmg:rZ (.t (ks.map bo)) (ks.map fun k=>bq (P k)) (ay (dC C st j))=some (vL (ks.map bo) (ks.map fun k=>bq (P k)) (bo (dC C st j))):=rfl
    by_cases hk:dC C st j∈ks
    ·refine⟨_,rfl,.inl ?_,M,PM,(i9 j),(p9 (dC C st j)),LI.old mY hk,rfl⟩
     unfold wY
     refine(bp KJ).trans ((nO (oU false ?_)).trans rfl)
     rw[hmg,zL bo pq _ hk]
     rfl
    ·obtain⟨M',p1,p2,p3,p4⟩:=j5j M PM (dC C st j) ((P st).1,(P st).2++[j])
     refine⟨_,rfl,.inl ?_,M',_,(i9 j),(p9 (dC C st j)),LI.new mY hk p2 p3,rfl⟩
     unfold wY
     refine(bp KJ).trans ((wI (oU true ?_)).trans ?_)
     ·rw[hmg,DM bo pq _ hk]
      rfl
     ·have DR:jq (aI 5 (eC (.int 1))) (dm (ae (aa 6) aj)) [(c9 n C),some (aV ks P,0),some (.lst (nw.map ay),0),some (aV M PM,1),(p9 st),some (bq (P st),9),(i9 j),(p9 (dC C st j))]=some (.lst (ak ((P st).2++[j])),1,[(c9 n C),some (aV ks P,0),some (.lst (nw.map ay),0),some (aV M PM,1),(p9 st),some (bq (P st),9),(i9 j),(p9 (dC C st j))]):=by
       show(if(ak (P st).2).length + [(iD j)].length<=1000 then some (D.lst (ak (P st).2++[(iD j)]),1,_)else none)=_
       rw[Qi (by rw[g_];have:=hPl st sR;show _+1<=1000;omega)]
       unfold ak
       rw[Zb]
       rfl
      have iu:=xl (sh (f:=aI 5 (eC (.int 0))) (ρ:=[(c9 n C),some (aV ks P,0),some (.lst (nw.map ay),0),some (aV M PM,1),(p9 st),some (bq (P st),9),(i9 j),(p9 (dC C st j))]) (q:=9) rfl (kq DR)) (by show 2<=1000;decide)
      exact(z4u (i:=3) (k:=.t (M.map bo)) (ds:=M.map fun k=>bq (PM k)) iu rfl rfl rfl (by rw[Qe];exact hMl) p1).trans rfl)
    ⟨M,PM,c,d,by rw[List.take_zero];show LI C ks P (T0++[]) M PM;rw[ZO];exact mY,rfl⟩
   rw[g_,ZZ]at pw
   exact⟨M',uy,c',d',pw,e2⟩
  obtain⟨M',uy,c',d',pw,e2⟩:=inner
  refine⟨_,rfl,.inl ?_,M',uy,(p9 st),some (bq (P st),9),c',d',by simpa using pw,rfl⟩
  unfold Du
  refine(bp (g9 hix rfl)).trans ?_
  have hwf:=y4u (n:=n) hC st.1
  have hit:eI (aS sA 2 (ae (aa 0) (ae (aI 4 (eC (.int 0))) aj))) [(c9 n C),some (aV ks P,0),some (.lst (nw.map ay),0),some (aV M PM,1),(p9 st),some (bq (P st),9),c,d]=some (ak (dQ C st.1),[(c9 n C),some (aV ks P,0),some (.lst (nw.map ay),0),some (aV M PM,1),(p9 st),some (bq (P st),9),c,d]):=by
   have xp:aS sA 2 (ae (aa 0) (ae (aI 4 (eC (.int 0))) aj)) [(c9 n C),some (aV ks P,0),some (.lst (nw.map ay),0),some (aV M PM,1),(p9 st),some (bq (P st),9),c,d]=some (.lst (ak (dQ C st.1)),1,[(c9 n C),some (aV ks P,0),some (.lst (nw.map ay),0),some (aV M PM,1),(p9 st),some (bq (P st),9),c,d]):=fN (ds:=[cZ n C,(iD st.1)]) rfl rfl hwf
   unfold eI
   rw[xp]
   exact Qi (by rw[g_];have:=z2d C st.1;omega)
  exact(kX hit).trans e2) ⟨[],P,none,none,none,none,⟨JR,fun k=>by simp,fun k hk=>absurd hk (by simp)⟩,rfl⟩
 rw[Qe,ZZ]at mY
 refine⟨M,PM,?_,mY.1,fun k=>?_,fun k hk=>?_⟩
 ·unfold ui IS
  refine gy ?_
  show aH _ _ [(c9 n C),some (aV ks P,0),some (.lst (nw.map ay),0),none,none,none,none,none]=_
  refine(bp (ρ1:=[(c9 n C),some (aV ks P,0),some (.lst (nw.map ay),0),some (aV [] P,1),none,none,none,none]) rfl).trans ?_
  refine(bp ((kX (ρ1:=[(c9 n C),some (aV ks P,0),some (.lst (nw.map ay),0),some (aV [] P,1),none,none,none,none]) (Qi (by rw[Qe];omega))).trans e)).trans rfl
 ·rw[mY.2.1]
  refine and_congr_right fun _=>⟨fun⟨x,hx,e⟩=>?_,fun⟨st,h1,j,h2,e⟩=>⟨(st,j),YI.mpr ⟨st,h1,Qx.mpr ⟨j,h2,rfl⟩⟩,e⟩⟩
  obtain⟨st,h1,h2⟩:=YI.mp hx
  obtain⟨j,h3,rfl⟩:=Qx.mp h2
  exact⟨st,h1,j,h3,e⟩
 ·obtain⟨x,hx,e1,e2⟩:=mY.2.2 k hk
  obtain⟨st,h1,h2⟩:=YI.mp hx
  obtain⟨j,h3,rfl⟩:=Qx.mp h2
  exact⟨st,h1,j,h3,e1,e2⟩
end
def z4q{z:D}{ks:List (List Key)}(h1:dv ρ[i]? = true)(hk:fk ρ=some (x,q,ρ1))(hz:fz ρ1=some (z,q',ρ2))(h2:ρ2[i]? = some (some (.mp (.t ks) ds,1)))(dO:ds.length<1000)(hy:ua x=some y)(hv:vL ks ds y=some d):sf i fk fz ρ=some (d,h_ d,ρ2):=by
 unfold sf
 rw[Qi h1,hk]
 simp only[hz,h2,dO,hy,hv,ZD]
def z0g{z:D}{ks:List (List Key)}(h1:dv ρ[i]? = true)(hk:fk ρ=some (x,q,ρ1))(hz:fz ρ1=some (z,q',ρ2))(h2:ρ2[i]? = some (some (.mp (.t ks) ds,1)))(dO:ds.length<1000)(hy:ua x=some y)(hv:vL ks ds y=none):sf i fk fz ρ=some (z,h_ z,ρ2.set i (some (.mp (.t (ks++[y])) (ds++[z]),1))):=by
 unfold sf
 rw[Qi h1,hk]
 simp only[hz,h2,dO,hy,hv,ZD]
def y6w{F:List D->OD}{f0 f2:aB}{qf:aR}{d0 d2:D}{q0:Nat}{k:MK}(h0:f0 ρ=some (d0,q0,qf))(h1:dv qf[i]? = true)(h2:f2 qf=some (d2,q2,ρ2))(h3:ρ2[i]? = some (some (.mp k ds,1)))(hF:F [d0,.mp k ds,d2]=some (r,q))(ok:zk q r=true):wF F i f0 f2 ρ=some (r,q,ρ2):=by
 unfold wF
 rw[h0]
 simp only[h1,ZD,h2,h3,hF,ok]
def xq(h:f ρ=some (d,q,ρ1)):fj f ρ=some (.nx ρ1):=by unfold fj;rw[h]
def KN(u:Nat×Nat->D):∀ (M ks:List (Nat×Nat)) (ds:List D),M.Nodup->(∀ x∈M,x ∉ ks)->lA (ks.map bo) ds (M.map bo) (M.map u)=((ks++M).map bo,ds++M.map u)
 | [],ks,ds,_,_=>by simp[lA]
 | x::M,ks,ds,nd,h=>by
  obtain⟨n1,n2⟩:=Q9.mp nd
  have hx:=h x Qk
  have e:mM (ks.map bo,ds) (bo x,u x)=((ks++[x]).map bo,ds++[u x]):=by
   unfold mM
   rw[Qj fun q=>hx ((DN bo pq).mp q),Zb]
   rfl
  have ih:=KN u M (ks++[x]) (ds++[u x]) n2 fun y hy q=>by
   rcases QF.mp q with q|q
   ·exact h y (Qh _ hy) q
   ·exact n1 (by rw[<- Qv.mp q];exact hy)
  show((M.map bo).zip (M.map u)).foldl mM (mM (ks.map bo,ds) (bo x,u x))=_
  rw[e]
  refine(show _=lA ((ks++[x]).map bo) (ds++[u x]) (M.map bo) (M.map u)from rfl).trans (ih.trans ?_)
  rw[ZH,ZH]
  rfl
section
variable {n:Nat}{f:Nat->Nat->Nat}(L:cw n f){z:Nat}(hz:z<n)(bz:∀ j,j<n->f z j=j){C:dw}(hC:C.Ok n f)
include L hz bz hC
theorem zM{P:Nat×Nat->eX×List Nat}(b:k7 C z m ks P nw):∀ k∈ks,k.1<C.p/\k.2<n:=fun k hk=>by
 obtain⟨j,_,h,_⟩:=b.i1 k hk
 exact sP L hz bz hC h
theorem zN{P:Nat×Nat->eX×List Nat}(b:k7 C z m ks P nw):ks.length<=C.p*n:=sQ b.nd (zM L hz bz hC b)
theorem z2m:∃ ks P x,k7 C z 0 ks P ks/\il (aL 3) Dw ((gR C).map cW) [(t9 n f),(c9 n C),some (aV [] P,1),none,none,none]=some (.nx [(t9 n f),(c9 n C),some (aV ks P,1),x,none,none]):=by
 have ux:=hC.p8
 have jR:=L.hi
 have KI:C.p*n<=128:=QU (Vv ux jR) (by decide)
 obtain⟨ρ',e,ks,P,x,nd,mem,hP,rfl⟩:=jN (pt:=aL 3) (body:=Dw) ((gR C).map cW)
  (fun i ρ=>∃ ks P x,ks.Nodup/\(∀ k,k∈ks ↔ ∃ s∈(gR C).take i,atS C z s=k)/\(∀ k∈ks,∃ s,nW C s/\atS C z s=k/\P k=(s,[]))/\ρ=[(t9 n f),(c9 n C),some (aV ks P,1),x,none,none])
  [(t9 n f),(c9 n C),some (.mp (.t []) [],1),none,none,none] (fun i hi ρ ag=>by
  obtain⟨ks,P,x,nd,mem,hP,hr⟩:=ag
  subst hr
  have cS:i<(gR C).length:=by rw[Qe]at hi;exact hi
  have ed:((gR C).map cW)[i]=cW (gR C)[i]:=by simp
  have et:(gR C).take (i+1)=(gR C).take i++[(gR C)[i]]:=by rw[Z6];simp[cS]
  have hs:nW C (gR C)[i]:=DO.mp (Q4 cS)
  rw[ed,et]
  generalize (gR C).take i=T at *
  generalize (gR C)[i]=s at *
  have hl:(ks.map fun k=>bq (P k)).length<1000:=by
   rw[Qe]
   have:=sQ (p:=C.p) (n:=n) nd fun k hk=>by
    obtain⟨s,h1,h2,_⟩:=hP k hk
    rw[<- h2]
    exact KG L hz bz hC h1
   omega
  have ff:=y9i L hz bz hC hs
  refine⟨[(t9 n f),(c9 n C),some (aV ks P,1),some (cW s,9),none,none],?_⟩
  have qx:aS uk 3 (ae (aa 0) (ae (aa 1) (ae (aa 3) aj))) [(t9 n f),(c9 n C),some (aV ks P,1),some (cW s,9),none,none]=some (ay (atS C z s),9,[(t9 n f),(c9 n C),some (aV ks P,1),some (cW s,9),none,none]):=fN (ds:=[cf n f,cZ n C,cW s]) rfl rfl ff
  by_cases hk:atS C z s∈ks
  ·refine⟨_,rfl,.inl (xq (z4q (ks:=ks.map bo) (ds:=ks.map fun k=>bq (P k)) (y:=bo (atS C z s)) rfl qx (z:=bq (s,[])) (q':=9) rfl rfl hl rfl (zL bo pq _ hk))),ks,P,some (cW s,9),nd,fun k=>?_,hP,rfl⟩
   rw[mem]
   refine⟨fun⟨t,h1,h2⟩=>⟨t,QA _ h1,h2⟩,fun⟨t,h1,h2⟩=>?_⟩
   rcases QF.mp h1 with h|h
   ·exact⟨t,h,h2⟩
   ·rw[Qv.mp h]at h2
    rw[<- h2]
    exact(mem _).mp hk
  ·refine⟨[(t9 n f),(c9 n C),some (aV (ks++[atS C z s]) (fun k=>if k=atS C z s then(s,[])else P k),1),some (cW s,9),none,none],rfl,.inl ?_,ks++[atS C z s],_,some (cW s,9),?_,fun k=>?_,fun k ke=>?_,rfl⟩
   ·refine(xq (z0g (ks:=ks.map bo) (ds:=ks.map fun k=>bq (P k)) (y:=bo (atS C z s)) rfl qx (z:=bq (s,[])) (q':=9) rfl rfl hl rfl (DM bo pq _ hk))).trans ?_
    have e1:(ks.map fun k=>bq (P k))++[bq (s,[])]=(ks++[atS C z s]).map fun k=>bq (if k=atS C z s then(s,[])else P k):=by
     rw[Zb]
     congr 1
     ·exact Q5 fun a ha=>by rw[Qj fun q=>hk (by rw[<- q];exact ha)]
     ·show _=[bq (if atS C z s=atS C z s then(s,[])else P (atS C z s))]
      rw[Qi rfl]
    have e2:ks.map bo++[bo (atS C z s)]=(ks++[atS C z s]).map bo:=by rw[Zb];rfl
    rw[e1,e2]
    rfl
   ·exact Jo.mpr ⟨nd,by simp,fun a ha b hb e=>hk (by rw[<- Qv.mp hb,<- e];exact ha)⟩
   ·rw[QF,mem,Qv]
    constructor
    ·rintro (⟨t,h1,h2⟩|h)
     ·exact⟨t,QA _ h1,h2⟩
     ·exact⟨s,Qq _ Qk,h.symm⟩
    ·rintro ⟨t,h1,h2⟩
     rcases QF.mp h1 with h|h
     ·exact .inl ⟨t,h,h2⟩
     ·rw[Qv.mp h]at h2
      exact .inr h2.symm
   ·by_cases ha:k=atS C z s
    ·exact⟨s,hs,ha.symm,Qi ha⟩
    ·have:k∈ks:=(QF.mp ke).resolve_right fun q=>ha (Qv.mp q)
     obtain⟨t,h1,h2,h3⟩:=hP k this
     exact⟨t,h1,h2,by show(if k=atS C z s then _ else P k)=_;rw[Qj ha];exact h3⟩)
  ⟨[],fun _=>((false,0),[]),none,JR,fun k=>by simp,fun k hk=>absurd hk (by simp),rfl⟩
 rw[Qe,ZZ]at mem
 have sS:∀ k,k∈ks ↔ RS C z 0 k:=fun k=>by
  rw[mem]
  exact⟨fun⟨s,h1,h2⟩=>⟨s,DO.mp h1,h2⟩,fun⟨s,h1,h2⟩=>⟨s,DO.mpr h1,h2⟩⟩
 refine⟨ks,P,x,⟨nd,nd,fun k hk=>?_,fun j k hj h=>?_,fun k=>?_,?_⟩,e⟩
 ·obtain⟨s,h1,h2,h3⟩:=hP k hk
  refine⟨0,Qg _,(sS k).mp hk,fun i hi=>absurd hi (Za i),?_⟩
  rw[h3]
  exact⟨h1,h2,rfl⟩
 ·obtain rfl:j=0:=Nat.le_zero.mp hj
  exact(sS k).mpr h
 ·rw[sS]
  exact⟨fun h=>⟨h,fun i hi=>absurd hi (Za i)⟩,fun h=>h.1⟩
 ·by_cases h:ks=[]
  ·rw[Qi h];exact QS _
  ·rw[Qj h]
   have:=Z9.mpr h
   omega
theorem y5s:∃ m ks P,k7 C z m ks P []/\sC [cf n f,cZ n C]=some (aV ks P,1):=by
 have ux:=hC.p8
 have hp1:=hC.p1
 have hb60:=hC.Kw
 have jR:=L.hi
 have KI:C.p*n<=128:=QU (Vv ux jR) (by decide)
 obtain⟨mZ,P0,x0,b0,e0⟩:=z2m L hz bz hC
 have hl0:=zN L hz bz hC b0
 have wh:∃ ρ',rF (l_ (aa 4)) Dv [(t9 n f),(c9 n C),some (aV mZ P0,1),x0,some (.lst (mZ.map ay),1),none]=some (.nx ρ')/\∃ m ks P x5,k7 C z m ks P []/\ρ'=[(t9 n f),(c9 n C),some (aV ks P,1),x0,some (.lst [],0),x5]:=by
  refine Dk (fun t ρ=>∃ m ks P nw x5,k7 C z m ks P nw/\t=2*(C.p*n-ks.length)+(if nw=[]then 0 else 1)/\ρ=[(t9 n f),(c9 n C),some (aV ks P,1),x0,some (.lst (nw.map ay),1),x5]) (k:=2*(C.p*n-mZ.length)+(if mZ=[]then 0 else 1)) (by split<;>omega) ⟨0,mZ,P0,mZ,none,b0,rfl,rfl⟩ ?_
  rintro t ρ ⟨m,ks,P,nw,x5,b,rfl,rfl⟩
  have hl:=zN L hz bz hC b
  by_cases uz:nw=[]
  ·subst uz
   exact .inl ⟨_,rfl,m,ks,P,x5,b,rfl⟩
  ·refine .inr ?_
   have DS:ks ≠ []:=fun q=>by
    obtain⟨k,hk⟩:=List.exists_mem_of_ne_nil _ uz
    have:=b.sub k hk
    rw[q]at this
    cases this
   have hnl:nw.length<=C.p*n:=sQ b.nn fun k hk=>zM L hz bz hC b k (b.sub k hk)
   have hml:=b.ml
   obtain⟨M,PM,eM,nM,hM,hPM⟩:=z0q L hz bz hC (ks:=ks) (nw:=nw) (P:=P) (zM L hz bz hC b) b.sub (by omega) (fun k hk=>by
    obtain⟨j,h1,_,_,_,_,h2⟩:=b.i1 k hk
    rw[Qj uz]at hml
    omega)
   have b':=b.next uz nM hM hPM
   have iP:=zN L hz bz hC b'
   rw[Qo]at iP
   refine⟨[(t9 n f),(c9 n C),some (aV ks P,1),x0,some (.lst (nw.map ay),0),x5],[(t9 n f),(c9 n C),some (aV (ks++M) (fun k=>if k∈M then PM k else P k),1),x0,some (.lst (M.map ay),1),some (aV M PM,1)],_,?_,?_,?_,m+1,ks++M,_,M,some (aV M PM,1),b',rfl,rfl⟩
   ·have:nw.map ay ≠ []:=fun q=>uz (J4.mp q)
    show(match Fg (.lst (nw.map ay))with|some b=>some (b,_)|none=>none)=_
    show some (!(nw.map ay).isEmpty,_)=_
    rw[List.isEmpty_eq_false_iff.mpr this]
    rfl
   ·unfold Dv
    have hb:=y6w (F:=ui) (i:=2) (f0:=aa 1) (f2:=aa 4) (ρ:=[(t9 n f),(c9 n C),some (aV ks P,1),x0,some (.lst (nw.map ay),0),x5]) (q0:=9) (q2:=0) (k:=.t (ks.map bo)) (ds:=ks.map fun k=>bq (P k)) rfl rfl rfl rfl eM (z0n M PM)
    refine(bp (ρ1:=[(t9 n f),(c9 n C),some (aV ks P,1),x0,some (.lst (nw.map ay),0),some (aV M PM,1)]) (g9 hb rfl)).trans ?_
    have hu:zh 2 5 [(t9 n f),(c9 n C),some (aV ks P,1),x0,some (.lst (nw.map ay),0),some (aV M PM,1)]=some (.aK,9,[(t9 n f),(c9 n C),some (aV (ks++M) (fun k=>if k∈M then PM k else P k),1),x0,some (.lst (nw.map ay),0),some (aV M PM,1)]):=by
     show(if 2≠5/\(ks.map fun k=>bq (P k)) ≠ []/\(ks.map fun k=>bq (P k)).length<=400/\(M.map fun k=>bq (PM k)).length<=400 then some (D.aK,9,([(t9 n f),(c9 n C),some (aV ks P,1),x0,some (.lst (nw.map ay),0),some (aV M PM,1)]:aR).set 2 (some (.mp (.t (lA (ks.map bo) (ks.map fun k=>bq (P k)) (M.map bo) (M.map fun k=>bq (PM k))).1) (lA (ks.map bo) (ks.map fun k=>bq (P k)) (M.map bo) (M.map fun k=>bq (PM k))).2,1)))else none)=_
     rw[Qi ⟨by decide,fun q=>DS (J4.mp q),by rw[Qe];omega,by rw[Qe];omega⟩]
     rw[KN (fun k=>bq (PM k)) M ks _ nM fun x hx=>((hM x).mp hx).1]
     have e1:(ks.map fun k=>bq (P k))++(M.map fun k=>bq (PM k))=(ks++M).map fun k=>bq (if k∈M then PM k else P k):=by
      rw[Zb]
      congr 1
      ·exact Q5 fun a ha=>by rw[Qj fun q=>((hM a).mp q).1 ha]
      ·exact Q5 fun a ha=>by rw[Qi ha]
     show some (D.aK,9,([(t9 n f),(c9 n C),some (aV ks P,1),x0,some (.lst (nw.map ay),0),some (aV M PM,1)]:aR).set 2 (some (.mp (.t ((ks++M).map bo)) ((ks.map fun k=>bq (P k))++(M.map fun k=>bq (PM k))),1)))=_
     rw[e1]
     rfl
    refine(bp (xq hu)).trans ?_
    have sT:uc 5 [(t9 n f),(c9 n C),some (aV (ks++M) (fun k=>if k∈M then PM k else P k),1),x0,some (.lst (nw.map ay),0),some (aV M PM,1)]=some (.lst (M.map ay),1,[(t9 n f),(c9 n C),some (aV (ks++M) (fun k=>if k∈M then PM k else P k),1),x0,some (.lst (nw.map ay),0),some (aV M PM,1)]):=by
     show(if(M.map bo).length<=1000 then some (D.lst ((M.map bo).map zg),1,_)else none)=_
     rw[Qi (by rw[Qe];omega),Q7]
     rfl
    exact g9 sT rfl
   ·rw[Qo,Qj uz]
    by_cases DT:M=[]
    ·subst DT
     rw[Qi rfl]
     simp
    ·rw[Qj DT]
     have:=Z9.mpr DT
     omega
 obtain⟨ρ',ew,m,ks,P,x5,b,rfl⟩:=wh
 refine⟨m,ks,P,b,?_⟩
 unfold sC IX
 refine gy ?_
 show aH _ _ [(t9 n f),(c9 n C),none,none,none,none]=_
 refine(bp (ρ1:=[(t9 n f),(c9 n C),some (.mp (.t []) [],1),none,none,none]) rfl).trans ?_
 have dF:=y2s (n:=n) hC
 have hal:((gR C).map cW).length<=1000:=by
  rw[Qe]
  unfold gR
  rw[Qo,Qe,Qe,QP,QP]
  omega
 have hit:eI (aS sy 1 (ae (aa 1) aj)) [(t9 n f),(c9 n C),some (.mp (.t []) [],1),none,none,none]=some ((gR C).map cW,[(t9 n f),(c9 n C),some (.mp (.t []) [],1),none,none,none]):=by
  have xp:aS sy 1 (ae (aa 1) aj) [(t9 n f),(c9 n C),some (.mp (.t []) [],1),none,none,none]=some (.lst ((gR C).map cW),1,[(t9 n f),(c9 n C),some (.mp (.t []) [],1),none,none,none]):=fN (ds:=[cZ n C]) rfl rfl dF
  unfold eI
  rw[xp]
  exact Qi hal
 refine(bp ((kX hit).trans e0)).trans ?_
 have sT:uc 2 [(t9 n f),(c9 n C),some (aV mZ P0,1),x0,none,none]=some (.lst (mZ.map ay),1,[(t9 n f),(c9 n C),some (aV mZ P0,1),x0,none,none]):=by
  show(if(mZ.map bo).length<=1000 then some (D.lst ((mZ.map bo).map zg),1,_)else none)=_
  rw[Qi (by rw[Qe];omega),Q7]
  rfl
 refine(bp (g9 sT rfl)).trans ?_
 exact(bp ew).trans rfl
theorem z1l(mE:C.p*n<64):∃ ks:List (Nat×Nat),ks.Nodup/\(∀ k,k∈ks ↔ ∃ m,RS C z m k)/\w_ [cf n f,cZ n C]=some (.lst ((iM ks).map ay),1):=by
 obtain⟨m,ks,P,b,e⟩:=y5s L hz bz hC
 have hl:=zN L hz bz hC b
 have iV:=zM L hz bz hC b
 have jR:=L.hi
 refine⟨ks,b.nd,fun k=>⟨fun hk=>?_,fun⟨j,hj⟩=>b.end j k hj⟩,?_⟩
 ·obtain⟨j,_,h,_⟩:=b.i1 k hk
  exact⟨j,h⟩
 ·unfold w_ IY
  refine gy (iW (ρ1:=[(t9 n f),(c9 n C)]) ?_)
  have xp:aS sC 2 (ae (aa 0) (ae (aa 1) aj)) [(t9 n f),(c9 n C)]=some (aV ks P,1,[(t9 n f),(c9 n C)]):=fN (ds:=[cf n f,cZ n C]) rfl rfl e
  show wD (aS sC 2 (ae (aa 0) (ae (aa 1) aj))) [(t9 n f),(c9 n C)]=_
  unfold wD
  rw[xp]
  show(match se (ks.map bo)with|some kp=>if kp.length<64 then some (D.lst ((iM kp).map ay),1,_)else none|none=>none)=_
  rw[Hj ks fun x hx=>by have:=(iV x hx).2;omega]
  show(if ks.length<64 then some (D.lst ((iM ks).map ay),1,_)else none)=_
  rw[Qi (by omega)]
end
def z9e(e:g ρ=some (false,ρ1)):q9 g h ρ=some (false,ρ1):=by unfold q9;rw[e];rfl
def KO(e:g ρ=some (true,ρ1)):q9 g h ρ=h ρ1:=by unfold q9;rw[e];rfl
def j33{es:List D}(hl:rA ρ[i]? = true)(hf:f ρ=some (.lst es,1,ρ1))(h1:ρ1[i]? = some (some (.lst ds,1)))(hn:ds.length+es.length<=1000)(e:ρ1.set i (some (.lst (ds++es),1))=ρ2):fj (tV i f) ρ=some (.nx ρ2):=by
 unfold fj tV
 rw[Qi hl,hf]
 simp only[h1,hn,ZD,e]
def DU{e:D}(h:fa ρ=some (d,q,ρ1))(h1:ρ1[i]? = some (some (e,q')))(hr:vj d e=some r):pW fa i ρ=some (r,9,ρ1):=by
 unfold pW
 rw[h]
 simp only[h1,hr]
def DV(l:List (Nat×Nat)):Sh 2 (.lst (l.map ay)):=.lst fun d hd=>by
 obtain⟨k,_,rfl⟩:=Qx.mp hd
 exact zx [k.1,k.2]
def KP(a k:Nat×Nat):mf (ay a) (ay k)=decide (a=k):=by
 refine(HU [a.1,a.2] [k.1,k.2]).trans ?_
 exact Jw.mpr ⟨fun h=>by injection h with e1 e2;injection e2 with e3;exact Prod.ext e1 e3,fun h=>by rw[h]⟩
def j0t(k:Nat×Nat)(l:List (Nat×Nat)):inD (ay k) (.lst (l.map ay))=some (decide (k∈l)):=by
 show some ((cC (l.map ay)).any fun y=>PyData.eqv y (bJ (ay k)))=_
 congr 1
 induction l with
 | nil=>simp[cC]
 | cons a l ih=>
  have h1:cC ((a::l).map ay)=bJ (ay a)::cC (l.map ay):=by rw[QK,cC]
  rw[h1,JH,ih]
  have h2:PyData.eqv (bJ (ay a)) (bJ (ay k))=decide (a=k):=KP a k
  rw[h2]
  by_cases h:a=k
  ·simp[h]
  ·have h':¬ k=a:=fun q=>h q.symm
   simp[h,h']
def DW(k:Nat×Nat)(l:List (Nat×Nat)):vj (ay k) (.lst (l.map ay))=some (.bl (!decide (k∈l))):=by
 unfold vj
 rw[Qi ⟨(zx [k.1,k.2]).ok,(DV l).ok⟩,j0t]
 rfl
def z8v(l:List (Nat×Nat)):g7 (.lst (l.map ay)) (.lst (l.map ay))=some (.bl false):=by
 have key:∀ l:List (Nat×Nat),PyData.eqvAll (cC (l.map ay)) (cC (l.map ay))=true:=by
  intro l
  induction l with
  | nil=>rfl
  | cons a l ih=>
   show(PyData.eqv (bJ (ay a)) (bJ (ay a))&&PyData.eqvAll (cC (l.map ay)) (cC (l.map ay)))=true
   rw[ih,show PyData.eqv (bJ (ay a)) (bJ (ay a))=true from(KP a a).trans (Qy rfl)]
   rfl
 unfold g7
 rw[Qi ⟨(DV l).ok,(DV l).ok⟩]
 show some (D.bl (!PyData.eqvAll (cC (l.map ay)) (cC (l.map ay))))=_
 rw[key]
 rfl
def z0i{a b:List (Nat×Nat)}(ha:a.Nodup)(hb:b.Nodup)(h:∀ x,x∈a ↔ x∈b)(dP:∀ x∈b,x.2<1000):iM a=iM b:=CQ dP ((J6 _ _).trans (CM ha hb h)) (z9u a)
section
variable {n:Nat}{f:Nat->Nat->Nat}(L:cw n f){z:Nat}(hz:z<n)(bz:∀ j,j<n->f z j=j){C:dw}(hC:C.Ok n f)
include L hz bz hC
theorem y35(mE:C.p*n<64)(hpb:C.p+C.B.length<64):∃ ks:List (Nat×Nat),ks.Nodup/\(∀ k,k∈ks ↔ ∃ m,RS C z m k)/\xa [cf n f,cZ n C]=some (.lst ((iM ks).map ay),1):=by
 have hn:n<=1000:=QU L.hi (by decide)
 have jR:=L.hi
 have hw:=hC.i6
 have ux:=hC.p8
 obtain⟨A,hA⟩:∃ A,A=(List.range C.p).map fun a=>(a,z):=⟨_,rfl⟩
 have KQ:A.length=C.p:=by rw[hA,Qe,QP]
 obtain⟨F0,DX⟩:∃ F0,F0=A++C.B.filter fun b=>!decide (b∈A):=⟨_,rfl⟩
 have DY:F0.length<64:=by
  rw[DX,Qo,KQ]
  have:=ZL (fun b=>!decide (b∈A)) C.B
  omega
 have sU:∀ k,k∈F0 ↔ RS C z 0 k:=fun k=>by
  rw[DX,QF,Zr]
  constructor
  ·rintro (h|⟨h,_⟩)
   ·rw[hA]at h
    obtain⟨a,ha,rfl⟩:=Qx.mp h
    exact⟨(false,a),QJ.mp ha,rfl⟩
   ·obtain⟨i,hi,e⟩:=Zf h
    refine⟨(true,i),hi,?_⟩
    show C.B.getD i (0,0)=k
    rw[Qf,Qb hi]
    exact e
  ·rintro ⟨⟨b,i⟩,h1,h2⟩
   cases b with
   | false=>
    refine .inl ?_
    rw[hA,<- h2]
    exact Qx.mpr ⟨i,QJ.mpr h1,rfl⟩
   | true=>
    have hi:i<C.B.length:=h1
    have hk:k∈C.B:=by
     rw[<- h2]
     show C.B.getD i (0,0)∈C.B
     rw[Qf,Qb hi]
     exact Q4 hi
    by_cases KR:k∈A
    ·exact .inl KR
    ·exact .inr ⟨hk,by rw[QW KR];rfl⟩
 have sV:∀ x∈F0,x.2<1000:=fun x hx=>by
  have:=(sP L hz bz hC ((sU x).mp hx)).2
  omega
 have wh:∃ ρ',rF (bA (e2 j4 (aa 3) (cq 2))) Dx [(t9 n f),(c9 n C),some (.lst ((jL F0).map ay),1),some (.int 0,9),(none:OD),(none:OD),(none:OD),(none:OD),(none:OD)]=some (.nx ρ')/\∃ (G:List (Nat×Nat)) (i a b c d e:OD),G.Nodup/\(∀ k,k∈G ↔ ∃ m,RS C z m k)/\ρ'=[(t9 n f),(c9 n C),some (.lst (G.map ay),1),i,a,b,c,d,e]:=by
  refine Dk (fun t ρ=>∃ (G:List (Nat×Nat)) (i:Nat) (a b c d e:OD),G.Nodup/\(∀ k∈G,∃ m,RS C z m k)/\(∀ k,RS C z 0 k->k∈G)/\i<=G.length/\(∀ k∈G.take i,∀ j∈dQ C k.1,dC C k j∈G)/\t=C.p*n-i/\ρ=[(t9 n f),(c9 n C),some (.lst (G.map ay),1),(i9 i),a,b,c,d,e]) (k:=C.p*n-0) (by omega)
   ⟨jL F0,0,none,none,none,none,none,Hd _,fun k hk=>⟨0,(sU k).mp (y8.mp hk)⟩,fun k hk=>y8.mpr ((sU k).mpr hk),QS _,fun k hk=>by simp at hk,rfl,rfl⟩ ?_
  rintro t ρ ⟨G,i,a,b,c,d,e,nd,h1,h2,hi,h3,rfl,rfl⟩
  have iV:∀ k∈G,k.1<C.p/\k.2<n:=fun k hk=>by
   obtain⟨m,h⟩:=h1 k hk
   exact sP L hz bz hC h
  have hGl:=sQ nd iV
  have m7:bA (e2 j4 (aa 3) (cq 2)) [(t9 n f),(c9 n C),some (.lst (G.map ay),1),(i9 i),a,b,c,d,e]=some (decide (i<G.length),[(t9 n f),(c9 n C),some (.lst (G.map ay),1),(i9 i),a,b,c,d,e]):=by
   refine gP (jt (fa:=aa 3) (fb:=cq 2) (q:=9) (q':=9) rfl (z43 rfl (by show some (G.map ay).length=_;rw[Qe])) ?_)
   show some (D.bl (decide (Int.ofNat i<Int.ofNat G.length)))=_
   congr 2
   exact Jw.mpr Int.ofNat_lt
  by_cases bL:i<G.length
  ·refine .inr ?_
   rw[Qy bL]at m7
   have DZ:=Q4 bL
   obtain⟨k0,t7⟩:∃ k0,k0=G[i]:=⟨_,rfl⟩
   rw[<- t7]at DZ
   have D0:=iV k0 DZ
   have eat:fC (.lst (G.map ay)) (Int.ofNat i)=some (ay k0):=uf (by rw[Ql,Qb bL,<- t7];rfl)
   have inner:∃ (G':List (Nat×Nat)) (c' d' e':OD),G'.Nodup/\(∀ k∈G',∃ m,RS C z m k)/\(∃ X,G'=G++X)/\(∀ w∈C.W,w.1=k0.1->(w.2.1,w.2.2 k0.2)∈G')/\il (mj (du (aL 6) (du (aL 7) (du (aL 8) kQ)))) uo (C.W.map (df n)) [(t9 n f),(c9 n C),some (.lst (G.map ay),1),(i9 i),(i9 k0.1),(i9 k0.2),c,d,e]=some (.nx [(t9 n f),(c9 n C),some (.lst (G'.map ay),1),(i9 i),(i9 k0.1),(i9 k0.2),c',d',e']):=by
    obtain⟨ρ2,ee,G',c',d',e',g1,g2,g3,g4,rfl⟩:=jN (pt:=mj (du (aL 6) (du (aL 7) (du (aL 8) kQ)))) (body:=uo) (C.W.map (df n))
     (fun l ρ=>∃ (G':List (Nat×Nat)) (c' d' e':OD),G'.Nodup/\(∀ k∈G',∃ m,RS C z m k)/\(∃ X,G'=G++X)/\(∀ w∈C.W.take l,w.1=k0.1->(w.2.1,w.2.2 k0.2)∈G')/\ρ=[(t9 n f),(c9 n C),some (.lst (G'.map ay),1),(i9 i),(i9 k0.1),(i9 k0.2),c',d',e'])
     [(t9 n f),(c9 n C),some (.lst (G.map ay),1),(i9 i),(i9 k0.1),(i9 k0.2),c,d,e] (fun l hl ρ ag=>by
     obtain⟨G',c',d',e',g1,g2,g3,g4,hr⟩:=ag
     subst hr
     have iP:l<C.W.length:=by rw[Qe]at hl;exact hl
     have ed:(C.W.map (df n))[l]=df n C.W[l]:=by simp
     have et:C.W.take (l+1)=C.W.take l++[C.W[l]]:=by rw[Z6];simp[iP]
     have hwm:=Q4 iP
     have tH:ky C l=C.W[l]:=by unfold ky;rw[Qf,Qb iP];rfl
     rw[ed,et]
     generalize C.W[l]=w at *
     obtain⟨s,g,r⟩:=w
     have aw:=hC.ws _ hwm
     have hGl':=sQ (p:=C.p) (n:=n) g1 fun k hk=>by
      obtain⟨m,h⟩:=g2 k hk
      exact sP L hz bz hC h
     refine⟨[(t9 n f),(c9 n C),some (.lst (G'.map ay),1),(i9 i),(i9 k0.1),(i9 k0.2),(i9 s),(i9 g),(r9 n r)],?_⟩
     have c1:bA (e2 eJ (aa 6) (aa 4)) [(t9 n f),(c9 n C),some (.lst (G'.map ay),1),(i9 i),(i9 k0.1),(i9 k0.2),(i9 s),(i9 g),(r9 n r)]=some (decide (s=k0.1),[(t9 n f),(c9 n C),some (.lst (G'.map ay),1),(i9 i),(i9 k0.1),(i9 k0.2),(i9 s),(i9 g),(r9 n r)]):=gP (jt (fa:=aa 6) (fb:=aa 4) (q:=9) (q':=9) rfl rfl (zy s k0.1))
     have e8:gm (ae (aa 7) (ae (aI 8 (aa 5)) aj)) [(t9 n f),(c9 n C),some (.lst (G'.map ay),1),(i9 i),(i9 k0.1),(i9 k0.2),(i9 s),(i9 g),(r9 n r)]=some (ay (g,r k0.2),9,[(t9 n f),(c9 n C),some (.lst (G'.map ay),1),(i9 i),(i9 k0.1),(i9 k0.2),(i9 s),(i9 g),(r9 n r)]):=
      xl (sh (f:=aa 7) (q:=9) rfl (kq (Kz (i:=8) (b:=aa 5) (q:=9) (q':=9) rfl rfl (Ij (r:=r) D0.2) rfl))) (by show 2<=1000;decide)
     by_cases hs:s=k0.1
     ·rw[Qy hs]at c1
      by_cases kW:(g,r k0.2)∈G'
      ·refine⟨_,rfl,.inl ?_,G',(i9 s),(i9 g),(r9 n r),g1,g2,g3,fun w sW sX=>?_,rfl⟩
       ·unfold uo
        refine(nO ((KO c1).trans (gP (DU e8 rfl ((DW (g,r k0.2) G').trans (by rw[Qy kW];rfl)))))).trans rfl
       ·rcases QF.mp sW with q|q
        ·exact g4 w q sX
        ·rw[Qv.mp q];exact kW
      ·refine⟨[(t9 n f),(c9 n C),some (.lst ((G'++[(g,r k0.2)]).map ay),1),(i9 i),(i9 k0.1),(i9 k0.2),(i9 s),(i9 g),(r9 n r)],rfl,.inl ?_,G'++[(g,r k0.2)],_,_,_,?_,fun k hk=>?_,?_,fun w sW sX=>?_,rfl⟩
       ·unfold uo
        refine(wI ((KO c1).trans (gP (DU e8 rfl ((DW (g,r k0.2) G').trans (by rw[QW kW];rfl)))))).trans ?_
        refine Dj (ds:=G'.map ay) (d:=ay (g,r k0.2)) rfl (kq e8) rfl (by rw[Qe];omega) ?_
        rw[Zb]
        rfl
       ·exact Jo.mpr ⟨g1,by simp,fun x hx y hy e=>kW (by rw[<- Qv.mp hy,<- e];exact hx)⟩
       ·rcases QF.mp hk with q|q
        ·exact g2 k q
        ·rw[Qv.mp q]
         obtain⟨m,hm⟩:=h1 k0 DZ
         refine⟨m+1,k0,hm,l,iP,by rw[tH];exact hs,?_⟩
         unfold dC
         rw[tH]
       ·obtain⟨X,hX⟩:=g3
        exact⟨X++[(g,r k0.2)],by rw[hX,ZH]⟩
       ·rcases QF.mp sW with q|q
        ·exact QA _ (g4 w q sX)
        ·rw[Qv.mp q];exact Qq _ Qk
     ·rw[QW hs]at c1
      refine⟨_,rfl,.inl ?_,G',(i9 s),(i9 g),(r9 n r),g1,g2,g3,fun w sW sX=>?_,rfl⟩
      ·unfold uo
       exact(nO (z9e c1)).trans rfl
      ·rcases QF.mp sW with q|q
       ·exact g4 w q sX
       ·rw[Qv.mp q]at sX;exact absurd sX hs) ⟨G,c,d,e,nd,h1,⟨[],(ZO G).symm⟩,fun w sW=>by simp at sW,rfl⟩
    rw[Qe,ZZ]at g4
    exact⟨G',c',d',e',g1,g2,g3,g4,ee⟩
   obtain⟨G',c',d',e',g1,g2,⟨X,hX⟩,g4,ee⟩:=inner
   refine⟨_,[(t9 n f),(c9 n C),some (.lst (G'.map ay),1),(i9 (i+1)),(i9 k0.1),(i9 k0.2),c',d',e'],C.p*n-(i+1),m7,?_,by omega,G',i+1,_,_,_,_,_,g1,g2,fun k hk=>by rw[hX];exact QA _ (h2 k hk),by rw[hX,Qo];omega,fun k hk j hj=>?_,rfl,rfl⟩
   ·unfold Dx
    refine(bp (ρ1:=[(t9 n f),(c9 n C),some (.lst (G.map ay),1),(i9 i),(i9 k0.1),(i9 k0.2),c,d,e]) (j5v (x:=(iD k0.1)) (y:=(iD k0.2)) (Kz (i:=2) (b:=aa 3) (q:=1) (q':=9) rfl rfl eat rfl) rfl (by show 4<9;decide) (by show 5<9;decide))).trans ?_
    have hit:eI (aI 1 (eC (.int 1))) [(t9 n f),(c9 n C),some (.lst (G.map ay),1),(i9 i),(i9 k0.1),(i9 k0.2),c,d,e]=some (C.W.map (df n),[(t9 n f),(c9 n C),some (.lst (G.map ay),1),(i9 i),(i9 k0.1),(i9 k0.2),c,d,e]):=Qi (by rw[Qe];omega)
    exact(bp ((kX hit).trans ee)).trans rfl
   ·have ht:G'.take (i+1)=G.take i++[k0]:=by
     rw[hX,List.take_append_of_le_length (by omega),Z6,Qb bL,<- t7]
     rfl
    rw[ht]at hk
    rcases QF.mp hk with q|q
    ·rw[hX];exact QA _ (h3 k q j hj)
    ·rw[Qv.mp q]at hj ⊢
     obtain⟨f1,f2⟩:=sO.mp hj
     exact g4 _ (KD f1) f2
  ·refine .inl ⟨_,by rw[m7,QW bL],G,_,a,b,c,d,e,nd,fun k=>⟨h1 k,?_⟩,rfl⟩
   have hil:i=G.length:=by omega
   rw[hil,ZZ]at h3
   rintro ⟨m,hm⟩
   induction m generalizing k with
   | zero=>exact h2 k hm
   | succ m ih=>
    obtain⟨k',q1,j,q2,q3,rfl⟩:=hm
    exact h3 k' (ih k' q1) j (sO.mpr ⟨q2,q3⟩)
 obtain⟨ρ',ew,G,i,a,b,c,d,e,nd,mem,rfl⟩:=wh
 have px:∀ k∈G,k.1<C.p/\k.2<n:=fun k hk=>by
  obtain⟨m,h⟩:=(mem k).mp hk
  exact sP L hz bz hC h
 have hGl:=sQ nd px
 refine⟨G,nd,mem,?_⟩
 unfold xa IZ
 refine gy ?_
 show aH _ _ [(t9 n f),(c9 n C),(none:OD),(none:OD),(none:OD),(none:OD),(none:OD),(none:OD),(none:OD)]=_
 have pj:=DG L hz bz hn
 have h1:=jO (k:=1) (tt:=fL) (te:=gm (ae (aa 9) (ae (aS nR 1 (ae (aa 0) aj)) aj))) (deep:=false) (sM (m:=C.p) (by omega) (fe:=aI 1 (eC (.int 0))) (ρ:=[(t9 n f),(c9 n C),(none:OD),(none:OD),(none:OD),(none:OD),(none:OD),(none:OD),(none:OD)]) (ρ':=[(t9 n f),(c9 n C),(none:OD),(none:OD),(none:OD),(none:OD),(none:OD),(none:OD),(none:OD)]) (q:=9) rfl) (wL (i:=9) rfl (fun _=>true) (fun k=>ay (k,z)) (fun _=>9) (fun k hk=>rfl) (fun k hk _=>xl (sh (f:=aa 9) (q:=9) rfl (kq (fN (ds:=[cf n f]) (kq rfl) rfl pj))) (by show 2<=1000;decide)))
 rw[show(List.range C.p).filter (fun _=>true)=List.range C.p by simp,show((List.range C.p).map fun k=>ay (k,z))=A.map ay by rw[hA,Q7];rfl]at h1
 refine(bp (ρ1:=[(t9 n f),(c9 n C),some (.lst (A.map ay),1),(none:OD),(none:OD),(none:OD),(none:OD),(none:OD),(none:OD)]) (g9 h1 rfl)).trans ?_
 have D1:eI (aI 1 (eC (.int 2))) [(t9 n f),(c9 n C),some (.lst (A.map ay),1),(none:OD),(none:OD),(none:OD),(none:OD),(none:OD),(none:OD)]=some (C.B.map ay,[(t9 n f),(c9 n C),some (.lst (A.map ay),1),(none:OD),(none:OD),(none:OD),(none:OD),(none:OD),(none:OD)]):=Qi (by rw[Qe];omega)
 have h2:=jO (k:=1) (pt:=aL 9) (tt:=bA (pW (aa 9) 2)) (te:=aa 9) (deep:=false) D1 (sN (k:=1) ay (fun b=>[(p9 b)]) (fun b=>!decide (b∈A)) ay (fun _=>9) C.B (fun b hb=>⟨rfl,gP (DU (fa:=aa 9) (q:=9) (q':=1) rfl rfl (DW b A)),fun _=>rfl⟩))
 refine(bp (ρ1:=[(t9 n f),(c9 n C),some (.lst (F0.map ay),1),(none:OD),(none:OD),(none:OD),(none:OD),(none:OD),(none:OD)]) (j33 (ds:=A.map ay) rfl h2 rfl ?_ ?_)).trans ?_
 ·rw[Qe,Qe,KQ]
  have:=ZL (fun b=>!decide (b∈A)) C.B
  omega
 ·rw[DX,Zb]
  rfl
 have h3:y9 (aa 2) [(t9 n f),(c9 n C),some (.lst (F0.map ay),1),(none:OD),(none:OD),(none:OD),(none:OD),(none:OD),(none:OD)]=some (.lst ((jL F0).map ay),1,[(t9 n f),(c9 n C),some (.lst (F0.map ay),0),(none:OD),(none:OD),(none:OD),(none:OD),(none:OD),(none:OD)]):=by
  show(if 0<=1 then(match o9 (F0.map ay)with|some ks=>if ks.length<64 then some (D.lst ((jL ks).map ay),1,_)else none|none=>none)else none)=_
  rw[Qi (QS 1),CL _ sV]
  show(if F0.length<64 then some (D.lst ((jL F0).map ay),1,_)else none)=_
  rw[Qi DY]
  rfl
 refine(bp (ρ1:=[(t9 n f),(c9 n C),some (.lst ((jL F0).map ay),1),(none:OD),(none:OD),(none:OD),(none:OD),(none:OD),(none:OD)]) (g9 h3 rfl)).trans ?_
 refine(bp (ρ1:=[(t9 n f),(c9 n C),some (.lst ((jL F0).map ay),1),some (.int 0,9),(none:OD),(none:OD),(none:OD),(none:OD),(none:OD)]) rfl).trans ?_
 refine(bp ew).trans ?_
 refine iW (ρ1:=[(t9 n f),(c9 n C),some (.lst (G.map ay),0),i,a,b,c,d,e]) ?_
 show(if 0<=1 then(match o9 (G.map ay)with|some ks=>if ks.length<64 then some (D.lst ((iM ks).map ay),1,_)else none|none=>none)else none)=_
 rw[Qi (QS 1),CL _ fun x hx=>by have:=(px x hx).2;omega]
 show(if G.length<64 then some (D.lst ((iM G).map ay),1,_)else none)=_
 rw[Qi (by omega)]
 rfl
end
def KS(ks:List Nat):∀ n,n<=ks.length->mb (fun i=>ks.getD i 0) n=(ks.take n).foldl bor 0
 | 0,_=>rfl
 | n+1,h=>by
  show bor (mb _ n) (ks.getD n 0)=_
  rw[KS ks n (by omega),Z6,Qb (by omega),JP,Qf,Qb (by omega)]
  rfl
def j3q(ks:List Nat):nK ks=ks.foldl bor 0:=by rw[nK,KS ks _ (Qg _),ZZ]
def j6f:∀ m:Nat,m<32->m∈de:=by decide +kernel
def KU:∀ k:Nat,k<5->cI (Int.ofNat k)=some k/\vI k=Int.ofNat k:=by decide +kernel
def KW:∀ {ks:List Nat},(∀ k∈ks,k<5)->qg (ak ks)=some ks
 | [],_=>rfl
 | k::ks,h=>by
  show(match cI (Int.ofNat k)with|some k=>(qg (ak ks)).map (k :: ·)|none=>none)=_
  rw[(KU k (h k Qk)).1,KW fun j hj=>h j (Qh _ hj)]
  rfl
def j2e:∀ m:Nat,m<32->bC m=bl m:=by decide +kernel
def j3y{ks:List Nat}(h5:∀ k∈ks,k<5):ud ks=true/\nK ks<32:=by
 have h:∀ i,i<=ks.length->mb (fun i=>ks.getD i 0) i<32:=Gm (n:=ks.length) (fun i hi=>by
  simp only[Qf]
  rw[Qb hi]
  exact h5 _ (Q4 hi))
 exact⟨Qy fun i hi=>j6f _ (h i (Nat.le_of_lt_succ hi)),h _ (Qg _)⟩
def zO{ks:List Nat}(h:fa ρ=some (.lst (ak ks),q,ρ1))(hq:q<=1)(h5:∀ k∈ks,k<5):lD fa ρ=some (.lst (ak (bl (ks.foldl bor 0))),1,ρ1):=by
 obtain⟨o1,o2⟩:=j3y h5
 unfold lD
 rw[h]
 show(if q<=1 then _ else none)=_
 rw[Qi hq,KW h5]
 show(if ud ks=true then _ else none)=_
 rw[Qi o1,j2e _ o2,<- j3q]
 congr 3
 exact Q5 fun k hk=>by rw[(KU k (vW _ hk)).2]
def j7u:∀ c:Nat,c<8->ud [c]=true/\bC (nK [c])=[c]:=by decide +kernel
def y8w{i:Int}(h:fa ρ=some (.lst [.int i],q,ρ1))(hq:q<=1)(hc:cI i=some c):lD fa ρ=some (.lst [.int i],1,ρ1):=by
 obtain⟨e,h8⟩:=HC hc
 obtain⟨o1,o2⟩:=j7u c h8
 have en:qg [.int i]=some [c]:=by
  show(match cI i with|some k=>(qg []).map (k :: ·)|none=>none)=_
  rw[hc];rfl
 unfold lD
 rw[h]
 show(if q<=1 then _ else none)=_
 rw[Qi hq,en]
 show(if ud [c]=true then _ else none)=_
 rw[Qi o1,o2,e]
 rfl
def KY:∀ (g:List Nat) (m:Nat),m<=g.foldl bor m
 | [],m=>Qg m
 | k::g,m=>QU Nat.left_le_or (KY g (bor m k))
def D2:∀ {g:List Nat} {m:Nat},m<32->(∀ k∈g,k<5)->g.foldl bor m<32
 | [],_,h,_=>h
 | k::g,m,h,h5=>D2 (g:=g) (m:=bor m k) (Cb m h k (h5 k Qk)) fun j hj=>h5 j (Qh _ hj)
def zP:∀ m:Nat,m<32->(bl m).foldl bor 0=m:=by decide +kernel
def KZ(h:m<32)(h':m'<32)(e:bl m=bl m'):m=m':=by rw[<- zP m h,<- zP m' h',e]
def z7m:∀ m:Nat,m<32->∀ v:Nat,v<5->∀ k:Nat,k<5->(bl (bor m v)).contains k=((bl m).contains k||k==v):=by decide +kernel
def z87(m:Nat)(hm:m<32)(v:Nat)(hv:v<5)(k:Nat)(hk:k<5):k∈bl (bor m v) ↔ (k∈bl m\/k=v):=by
 have:=z7m m hm v hv k hk
 rw[<- Yw,this,V5,Yw,ZE]
def xt:∀ {g:List Nat} {m:Nat},m<32->(∀ v∈g,v<5)->∀ k:Nat,(k∈bl (g.foldl bor m) ↔ (k∈bl m\/k∈g))
 | [],m,_,_,k=>by simp
 | v::g,m,hm,h5,k=>by
  have hv:=h5 v Qk
  have ih:=xt (g:=g) (m:=bor m v) (Cb m hm v hv) (fun x hx=>h5 x (Qh _ hx)) k
  rw[V4,ih,Qt]
  by_cases hk:k<5
  ·rw[z87 m hm v hv k hk,or_assoc]
  ·constructor
   ·rintro (q|q)
    ·exact absurd (vW _ q) hk
    ·exact .inr (.inr q)
   ·rintro (q|q|q)
    ·exact absurd (vW _ q) hk
    ·exact absurd (q ▸ hv) hk
    ·exact .inr q
def j3t(h:∀ k,k∈bl m ↔ k∈bl m'):bl m=bl m':=by
 unfold bl
 apply List.filter_congr
 intro k hk
 have:=h k
 unfold bl at this
 rw[Zr,Zr]at this
 cases e:m.testBit k with
 | true=>exact(this.mp ⟨hk,e⟩).2.symm
 | false=>
  cases e':m'.testBit k with
  | false=>rfl
  | true=>rw[(this.mpr ⟨hk,e'⟩).2]at e;cases e
def j0c:∀ m:Nat,m<32->∀ m':Nat,m'<32->(∀ k:Nat,k<5->m.testBit k=true->m'.testBit k=true)->m≠m'->(bl m).length<(bl m').length:=by decide +kernel
def z8z:∀ m:Nat,m<32->∀ h:Nat,h<6->(∀ k:Nat,k<5->m.testBit k=true->k<h)->(bl m).length<=h:=by decide +kernel
def tb{k:Nat}(hm:m<32)(hk:k<5):m.testBit k=true ↔ k∈bl m:=(Sj m hm k hk).symm
def kJ (l:List (Nat×Nat))(N:Nat):Prop:=∀ c∈l,c.1∈bl N->c.2∈bl N
def gf (l:List (Nat×Nat))(g:List Nat):List Nat:=(l.filter fun c=>decide (c.1∈g)).map (·.2)
def nX(h5:∀ c∈l,c.2<5)(g:List Nat):∀ k∈gf l g,k<5:=fun k hk=>by
 obtain⟨c,hc,rfl⟩:=Qx.mp hk
 exact h5 c (Zr.mp hc).1
def K0(g:List Nat):(gf l g).length<=l.length:=by
 unfold gf
 rw[Qe]
 exact ZL _ _
section
variable {l:List (Nat×Nat)}(h5:∀ c∈l,c.2<5)
include h5
theorem zQ(g:List Nat)(k:Nat):k∈gf l g ↔ ∃ c∈l,c.1∈g/\c.2=k:=by
 unfold gf
 rw[Qx]
 constructor
 ·rintro ⟨c,hc,rfl⟩
  obtain⟨h1,h2⟩:=Zr.mp hc
  exact⟨c,h1,Q8 h2,rfl⟩
 ·rintro ⟨c,hc,h1,rfl⟩
  exact⟨c,Zr.mpr ⟨hc,Qy h1⟩,rfl⟩
theorem K1(hm:m<32)(e:(gf l (bl m)).foldl bor m=m):kJ l m:=fun c hc h1=>by
 have:=(xt hm (nX h5 (bl m)) c.2).mpr (.inr ((zQ h5 (bl m) c.2).mpr ⟨c,hc,h1,rfl⟩))
 rw[e]at this
 exact this
end
def cT (C:dw):List (Nat×Nat):=C.W.map fun w=>(w.1,w.2.1)
def D3(C:dw)(g:List Nat):gf (cT C) g=(C.W.filter fun w=>decide (w.1∈g)).map (·.2.1):=by
 unfold gf cT
 rw[List.filter_map,Q7]
 rfl
def K2(C:dw):(cT C).length=C.W.length:=Qe ..
section
variable {n:Nat}{C:dw}(i6:C.W.length<=60)
include i6
theorem K3(g:List Nat):mV [cZ n C,.lst (ak g)]=(uL (gf (cT C) g)):=by
 unfold mV Kf
 have hi:eI (aI 0 (eC (.int 1))) [(c9 n C),some (.lst (ak g),0)]=some (C.W.map (df n),[(c9 n C),some (.lst (ak g),0)]):=Qi (by rw[Qe];omega)
 have m8:=jO (k:=3) (tt:=bA (e2 jG (aa 2) (aa 1))) (te:=aa 3) (deep:=false) (pt:=mj (du (aL 2) (du (aL 3) (du (aL 4) kQ)))) hi (sN (df n) (fun c=>[(i9 c.1),(i9 c.2.1),(r9 n c.2.2)]) (fun c=>decide (c.1∈g)) (fun c=>(iD c.2.1)) (fun _=>9) C.W (fun c hc=>⟨rfl,gP (jt (fa:=aa 2) (q:=9) rfl (fb:=aa 1) (y:=.lst (ak g)) (q':=0) rfl (Kx c.1 g)),fun _=>rfl⟩))
 have e1:(C.W.filter fun c=>decide (c.1∈g)).map (fun c=>(iD c.2.1))=ak (gf (cT C) g):=by rw[D3];unfold ak;rw[Q7];rfl
 rw[e1]at m8
 exact gy (iW m8)
omit i6 in
theorem zR{h k:Nat}(hk:k<h):gA h (iD k)=true:=by
 show(decide ((0:Int)<=(k:Int))&&decide ((k:Int)<(h:Int)))=true
 rw[Qy (by omega),Qy (by omega)];rfl
omit i6 in
theorem j4c{n:Nat}{body:aJ}(h:body (nB n ds)=some (.nx ρ)):cB n body ds=some (.aK,9):=by unfold cB;rw[h]
omit i6 in
theorem K4{h k:Nat}(hk:k<h):sD [(iD h),(iD k)]=some (.aK,9):=by
 have e:=Kv h (iD k)
 rw[zR hk]at e
 unfold sD Kc
 exact j4c ((nO (DK (Ky (fN (ds:=[(iD k),(iD h)]) rfl rfl e)))).trans rfl)
theorem y76(h5:∀ c∈cT C,c.2<5){k:Nat}(hk:k<C.p):xj [cZ n C,(iD k)]=(uL (bl ((gf (cT C) [k]).foldl bor 0))):=by
 unfold xj Kk
 refine gy ?_
 show aH _ _ [(c9 n C),(i9 k)]=_
 refine(bp (ρ1:=[(c9 n C),(i9 k)]) (xq (fN (ds:=[(iD C.p),(iD k)]) rfl rfl (K4 hk)))).trans ?_
 exact iW (zO (ks:=gf (cT C) [k]) (q:=1) (fN (ds:=[cZ n C,.lst (ak [k])]) rfl rfl (K3 i6 [k])) (Qg 1) (nX h5 [k]))
omit i6 in
theorem z2p(l:List Nat):g7 (.lst (ak l)) .aK=some (.bl true):=by
 unfold g7
 rw[Qi ⟨(qh l).ok,(Sh.aK (k:=0)).ok⟩]
 rfl
omit i6 in
theorem K5(a b:List Nat):ak a++ak b=ak (a++b):=by unfold ak;rw[Zb]
abbrev R4 (n:Nat)(C:dw)(d:D)(q:Nat)(m:Nat)(a:D)(q2 q3:Nat):aR:=[(c9 n C),some (d,q),some (.lst (ak (bl m)),q2),some (a,q3)]
theorem z50(h5:∀ c∈cT C,c.2<5){m0:Nat}(kz:m0<32):∃ M,M<32/\(∀ k∈bl m0,k∈bl M)/\kJ (cT C) M/\(∀ N,kJ (cT C) N->(∀ k∈bl m0,k∈bl N)->∀ k∈bl M,k∈bl N)/\uq [cZ n C,.lst (ak (bl m0))]=some (.lst (ak (bl M)),0):=by
 have b5:∀ (m:Nat),∀ k∈bl m,k<5:=fun m k hk=>vW m hk
 have st:∀ (m:Nat) (hm:m<32) (a:D) (q3:Nat),(aH (bh 3 (aa 2)) (bh 2 (lD (jq (aa 3) (aS mV 2 (ae (aa 0) (ae (aa 3) aj))))))) (R4 n C (.lst (ak (bl m0))) 0 m a 0 q3)=some (.nx (R4 n C (.lst (ak (bl m0))) 0 ((gf (cT C) (bl m)).foldl bor m) (.lst (ak (bl m))) 1 0)):=fun m hm a q3=>by
  refine(bp (ρ1:=R4 n C (.lst (ak (bl m0))) 0 m (.lst (ak (bl m))) 0 0) (g9 (nV (i:=2) (q:=0) rfl) rfl)).trans ?_
  have v3:aa 3 (R4 n C (.lst (ak (bl m0))) 0 m (.lst (ak (bl m))) 0 0)=some (.lst (ak (bl m)),0,R4 n C (.lst (ak (bl m0))) 0 m (.lst (ak (bl m))) 0 0):=nV (i:=3) (q:=0) rfl
  have c3:=fN (F:=mV) (n:=2) (sh (f:=aa 0) (q:=9) (ρ:=R4 n C (.lst (ak (bl m0))) 0 m (.lst (ak (bl m))) 0 0) (ρ1:=R4 n C (.lst (ak (bl m0))) 0 m (.lst (ak (bl m))) 0 0) (d:=cZ n C) rfl (kq v3)) rfl (K3 i6 (bl m))
  have e1:jq (aa 3) (aS mV 2 (ae (aa 0) (ae (aa 3) aj))) (R4 n C (.lst (ak (bl m0))) 0 m (.lst (ak (bl m))) 0 0)=some (.lst (ak (bl m++gf (cT C) (bl m))),1,R4 n C (.lst (ak (bl m0))) 0 m (.lst (ak (bl m))) 0 0):=by
   unfold jq
   rw[v3]
   dsimp only
   rw[c3]
   have g1:=K0 (l:=cT C) (bl m)
   have g2:=Gp m hm
   have g3:=K2 C
   show(if(ak (bl m)).length+(ak (gf (cT C) (bl m))).length<=1000 then some (D.lst (ak (bl m)++ak (gf (cT C) (bl m))),1,_)else none)=_
   rw[Qi (by rw[g_,g_];omega),K5]
  have e2:=zO e1 (Qg 1) (fun k hk=>by
   rcases QF.mp hk with q|q
   ·exact b5 m k q
   ·exact nX h5 _ k q)
  rw[JP,zP m hm]at e2
  exact g9 e2 rfl
 have keep:∀ m,m<32->(∀ N,kJ (cT C) N->(∀ k∈bl m0,k∈bl N)->∀ k∈bl m,k∈bl N)->(∀ N,kJ (cT C) N->(∀ k∈bl m0,k∈bl N)->∀ k∈bl ((gf (cT C) (bl m)).foldl bor m),k∈bl N):=fun m hm hN N cN h0 k hk=>by
  rcases(xt hm (nX h5 (bl m)) k).mp hk with q|q
  ·exact hN N cN h0 k q
  ·obtain⟨c,hc,h1,rfl⟩:=(zQ h5 (bl m) k).mp q
   exact cN c hc (hN N cN h0 c.1 h1)
 have up:∀ m,m<32->(∀ k∈bl m0,k∈bl m)->∀ k∈bl m0,k∈bl ((gf (cT C) (bl m)).foldl bor m):=fun m hm hu k hk=>(xt hm (nX h5 (bl m)) k).mpr (.inl (hu k hk))
 obtain⟨ρ',e,M,a,q2,q3,h1,h2,h3,h4,rfl⟩:=Dk (c:=bA (e2 g7 (aa 2) (aa 3))) (b:=aH (bh 3 (aa 2)) (bh 2 (lD (jq (aa 3) (aS mV 2 (ae (aa 0) (ae (aa 3) aj)))))))
  (Q:=fun ρ=>∃ M a q2 q3,M<32/\(∀ k∈bl m0,k∈bl M)/\kJ (cT C) M/\(∀ N,kJ (cT C) N->(∀ k∈bl m0,k∈bl N)->∀ k∈bl M,k∈bl N)/\ρ=R4 n C (.lst (ak (bl m0))) 0 M a q2 q3)
  (fun k ρ=>∃ m a q2 q3,m<32/\(∀ k∈bl m0,k∈bl m)/\(∀ N,kJ (cT C) N->(∀ k∈bl m0,k∈bl N)->∀ k∈bl m,k∈bl N)/\((a=D.aK/\q3=9/\k=40)\/∃ u,a=.lst (ak (bl u))/\q3=0/\u<32/\m=(gf (cT C) (bl u)).foldl bor u/\k=32-u)/\ρ=R4 n C (.lst (ak (bl m0))) 0 m a q2 q3)
  (k:=40) (ρ:=R4 n C (.lst (ak (bl m0))) 0 m0 .aK 0 9) (by decide) ⟨m0,.aK,0,9,kz,fun k hk=>hk,fun N _ h0=>h0,.inl ⟨rfl,rfl,rfl⟩,rfl⟩ (fun k ρ ag=>by
   obtain⟨m,a,q2,q3,l2,u0,uN,h6,rfl⟩:=ag
   have m2:=D2 l2 (nX h5 (bl m))
   have v2:aa 2 (R4 n C (.lst (ak (bl m0))) 0 m a q2 q3)=some (.lst (ak (bl m)),0,R4 n C (.lst (ak (bl m0))) 0 m a 0 q3):=nV (i:=2) (q:=q2) rfl
   rcases h6 with⟨rfl,rfl,rfl⟩|⟨u,rfl,rfl,u2,D4,rfl⟩
   ·have te:bA (e2 g7 (aa 2) (aa 3)) (R4 n C (.lst (ak (bl m0))) 0 m .aK q2 9)=some (true,R4 n C (.lst (ak (bl m0))) 0 m .aK 0 9):=gP (jt v2 (fb:=aa 3) (q':=9) rfl (z2p _))
    exact .inr ⟨_,_,32-m,te,st m l2 .aK 9,by omega,_,.lst (ak (bl m)),1,0,m2,up m l2 u0,keep m l2 uN,.inr ⟨m,rfl,rfl,l2,rfl,rfl⟩,rfl⟩
   ·have te:bA (e2 g7 (aa 2) (aa 3)) (R4 n C (.lst (ak (bl m0))) 0 m (.lst (ak (bl u))) q2 0)=some (!decide (bl m=bl u),R4 n C (.lst (ak (bl m0))) 0 m (.lst (ak (bl u))) 0 0):=gP (jt v2 (nV (i:=3) (q:=0) rfl) (Dh _ _))
    have le:u<=m:=by rw[D4];exact KY _ u
    by_cases he:bl m=bl u
    ·rw[Qy he]at te
     have:m=u:=KZ l2 u2 he
     refine .inl ⟨_,te,m,_,_,_,l2,u0,K1 h5 l2 ?_,uN,rfl⟩
     rw[<- this]at D4
     exact D4.symm
    ·rw[QW he]at te
     have:u≠m:=fun q=>he (by rw[q])
     exact .inr ⟨_,_,32-m,te,st m l2 _ 0,by omega,_,.lst (ak (bl m)),1,0,m2,up m l2 u0,keep m l2 uN,.inr ⟨m,rfl,rfl,l2,rfl,rfl⟩,rfl⟩)
 refine⟨M,h1,h2,h3,h4,?_⟩
 unfold uq Kh
 refine gy ?_
 show aH _ _ [(c9 n C),some (.lst (ak (bl m0)),0),none,none]=_
 refine(bp (ρ1:=[(c9 n C),some (.lst (ak (bl m0)),0),some (.lst (ak (bl m0)),0),none]) (g9 (nV (i:=1) (q:=0) rfl) rfl)).trans ?_
 refine(bp (ρ1:=R4 n C (.lst (ak (bl m0))) 0 m0 .aK 0 9) rfl).trans ?_
 exact(bp e).trans (iW (nV (i:=2) (q:=q2) rfl))
end
def nY (l:List (Nat×Nat))(m:Nat):Nat:=(gf l (bl m)).foldl bor m
def eE (l:List (Nat×Nat))(m0:Nat):Nat->Nat
 | 0=>m0
 | i+1=>nY l (eE l m0 i)
section
variable {l:List (Nat×Nat)}{p:Nat}(p5:p<=5)(hp:∀ c∈l,c.2<p){m0:Nat}(kz:m0<32)(jS:∀ k∈bl m0,k<p)
include p5 hp kz jS
theorem xu(i:Nat):eE l m0 i<32:=by
 induction i with
 | zero=>exact kz
 | succ i ih=>exact D2 ih (nX (fun c hc=>Qs (hp c hc) p5) _)
theorem zS(i k:Nat):k∈bl (eE l m0 (i+1)) ↔ (k∈bl (eE l m0 i)\/k∈gf l (bl (eE l m0 i))):=
 xt (xu p5 hp kz jS i) (nX (fun c hc=>Qs (hp c hc) p5) _) k
theorem j1h(i:Nat):∀ k∈bl (eE l m0 i),k<p:=by
 have h5:∀ c∈l,c.2<5:=fun c hc=>Qs (hp c hc) p5
 induction i with
 | zero=>exact jS
 | succ i ih=>
  intro k hk
  rcases(zS p5 hp kz jS i k).mp hk with q|q
  ·exact ih k q
  ·obtain⟨c,hc,_,rfl⟩:=(zQ h5 _ k).mp q
   exact hp c hc
theorem z4k(h1:1<=(bl m0).length)(i:Nat):nY l (eE l m0 i)=eE l m0 i\/i+1<=(bl (eE l m0 i)).length:=by
 induction i with
 | zero=>exact .inr h1
 | succ i ih=>
  rcases ih with q|q
  ·refine .inl ?_
   show nY l (nY l (eE l m0 i))=nY l (eE l m0 i)
   rw[q,q]
  ·by_cases e:eE l m0 i=eE l m0 (i+1)
   ·refine .inl ?_
    have e':nY l (eE l m0 i)=eE l m0 i:=e.symm
    show nY l (nY l (eE l m0 i))=nY l (eE l m0 i)
    rw[e',e']
   ·have l1:=xu p5 hp kz jS i
    have l2:=xu p5 hp kz jS (i+1)
    have:=j0c _ l1 _ l2 (fun k hk hb=>(tb l2 hk).mpr ((zS p5 hp kz jS i k).mpr (.inl ((tb l1 hk).mp hb)))) e
    exact .inr (by omega)
theorem z6a(h1:1<=(bl m0).length){M:Nat}(hM:M<32)(u0:∀ k∈bl m0,k∈bl M)(cM:kJ l M)(lM:∀ N,kJ l N->(∀ k∈bl m0,k∈bl N)->∀ k∈bl M,k∈bl N):eE l m0 p=M:=by
 have h5:∀ c∈l,c.2<5:=fun c hc=>Qs (hp c hc) p5
 have lp:=xu p5 hp kz jS p
 have up:∀ i,∀ k∈bl m0,k∈bl (eE l m0 i):=fun i=>by
  induction i with
  | zero=>exact fun k hk=>hk
  | succ i ih=>exact fun k hk=>(zS p5 hp kz jS i k).mpr (.inl (ih k hk))
 have dn:∀ i,∀ k∈bl (eE l m0 i),k∈bl M:=fun i=>by
  induction i with
  | zero=>exact u0
  | succ i ih=>
   intro k hk
   rcases(zS p5 hp kz jS i k).mp hk with q|q
   ·exact ih k q
   ·obtain⟨c,hc,h1,rfl⟩:=(zQ h5 _ k).mp q
    exact cM c hc (ih c.1 h1)
 have fx:nY l (eE l m0 p)=eE l m0 p:=by
  rcases z4k p5 hp kz jS h1 p with q|q
  ·exact q
  ·have:=z8z _ lp p (by omega) fun k hk hb=>j1h p5 hp kz jS p k ((tb lp hk).mp hb)
   omega
 have cl:kJ l (eE l m0 p):=K1 h5 lp fx
 exact KZ lp hM (j3t fun k=>⟨dn p k,lM _ cl (up p) k⟩)
end
def j36:∀ k:Nat,k<5->bl (bor 0 k)=[k]/\bor 0 k<32:=by decide +kernel
def j0m(x i:Int):jG (.int x) (.lst [.int i])=some (.bl (decide (i=x))):=by
 unfold jG
 have s1:Sh 1 (.lst [.int i]):=.lst fun d m=>by rw[Qv.mp m];exact .int _
 rw[Qi ⟨(Sh.int (k:=0) _).ok,s1.ok⟩]
 have h2:PyData.eqv (bJ (.int i)) (bJ (.int x))=decide (i=x):=Dg i x
 show some (D.bl ([bJ (.int i)].any fun y=>PyData.eqv y (bJ (.int x))))=_
 rw[JH,h2]
 simp
def j3b:zG [.exc "NoPlace"]=some (.str "no place",9):=by rfl
def K6(p:Nat)(i:Int):sE [(iD p),.int i]=if gA p (.int i)=true then none else some ("NoPlace":Str):=by
 have e:=Kv p (.int i)
 have t:=DK (Ky (fN (F:=qq) (n:=2) (g:=ae (aa 1) (ae (aa 0) aj)) (ρ:=[(i9 p),some (.int i,9)]) (ds:=[.int i,(iD p)]) rfl rfl e))
 unfold sE fnX Ke
 show vR _ _ _ [(i9 p),some (.int i,9)]=_
 unfold vR
 rw[t]
 cases gA p (.int i)<;>rfl
def j3e:g7 (.str "no place") (.str "no place")=some (.bl false):=by
 have s:Sh 0 (.str ("no place":Str)):=⟨by decide +kernel,QS _⟩
 unfold g7
 rw[Qi ⟨s.ok,s.ok⟩]
 simp[mf,bJ,PyData.eqv]
section
variable {n:Nat}{C:dw}
def y94{i:Int}(h:gA C.p (.int i)=false):sF [cZ n C,.int i]=some (.str "no place",9):=by
 have x:mW [cZ n C,.int i]=some "NoPlace":=by
  unfold mW fnX DC
  show sE [(iD C.p),.int i]=_
  rw[K6,h]
  rfl
 unfold sF DD
 refine gy ?_
 show aH _ _ [(c9 n C),some (.int i,9),none,none,none]=_
 refine(bp (ρ1:=[(c9 n C),some (.int i,9),(some (.aK,9)),none,none]) rfl).trans ?_
 refine(bp (ρ1:=[(c9 n C),some (.int i,9),(some (.aK,9)),(some (.aK,9)),none]) rfl).trans ?_
 have y:vT mW 2 (ae (aa 0) (ae (aa 1) aj)) [(c9 n C),some (.int i,9),(some (.aK,9)),(some (.aK,9)),none]=some (("NoPlace":Str),[(c9 n C),some (.int i,9),(some (.aK,9)),(some (.aK,9)),none]):=by
  show(mW [cZ n C,.int i]).map _=_
  rw[x];rfl
 refine(bp (ρ1:=[(c9 n C),some (.int i,9),(some (.exc "NoPlace",9)),(some (.aK,9)),none]) (by
  unfold vU
  rw[y]
  exact Qi (Qv.mpr rfl))).trans ?_
 refine(bp (ρ1:=[(c9 n C),some (.int i,9),(some (.exc "NoPlace",9)),(some (.aK,9)),none]) rfl).trans ?_
 exact iW (fN (ds:=[.exc "NoPlace"]) rfl rfl j3b)
def y6t{k:Nat}{g:List Nat}(hk:k<C.p)(h:uq [cZ n C,.lst (ak [k])]=some (.lst (ak g),0)):sF [cZ n C,(iD k)]=some (.lst (ak g),0):=by
 have x:mW [cZ n C,(iD k)]=none:=by
  unfold mW fnX DC
  show sE [(iD C.p),(iD k)]=_
  rw[K6,zR hk]
  rfl
 have e:xh [cZ n C,(iD k)]=some (.lst (ak g),0):=by
  unfold xh Ki
  refine gy ?_
  show aH _ _ [(c9 n C),(i9 k)]=_
  refine(bp (ρ1:=[(c9 n C),(i9 k)]) (xq (fN (ds:=[(iD C.p),(iD k)]) rfl rfl (K4 hk)))).trans ?_
  exact iW (fN (ds:=[cZ n C,.lst (ak [k])]) rfl rfl h)
 unfold sF DD
 refine gy ?_
 show aH _ _ [(c9 n C),(i9 k),none,none,none]=_
 refine(bp (ρ1:=[(c9 n C),(i9 k),(some (.aK,9)),none,none]) rfl).trans ?_
 refine(bp (ρ1:=[(c9 n C),(i9 k),(some (.aK,9)),(some (.aK,9)),none]) rfl).trans ?_
 have y:vT mW 2 (ae (aa 0) (ae (aa 1) aj)) [(c9 n C),(i9 k),(some (.aK,9)),(some (.aK,9)),none]=none:=by
  show(mW [cZ n C,(iD k)]).map _=_
  rw[x];rfl
 refine(bp (ρ1:=[(c9 n C),(i9 k),(some (.aK,9)),(some (.lst (ak g),0)),none]) (by
  unfold vU
  rw[y]
  exact g9 (fN (ds:=[cZ n C,(iD k)]) rfl rfl e) rfl)).trans ?_
 exact HF (wI (gP (jt (fa:=aa 2) (q:=9) rfl (fb:=eC .aK) (q':=9) rfl rfl)) |>.trans (iW (nV (i:=3) (q:=0) rfl)))
end
section
variable {n:Nat}{f:Nat->Nat->Nat}{C:dw}(hC:C.Ok n f)(p5:C.p<=5)
include hC p5
theorem D5(ns:List Int)(i:Int)(d:D)(q:Nat)(a:OD):eI (aI 2 (eC (.int 1))) [(n0 ns),(t9 n f),(c9 n C),some (.int i,9),some (d,q),a]=some (C.W.map (df n),[(n0 ns),(t9 n f),(c9 n C),some (.int i,9),some (d,q),a]):=Qi (by rw[Qe];have:=hC.i6;omega)
theorem K7(ns:List Int)(i:Int)(d a:OD):oF (bA (nJ vh j4 (eC (.int 0)) (aa 3) (aI 2 (eC (.int 0))))) [(n0 ns),(t9 n f),(c9 n C),some (.int i,9),d,a]=some (!gA C.p (.int i),[(n0 ns),(t9 n f),(c9 n C),some (.int i,9),d,a]):=by
 have h:aI 2 (eC (.int 0)) [(n0 ns),(t9 n f),(c9 n C),some (.int i,9),d,a]=some ((iD C.p),9,[(n0 ns),(t9 n f),(c9 n C),some (.int i,9),d,a]):=rfl
 refine DK (gP (q:=9) ?_)
 have hv:aa 3 [(n0 ns),(t9 n f),(c9 n C),some (.int i,9),d,a]=some (.int i,9,[(n0 ns),(t9 n f),(c9 n C),some (.int i,9),d,a]):=rfl
 unfold nJ
 rw[show eC (.int 0) [(n0 ns),(t9 n f),(c9 n C),some (.int i,9),d,a]=some (.int 0,9,[(n0 ns),(t9 n f),(c9 n C),some (.int i,9),d,a])from rfl]
 dsimp only
 rw[hv]
 dsimp only
 show(match (some (D.bl (decide (0<=i))):Option D)with|some (.bl true)=>_|some (.bl false)=>_|_=>_)=_
 by_cases h0:0<=i
 ·rw[Qy h0]
  dsimp only
  rw[h]
  show some (D.bl (decide (i<Int.ofNat C.p)),9,_)=some (D.bl (decide (0<=i)&&decide (i<(C.p:Int))),9,_)
  rw[Qy h0]
  rfl
 ·rw[QW h0]
  show some (D.bl false,9,_)=some (D.bl (decide (0<=i)&&decide (i<(C.p:Int))),9,_)
  rw[QW h0]
  rfl
theorem z8o(ns:List Int)(i:Int)(hc:cI i=some c)(hn:gA C.p (.int i)=false)(x4 x5:OD):∃ y4 y5,uu [(n0 ns),(t9 n f),(c9 n C),some (.int i,9),x4,x5]=some (.nx [(n0 ns),(t9 n f),(c9 n C),some (.int i,9),y4,y5]):=by
 have oU:∀ w∈C.W,¬ i=Int.ofNat w.1:=fun w hw e=>by
  have:=(hC.ws w hw).1
  have h:gA C.p (.int i)=true:=by rw[e];exact zR this
  rw[h]at hn;cases hn
 obtain⟨ρ1,l1,y5,rfl⟩:=jN (pt:=aL 5) (body:=ur) (cU C.p) (fun _ ρ=>∃ y,ρ=[(n0 ns),(t9 n f),(c9 n C),some (.int i,9),some (.lst [.int i],1),y]) [(n0 ns),(t9 n f),(c9 n C),some (.int i,9),some (.lst [.int i],1),x5] (fun j hj ρ ag=>by
  obtain⟨y,rfl⟩:=ag
  refine⟨[(n0 ns),(t9 n f),(c9 n C),some (.int i,9),some (.lst [.int i],1),(i9 j)],[(n0 ns),(t9 n f),(c9 n C),some (.int i,9),some (.lst [.int i],1),(i9 j)],by rw[uw];rfl,.inl ?_,_,rfl⟩
  unfold ur
  have v4:aa 4 [(n0 ns),(t9 n f),(c9 n C),some (.int i,9),some (.lst [.int i],1),(i9 j)]=some (.lst [.int i],0,[(n0 ns),(t9 n f),(c9 n C),some (.int i,9),some (.lst [.int i],0),(i9 j)]):=nV rfl
  have m8:=jO (k:=1) (pt:=aL 6) (tt:=bA (e2 jG (aI 6 (eC (.int 0))) (aa 4))) (te:=aI 6 (eC (.int 1))) (deep:=false) (D5 hC p5 ns i (.lst [.int i]) 0 ((i9 j))) (sN (k:=1) (df n) (fun w=>[some (df n w,9)]) (fun w=>decide (i=Int.ofNat w.1)) (fun w=>(iD w.2.1)) (fun _=>9) C.W (fun w hw=>⟨rfl,gP (jt (fa:=aI 6 (eC (.int 0))) (q:=9) rfl (fb:=aa 4) (y:=.lst [.int i]) (q':=0) rfl (j0m (Int.ofNat w.1) i)),fun _=>rfl⟩))
  rw[List.filter_eq_nil_iff.mpr (fun w hw=>by rw[QW (oU w hw)];exact Ze)]at m8
  have e1:jq (aa 4) (eS 1 (eI (aI 2 (eC (.int 1)))) (aL 6) (bA (e2 jG (aI 6 (eC (.int 0))) (aa 4))) (aI 6 (eC (.int 1))) false) [(n0 ns),(t9 n f),(c9 n C),some (.int i,9),some (.lst [.int i],1),(i9 j)]=some (.lst [.int i],1,[(n0 ns),(t9 n f),(c9 n C),some (.int i,9),some (.lst [.int i],0),(i9 j)]):=by
   unfold jq
   rw[v4]
   dsimp only
   rw[m8]
   rfl
  exact g9 (y8w e1 (Qg 1) hc) rfl) ⟨x5,rfl⟩
 refine⟨some (.str "no place",9),y5,?_⟩
 unfold uu
 refine(bp (ρ1:=[(n0 ns),(t9 n f),(c9 n C),some (.int i,9),some (.lst [.int i],1),x5]) rfl).trans ?_
 refine(bp ((kX (sM (m:=C.p) (by omega) (q:=9) rfl)).trans l1)).trans ?_
 have ck:=K7 hC p5 ns i (some (.lst [.int i],1)) y5
 rw[hn]at ck
 refine(bp (ρ1:=[(n0 ns),(t9 n f),(c9 n C),some (.int i,9),some (.str "no place",9),y5]) ((wI ck).trans rfl)).trans ?_
 exact(nO (gP (jt (fN (ds:=[cZ n C,.int i]) rfl rfl (y94 hn)) (fb:=aa 4) (q':=9) rfl j3e))).trans rfl
theorem z5s(ns:List Int)(k:Nat)(hk:k<C.p)(x4 x5:OD):∃ y4 y5,uu [(n0 ns),(t9 n f),(c9 n C),(i9 k),x4,x5]=some (.nx [(n0 ns),(t9 n f),(c9 n C),(i9 k),y4,y5]):=by
 have i6:=hC.i6
 have hp:∀ c∈cT C,c.2<C.p:=fun c hc=>by
  obtain⟨w,hw,rfl⟩:=Qx.mp hc
  exact(hC.ws w hw).2.1
 have h5:∀ c∈cT C,c.2<5:=fun c hc=>Qs (hp c hc) p5
 obtain⟨b1,b2⟩:=j36 k (by omega)
 obtain⟨M,hM,u0,cM,lM,eM⟩:=z50 (n:=n) i6 h5 b2
 have jS:∀ j∈bl (bor 0 k),j<C.p:=fun j hj=>by rw[b1]at hj;rw[Qv.mp hj];exact hk
 have D6:=z6a p5 hp b2 jS (by rw[b1];exact Qg 1) hM u0 cM lM
 rw[b1]at eM
 obtain⟨ρ1,l1,y5,rfl⟩:=jN (pt:=aL 5) (body:=ur) (cU C.p) (fun i ρ=>∃ y,ρ=[(n0 ns),(t9 n f),(c9 n C),(i9 k),(uL (bl (eE (cT C) (bor 0 k) i))),y]) [(n0 ns),(t9 n f),(c9 n C),(i9 k),(uL (bl (bor 0 k))),x5] (fun j hj ρ ag=>by
  obtain⟨y,rfl⟩:=ag
  refine⟨[(n0 ns),(t9 n f),(c9 n C),(i9 k),(uL (bl (eE (cT C) (bor 0 k) j))),(i9 j)],[(n0 ns),(t9 n f),(c9 n C),(i9 k),(uL (bl (eE (cT C) (bor 0 k) (j+1)))),(i9 j)],by rw[uw];rfl,.inl ?_,_,rfl⟩
  have D7:=xu p5 hp b2 jS j
  show ur _=some (.nx [(n0 ns),(t9 n f),(c9 n C),(i9 k),(uL (bl ((gf (cT C) (bl (eE (cT C) (bor 0 k) j))).foldl bor (eE (cT C) (bor 0 k) j)))),(i9 j)])
  generalize eE (cT C) (bor 0 k) j=m at D7 ⊢
  unfold ur
  have v4:aa 4 [(n0 ns),(t9 n f),(c9 n C),(i9 k),(uL (bl m)),(i9 j)]=some (.lst (ak (bl m)),0,[(n0 ns),(t9 n f),(c9 n C),(i9 k),some (.lst (ak (bl m)),0),(i9 j)]):=nV rfl
  have m8:=jO (k:=1) (pt:=aL 6) (tt:=bA (e2 jG (aI 6 (eC (.int 0))) (aa 4))) (te:=aI 6 (eC (.int 1))) (deep:=false) (D5 hC p5 ns (Int.ofNat k) (.lst (ak (bl m))) 0 ((i9 j))) (sN (k:=1) (df n) (fun w=>[some (df n w,9)]) (fun w=>decide (w.1∈bl m)) (fun w=>(iD w.2.1)) (fun _=>9) C.W (fun w hw=>⟨rfl,gP (jt (fa:=aI 6 (eC (.int 0))) (q:=9) rfl (fb:=aa 4) (y:=.lst (ak (bl m))) (q':=0) rfl (Kx w.1 (bl m))),fun _=>rfl⟩))
  have eg:(C.W.filter fun c=>decide (c.1∈bl m)).map (fun c=>(iD c.2.1))=ak (gf (cT C) (bl m)):=by rw[D3];unfold ak;rw[Q7];rfl
  rw[eg]at m8
  have e1:jq (aa 4) (eS 1 (eI (aI 2 (eC (.int 1)))) (aL 6) (bA (e2 jG (aI 6 (eC (.int 0))) (aa 4))) (aI 6 (eC (.int 1))) false) [(n0 ns),(t9 n f),(c9 n C),(i9 k),(uL (bl m)),(i9 j)]=some (.lst (ak (bl m++gf (cT C) (bl m))),1,[(n0 ns),(t9 n f),(c9 n C),(i9 k),some (.lst (ak (bl m)),0),(i9 j)]):=by
   unfold jq
   rw[v4]
   dsimp only
   rw[m8]
   have g1:=K0 (l:=cT C) (bl m)
   have g2:=Gp m D7
   have g3:=K2 C
   show(if(ak (bl m)).length+(ak (gf (cT C) (bl m))).length<=1000 then some (D.lst (ak (bl m)++ak (gf (cT C) (bl m))),1,_)else none)=_
   rw[Qi (by rw[g_,g_];omega),K5]
  have e2:=zO e1 (Qg 1) (fun x hx=>by
   rcases QF.mp hx with q|q
   ·exact vW m q
   ·exact nX h5 _ x q)
  rw[JP,zP m D7]at e2
  exact g9 e2 rfl) ⟨x5,rfl⟩
 rw[gp,D6]at l1
 refine⟨some (.lst (ak (bl M)),0),y5,?_⟩
 unfold uu
 refine(bp (ρ1:=[(n0 ns),(t9 n f),(c9 n C),(i9 k),(uL (bl (bor 0 k))),x5]) (by rw[b1];rfl)).trans ?_
 refine(bp ((kX (sM (m:=C.p) (by omega) (q:=9) rfl)).trans l1)).trans ?_
 have ck:=K7 hC p5 ns (Int.ofNat k) ((uL (bl M))) y5
 rw[zR hk]at ck
 have m8:=jO (k:=1) (pt:=aL 6) (tt:=bA (e2 eJ (aI 6 (eC (.int 0))) (aa 3))) (te:=aI 6 (eC (.int 1))) (deep:=false) (D5 hC p5 ns (Int.ofNat k) (.lst (ak (bl M))) 1 y5) (sN (k:=1) (df n) (fun w=>[some (df n w,9)]) (fun w=>decide (w.1 ∈ [k])) (fun w=>(iD w.2.1)) (fun _=>9) C.W (fun w hw=>⟨rfl,gP (jt (fa:=aI 6 (eC (.int 0))) (q:=9) rfl (fb:=aa 3) (q':=9) rfl ((zy w.1 k).trans (by simp))),fun _=>rfl⟩))
 have eg:(C.W.filter fun c=>decide (c.1 ∈ [k])).map (fun c=>(iD c.2.1))=ak (gf (cT C) [k]):=by rw[D3];unfold ak;rw[Q7];rfl
 rw[eg]at m8
 have hg:=zO m8 (Qg 1) (nX h5 [k])
 refine(bp (ρ1:=[(n0 ns),(t9 n f),(c9 n C),(i9 k),(uL (bl M)),y5]) ((nO ck).trans ((nO (gP (jt (fN (ds:=[cZ n C,(iD k)]) rfl rfl (y76 i6 h5 hk)) hg ((Dh _ _).trans (by rw[Qy rfl];rfl))))).trans rfl))).trans ?_
 exact(nO (gP (jt (fN (ds:=[cZ n C,(iD k)]) rfl rfl (y6t hk eM)) (nV (i:=4) (q:=1) rfl) ((Dh _ _).trans (by rw[Qy rfl];rfl))))).trans rfl
end
def z8a:∀ j:Nat,j<8->cI (-1+Int.ofNat j)≠none:=by decide +kernel
def m9(ns:List Int)(h63:ns.length<=63):∃ q,uv [.lst (ns.map D.int)]=some (.bl true,q):=by
 obtain⟨n,f,L,h8,hL⟩:=z93 ns 0 (YS 0)
 obtain⟨z,hz,bz⟩:=L.bot
 obtain⟨C,hC,p5,hW7,hB3,hCh⟩:=y46 L hz bz ns 20 (by decide)
 have mE:C.p*n<64:=ZP (Vv p5 h8) (by decide)
 obtain⟨ks,nd,mk,es⟩:=z1l L hz bz hC mE
 obtain⟨G,nG,mG,eg⟩:=y35 L hz bz hC mE (by omega)
 have px:∀ k∈G,k.1<C.p/\k.2<n:=fun k hk=>by
  obtain⟨m,h⟩:=(mG k).mp hk
  exact sP L hz bz hC h
 have xw:iM G=iM ks:=(z0i nd nG (fun k=>(mk k).trans (mG k).symm) fun x hx=>by have:=(px x hx).2;omega).symm
 rw[xw]at eg
 obtain⟨ρ1,l1,x3,x4,x5,rfl⟩:=jN (pt:=aL 3) (body:=uu) (bQ (-1) (C.p+3)) (fun _ ρ=>∃ x3 x4 x5,ρ=[(n0 ns),(t9 n f),(c9 n C),x3,x4,x5]) [(n0 ns),(t9 n f),(c9 n C),none,none,none] (fun j hj ρ ag=>by
  obtain⟨x3,x4,x5,rfl⟩:=ag
  rw[t4]at hj
  have ei:(bQ (-1) (C.p+3))[j]'(by rw[t4];exact hj)=.int (-1+Int.ofNat j):=by simp[bQ]
  rw[ei]
  by_cases h:gA C.p (.int (-1+Int.ofNat j))=true
  ·have h':(decide ((0:Int) <= -1+(j:Int))&&decide (-1+(j:Int)<(C.p:Int)))=true:=h
   rw[ZY,Zx,Zx]at h'
   obtain⟨k,hk,e⟩:∃ k:Nat,k<C.p/\(-1+Int.ofNat j:Int)=Int.ofNat k:=⟨j-1,by omega,by show(-1+(j:Int))=((j-1:Nat):Int);omega⟩
   rw[e]
   obtain⟨y4,y5,e1⟩:=z5s hC p5 ns k hk x4 x5
   exact⟨_,_,rfl,.inl e1,_,_,_,rfl⟩
  ·obtain⟨c,hc⟩:=Option.ne_none_iff_exists'.mp (z8a j (by omega))
   obtain⟨y4,y5,e1⟩:=z8o hC p5 ns (-1+Int.ofNat j) hc (by cases q:gA C.p (.int (-1+Int.ofNat j))with|true=>exact absurd q h|false=>rfl) x4 x5
   exact⟨_,_,rfl,.inl e1,_,_,_,rfl⟩) ⟨none,none,none,rfl⟩
 have hit:yT (ae (yG (eC (.int 1))) (ae (e2 cm (aI 2 (eC (.int 0))) (eC (.int 2))) aj)) [(n0 ns),(t9 n f),(c9 n C),none,none,none]=some (bQ (-1) (C.p+3),[(n0 ns),(t9 n f),(c9 n C),none,none,none]):=by
  show(if(-500:Int) <= -1/\(-1:Int)<=500/\(-500:Int)<=(C.p:Int)+2/\(C.p:Int)+2<=500 then some (bQ (-1) ((C.p:Int)+2 - -1).toNat,_)else none)=_
  rw[Qi (by omega),show((C.p:Int)+2 - -1).toNat=C.p+3 by omega]
 refine⟨9,?_⟩
 unfold uv Kl
 refine gy ?_
 show aH _ _ [(n0 ns),none,none,none,none,none]=_
 refine(bp (ρ1:=[(n0 ns),(t9 n f),none,none,none,none]) (g9 (fN (ds:=[dB ns,.int 0]) rfl rfl hL) rfl)).trans ?_
 refine(bp (ρ1:=[(n0 ns),(t9 n f),(c9 n C),none,none,none]) (g9 (fN (ds:=[dB ns,.int 20,cf n f,.bl false]) rfl rfl hCh) rfl)).trans ?_
 refine(bp (ρ1:=[(n0 ns),(t9 n f),(c9 n C),none,none,none]) ((nO (gP (jt (fN (ds:=[cf n f,cZ n C]) rfl rfl es) (fN (ds:=[cf n f,cZ n C]) rfl rfl eg) (z8v _)))).trans rfl)).trans ?_
 exact(bp ((kX hit).trans l1)).trans rfl
def A0 (K:PySem.W.Frag)(mg:Str->Option Value)(x:Str)(st:Stmt):Prop:=∃ f fd,lX K x x st f fd/\mg x=some (.ref f)
def A0.mk{K:PySem.W.Frag}{h:Heap}{mg:Str->Option Value}{x:Str}{f:Addr}{od an:Option Addr}{sl:Array (Option Value)}{oc kV dc pm cd ct:Value}(X:K.In h)(G:h.Ns mainGlobals mg)(a:PySem.W.nsIn K mainGlobals x=some (some (.ref f)))(l:K.lookup f=some ⟨oc,od,.func (PySem.W.fnOf x x (pD st) (jg st) (bj st) .none kV dc pm an cd ct),sl⟩)(c:PySem.W.codeIn K cd x=true)(k:PySem.W.keepIn K (.ref f)=true):A0 K mg x st:=⟨_,_,EW l c k,Zl X G a⟩
theorem A0.at{K:PySem.W.Frag}{mg:Str->Option Value}{x:Str}{ps:List Str}(a:A0 K mg x st)(h:∀ (kV doc pm:Value) (an:Option Addr) (bG ct:Value) (us:List Value),us.length=ps.length->bindArgs (PySem.W.fnOf x x (pD st) (jg st) (bj st) .none kV doc pm an bG ct) ⟨us,[]⟩=pure (ps.zip us)):At K mg x st ps:=by
 obtain⟨f,fd,F,m⟩:=a
 exact⟨f,fd,F,m,F.binds h⟩
def all_mk{l:PySem.W.OpenLaw}{w:World}{K:PySem.W.Frag}{h:Heap}{mg:Str->Option Value}{fa:Addr}{D8:Addr}{D9 xx:Option Addr}{D_:Array (Option Value)}{Ea xy xA xB sY xC:Value}{xr fu y0 y1 y2 y3 y4:Addr}(X:K.In h)(G:h.Ns mainGlobals mg)(hfa:mg "law" = some (.ref fa))
  (A1:A0 K mg "_law_cell" (top 29))
  (A2:A0 K mg "_law_pick" (top 30))
  (A3:A0 K mg "_law_chain" (top 31))
  (A4:A0 K mg "_law_couples" (top 32))
  (A5:A0 K mg "_law_side_by_side" (top 33))
  (A6:A0 K mg "_law_base" (top 34))
  (A7:A0 K mg "_law_ladder" (top 35))
  (A8:A0 K mg "_law_low" (top 36))
  (A9:A0 K mg "_law_join" (top 37))
  (A10:A0 K mg "_law_under" (top 38))
  (A11:A0 K mg "_law_rule" (top 39))
  (A12:A0 K mg "_law_spreads" (top 40))
  (A13:A0 K mg "_law_spread_rule" (top 41))
  (A14:A0 K mg "_law_chart" (top 42))
  (A15:A0 K mg "all_starts" (top 17))
  (A16:A0 K mg "ways_from" (top 19))
  (A17:A0 K mg "led_on" (top 20))
  (A18:A0 K mg "longer_paths" (top 22))
  (A19:A0 K mg "row_of_least" (top 12))
  (A20:A0 K mg "least_of" (top 13))
  (A21:A0 K mg "started" (top 18))
  (A22:A0 K mg "shortest_paths" (top 21))
  (A23:A0 K mg "states" (top 23))
  (A24:A0 K mg "_law_states" (top 44))
  (A25:A0 K mg "_law_word" (top 43))
  (A26:A0 K mg "is_whole" (top 9))
  (A27:A0 K mg "is_number_of" (top 10))
  (A28:A0 K mg "refuse_no_place" (top 15))
  (A29:A0 K mg "goals_from" (top 25))
  (A30:A0 K mg "all_reached" (top 27))
  (A31:A0 K mg "places_reached" (top 26))
  (A32:A0 K mg "_law_reached" (top 45))
  (A33:A0 K mg "goals_of" (top 24))
  (a34:PySem.W.nsIn K mainGlobals "law" = some (some (.ref D8))) (l34:K.lookup D8=some ⟨Ea,D9,.func (PySem.W.fnOf "law" "law" (pD (top 46)) (jg (top 46)) (bj (top 46)) .none xy xA xB xx sY xC),D_⟩) (c34:PySem.W.codeIn K sY "law" = true) (k34:PySem.W.keepIn K (.ref D8)=true)
  (z1:PySem.W.nsIn K mainGlobals "ValueError" = some none) (z2:PySem.W.nsIn K mainGlobals "bool" = some none) (z3:PySem.W.nsIn K mainGlobals "enumerate" = some none) (z4:PySem.W.nsIn K mainGlobals "int" = some none) (z5:PySem.W.nsIn K mainGlobals "isinstance" = some none) (z6:PySem.W.nsIn K mainGlobals "len" = some none) (z7:PySem.W.nsIn K mainGlobals "list" = some none) (z8:PySem.W.nsIn K mainGlobals "max" = some none) (z9:PySem.W.nsIn K mainGlobals "range" = some none) (z10:PySem.W.nsIn K mainGlobals "set" = some none) (z11:PySem.W.nsIn K mainGlobals "sorted" = some none) (z12:PySem.W.nsIn K mainGlobals "tuple" = some none) (xrN:PySem.W.nsIn K mainGlobals "RiseError" = some (some (.ref xr))) (xcg:PySem.W.specialIn K (.builtin "object.__class__") "__get__" = some (some (.builtin "getset_descriptor.__get__"))) (xct:PySem.W.takesIn K (.builtin "object.__class__")=some true) (xrg:PySem.W.findIn K (.ref xr) "__getattribute__" = some (some (.builtin "BaseException.__getattribute__"))) (xrt:PySem.W.findIn K (.ref xr) "__getattr__" = some none) (xrc:PySem.W.findIn K (.ref xr) "__class__" = some (some (.builtin "object.__class__"))) (xro:PySem.W.mroIn K xr (.type "object")=some true) (xrb:PySem.W.mroIn K xr (.type "BaseException")=some true) (xrT:PySem.W.typeIn K (.ref xr)=some (.type "type")) (xe0N:PySem.W.nsIn K mainGlobals "NoPlace" = some (some (.ref fu))) (xe0g:PySem.W.findIn K (.ref fu) "__getattribute__" = some (some (.builtin "BaseException.__getattribute__"))) (xe0t:PySem.W.findIn K (.ref fu) "__getattr__" = some none) (xe0c:PySem.W.findIn K (.ref fu) "__class__" = some (some (.builtin "object.__class__"))) (xe0o:PySem.W.mroIn K fu (.type "object")=some true) (xe0b:PySem.W.mroIn K fu (.type "BaseException")=some true) (xe0V:PySem.W.mroIn K fu (.type "ValueError")=some true) (xe0n0:PySem.W.mroIn K fu (.type "int")=some false) (xe0n1:PySem.W.mroIn K fu (.type "bool")=some false) (xe0n2:PySem.W.mroIn K fu (.type "tuple")=some false) (xe0n3:PySem.W.mroIn K fu (.type "list")=some false) (xe0n4:PySem.W.mroIn K fu (.type "str")=some false) (xe0R:PySem.W.mroIn K fu (.ref xr)=some true) (xe0X:PySem.W.excIn K fu L3.AS "ValueError.__new__" = true) (y0N:PySem.W.nsIn K mainGlobals "NoHouse" = some (some (.ref y0))) (y0O:PySem.W.mroIn K y0 (.type "object")=some true) (y0T:PySem.W.typeIn K (.ref y0)=some (.type "type")) (y0Sxe0:PySem.W.mroIn K fu (.ref y0)=some false) (y0Dxe0:fu≠y0) (y1N:PySem.W.nsIn K mainGlobals "NoMap" = some (some (.ref y1))) (y1O:PySem.W.mroIn K y1 (.type "object")=some true) (y1T:PySem.W.typeIn K (.ref y1)=some (.type "type")) (y1Sxe0:PySem.W.mroIn K fu (.ref y1)=some false) (y1Dxe0:fu≠y1) (y2N:PySem.W.nsIn K mainGlobals "NoRule" = some (some (.ref y2))) (y2O:PySem.W.mroIn K y2 (.type "object")=some true) (y2T:PySem.W.typeIn K (.ref y2)=some (.type "type")) (y2Sxe0:PySem.W.mroIn K fu (.ref y2)=some false) (y2Dxe0:fu≠y2) (y3N:PySem.W.nsIn K mainGlobals "NoStep" = some (some (.ref y3))) (y3O:PySem.W.mroIn K y3 (.type "object")=some true) (y3T:PySem.W.typeIn K (.ref y3)=some (.type "type")) (y3Sxe0:PySem.W.mroIn K fu (.ref y3)=some false) (y3Dxe0:fu≠y3) (y4N:PySem.W.nsIn K mainGlobals "TooGreat" = some (some (.ref y4))) (y4O:PySem.W.mroIn K y4 (.type "object")=some true) (y4T:PySem.W.typeIn K (.ref y4)=some (.type "type")) (y4Sxe0:PySem.W.mroIn K fu (.ref y4)=some false) (y4Dxe0:fu≠y4) :
  ∃ fd:FuncData,(∀ (s:Shared) (v:Value),BindsTo s fd ⟨[v],[]⟩ [("_law_script",v)])/\∀ base:Heap,K.In base->base.Ns mainGlobals mg->dU l.prog w K mg base jh 6 fa fd ["_law_script"] (kM K 1 uv):=by
 have e:=hfa.symm.trans (Zl X G a34)
 cases e
 have B:Bt mg:=⟨Zj X G z1,Zj X G z2,Zj X G z3,Zj X G z4,Zj X G z5,Zj X G z6,Zj X G z7,Zj X G z8,Zj X G z9,Zj X G z10,Zj X G z11,Zj X G z12⟩
 have m_:iU K "NoPlace" fu:=iU.of xe0N ⟨L3.C4 xe0o,xe0g,xe0t,xe0c,xcg,xct,xe0o,xe0b⟩ xe0X xe0V xe0n0 xe0n1 xe0n2 xe0n3 xe0n4
 have T:Xt K mg:=⟨(oW.cons (oW.nil ⟨L3.C4 xro,xrg,xrt,xrc,xcg,xct,xro,xrb⟩ xrT (Zl X G xrN)) (Zl X G xrN) m_ xe0R),⟨fu,⟨m_,Zl X G xe0N⟩⟩,(eT.other (eT.nil (Zl X G y0N)) xe0N (Zl X G y0N) (by decide) y0Dxe0 y0T y0O y0Sxe0),(eT.other (eT.nil (Zl X G y1N)) xe0N (Zl X G y1N) (by decide) y1Dxe0 y1T y1O y1Sxe0),(eT.self (eT.nil (Zl X G xe0N)) xe0N (Zl X G xe0N)),(eT.other (eT.nil (Zl X G y2N)) xe0N (Zl X G y2N) (by decide) y2Dxe0 y2T y2O y2Sxe0),(eT.other (eT.nil (Zl X G y3N)) xe0N (Zl X G y3N) (by decide) y3Dxe0 y3T y3O y3Sxe0),(eT.other (eT.nil (Zl X G y4N)) xe0N (Zl X G y4N) (by decide) y4Dxe0 y4T y4O y4Sxe0)⟩
 refine⟨PySem.W.fnOf "law" "law" (pD (top 46)) (jg (top 46)) (bj (top 46)) .none xy xA xB xx sY xC,fun s v=>.of_eq rfl,fun base KX NG=>?_⟩
 have i7:=W_ (P:=l.prog) (w:=w) (base:=base) B (A1.at fun _ _ _ _ _ _ _ h=>by obtain⟨_,_,rfl⟩:=L3.gQ h;rfl)
 have bU:=Xa B i7 (A2.at fun _ _ _ _ _ _ _ h=>by obtain⟨_,_,_,rfl⟩:=L3.sj h;rfl)
 have iy:=Xf (P:=l.prog) (w:=w) (base:=base) B (A3.at fun _ _ _ _ _ _ _ h=>by obtain⟨_,rfl⟩:=L3.kT h;rfl)
 have fW:=Xj (P:=l.prog) (w:=w) (base:=base) B (A4.at fun _ _ _ _ _ _ _ h=>by obtain⟨_,_,rfl⟩:=L3.gQ h;rfl)
 have dN:=Xn (P:=l.prog) (w:=w) (base:=base) B (A5.at fun _ _ _ _ _ _ _ h=>by obtain⟨_,rfl⟩:=L3.kT h;rfl)
 have i8:=Xo B bU iy fW dN (A6.at fun _ _ _ _ _ _ _ h=>by obtain⟨_,_,rfl⟩:=L3.gQ h;rfl)
 have gS:=Xu B i8 bU (A7.at fun _ _ _ _ _ _ _ h=>by obtain⟨_,_,rfl⟩:=L3.gQ h;rfl)
 have dX:=Xx (P:=l.prog) (w:=w) (base:=base) B (A8.at fun _ _ _ _ _ _ _ h=>by obtain⟨_,rfl⟩:=L3.kT h;rfl)
 have i_:=Xz B dX (A9.at fun _ _ _ _ _ _ _ h=>by obtain⟨_,_,rfl⟩:=L3.gQ h;rfl)
 have iz:=XD (P:=l.prog) (w:=w) (base:=base) B (A10.at fun _ _ _ _ _ _ _ h=>by obtain⟨_,_,rfl⟩:=L3.gQ h;rfl)
 have fy:=XH B dX bU i_ iz (A11.at fun _ _ _ _ _ _ _ h=>by obtain⟨_,_,_,rfl⟩:=L3.sj h;rfl)
 have fX:=XR (P:=l.prog) (w:=w) (base:=base) B (A12.at fun _ _ _ _ _ _ _ h=>by obtain⟨_,_,rfl⟩:=L3.gQ h;rfl)
 have dY:=XU B fy fX bU (A13.at fun _ _ _ _ _ _ _ h=>by obtain⟨_,_,_,rfl⟩:=L3.sj h;rfl)
 have iA:=XX B bU fy dY (A14.at fun _ _ _ _ _ _ _ h=>by obtain⟨_,_,_,_,rfl⟩:=L3.W8 h;rfl)
 have iB:=XZ (P:=l.prog) (w:=w) (base:=base) B (A15.at fun _ _ _ _ _ _ _ h=>by obtain⟨_,rfl⟩:=L3.kT h;rfl)
 have ja:=X1 (P:=l.prog) (w:=w) (base:=base) B (A16.at fun _ _ _ _ _ _ _ h=>by obtain⟨_,_,rfl⟩:=L3.gQ h;rfl)
 have nc:=X2 (P:=l.prog) (w:=w) (base:=base) B (A17.at fun _ _ _ _ _ _ _ h=>by obtain⟨_,_,_,rfl⟩:=L3.sj h;rfl)
 have fY:=X3 B ja nc (A18.at fun _ _ _ _ _ _ _ h=>by obtain⟨_,_,_,rfl⟩:=L3.sj h;rfl)
 have fZ:=X7 (P:=l.prog) (w:=w) (base:=base) B (A19.at fun _ _ _ _ _ _ _ h=>by obtain⟨_,rfl⟩:=L3.kT h;rfl)
 have jT:=X9 B fZ (A20.at fun _ _ _ _ _ _ _ h=>by obtain⟨_,rfl⟩:=L3.kT h;rfl)
 have k8:=Z_ B jT (A21.at fun _ _ _ _ _ _ _ h=>by obtain⟨_,_,_,rfl⟩:=L3.sj h;rfl)
 have eY:=x9a B iB k8 fY (A22.at fun _ _ _ _ _ _ _ h=>by obtain⟨_,_,rfl⟩:=L3.gQ h;rfl)
 have ng:=z3t B eY (A23.at fun _ _ _ _ _ _ _ h=>by obtain⟨_,_,rfl⟩:=L3.gQ h;rfl)
 have gT:=y3m B dX (A24.at fun _ _ _ _ _ _ _ h=>by obtain⟨_,_,rfl⟩:=L3.gQ h;rfl)
 have jb:=y6g (P:=l.prog) (w:=w) (base:=base) B T (A25.at fun _ _ _ _ _ _ _ h=>by obtain⟨_,rfl⟩:=L3.kT h;rfl)
 have jU:=y8o (P:=l.prog) (w:=w) (base:=base) B (A26.at fun _ _ _ _ _ _ _ h=>by obtain⟨_,rfl⟩:=L3.kT h;rfl)
 have dy:=y16 B jU (A27.at fun _ _ _ _ _ _ _ h=>by obtain⟨_,_,rfl⟩:=L3.gQ h;rfl)
 have cG:=x8i B dy (A28.at fun _ _ _ _ _ _ _ h=>by obtain⟨_,_,rfl⟩:=L3.gQ h;rfl)
 have dZ:=x89 B T dy (A28.at fun _ _ _ _ _ _ _ h=>by obtain⟨_,_,rfl⟩:=L3.gQ h;rfl)
 have eF:=y56 (P:=l.prog) (w:=w) (base:=base) B (A29.at fun _ _ _ _ _ _ _ h=>by obtain⟨_,_,rfl⟩:=L3.gQ h;rfl)
 have gU:=y2t B eF (A30.at fun _ _ _ _ _ _ _ h=>by obtain⟨_,_,rfl⟩:=L3.gQ h;rfl)
 have eZ:=x9d B cG gU (A31.at fun _ _ _ _ _ _ _ h=>by obtain⟨_,_,rfl⟩:=L3.gQ h;rfl)
 have eG:=x8o B T dZ (A31.at fun _ _ _ _ _ _ _ h=>by obtain⟨_,_,rfl⟩:=L3.gQ h;rfl)
 have f9:=y1i B T eZ jb eG (A32.at fun _ _ _ _ _ _ _ h=>by obtain⟨_,_,rfl⟩:=L3.gQ h;rfl)
 have jV:=y8s B cG eF (A33.at fun _ _ _ _ _ _ _ h=>by obtain⟨_,_,rfl⟩:=L3.gQ h;rfl)
 exact j15 B gS iA ng gT jV f9 (EW (st:=top 46) l34 c34 k34)
def walk{l:PySem.W.OpenLaw}{q:Program}{loose:List Str}{XP:(Str->Option Value)->Heap->Prop}{YP:World->Heap->Prop}{d:DefRec}{K:Params->PySem.W.Frag}(hn:l.most=some 63)(uT:d.params.defaults=[])
  (hY:∀ (w:World) (h:Heap),YP w h->(K w.params).In h)
  (F:∀ (w:World) (mg:Str->Option Value) (fa:Addr) (h:Heap),(K w.params).In h->h.Ns mainGlobals mg->mg d.name=some (.ref fa)->(∀ x∈tL,PySem.W.tabIn (K w.params) x=none) /\
    ∃ fd:FuncData,(∀ (s:Shared) (u:Value),BindsTo s fd ⟨[u],[]⟩ [("_law_script",u)])/\∀ base:Heap,(K w.params).In base->base.Ns mainGlobals mg->dU l.prog w (K w.params) mg base jh 6 fa fd ["_law_script"] (kM (K w.params) 1 uv)) :
  PySem.W.WalkO q loose XP YP l.row.toRowW d [] (fun f vs=>PySem.call f vs):=
 Wh (n:=63) (k:=6) (x:="_law_script") (F0:=uv) hn (by decide) uT ⟨rfl,by decide,by decide⟩ hY F fun _ _ a ns hl tb hS=>Px m9 hl hS tb
end My
namespace PySem.W.Fast
def tw10032163875668849785:=0
def tw10079621688930770695:=0
def tw1008823749975849662:=0
def tw10090563923646356599:=0
def tw10119099634936422649:=0
def tw10121717398663755719:=0
def tw10139320843804241682:=0
def tw10222823281903220264:=0
def tw10227856519030448628:=0
def tw10236504841044774226:=0
def tw10271083328226521794:=0
def tw10298448875846495419:=0
def tw1035157128612771681:=0
def tw10559947937541614434:=0
def tw10566918850684612901:=0
def tw10706332859793516799:=0
def tw10732863381165599802:=0
def tw10851945104838286306:=0
def tw10943087453297661863:=0
def tw10952643319805530770:=0
def tw10962748558296906683:=0
def tw11019195817668148535:=0
def tw11060786137840642873:=0
def tw11089254155939297224:=0
def tw11094595052963026360:=0
def tw11113067303533528591:=0
def tw11149579439595266519:=0
def tw11241006281901436519:=0
def tw11253905173125338030:=0
def tw11303809006476427644:=0
def tw11307092805581050678:=0
def tw11342352151819966675:=0
def tw11383471698344700351:=0
def tw11431648831255912958:=0
def tw11519241734186913065:=0
def tw11590238811516794598:=0
def tw11674447042000515889:=0
def tw1167953404764267690:=0
def tw11767290906243931780:=0
def tw11908324249511346868:=0
def tw1194641674964333533:=0
def tw11967201603732815904:=0
def tw11971789777852541593:=0
def tw12062420475898342748:=0
def tw12084657085233227756:=0
def tw12118234645759107270:=0
def tw12172779955031837004:=0
def tw12223258360910883894:=0
def tw12244404065086499169:=0
def tw12247122237579545940:=0
def tw12253407295245800530:=0
def tw12310355468255838790:=0
def tw1233763314687734831:=0
def tw12344644357725108667:=0
def tw12457373656571569126:=0
def tw12460867996112758134:=0
def tw12486843352352805618:=0
def tw12524794877641016622:=0
def tw12605493921193456006:=0
def tw12621889474751288132:=0
def tw12775417605710011969:=0
def tw12783901181741578325:=0
def tw12789566210590472550:=0
def tw12813680994541334863:=0
def tw12818476929208867239:=0
def tw12901402335818613349:=0
def tw12913272947943803132:=0
def tw12919508447088891170:=0
def tw12980512408663930887:=0
def tw13021489626037661493:=0
def tw13033963559261449006:=0
def tw13086796839060388678:=0
def tw1312061412518433897:=0
def tw13142605201325216716:=0
def tw13175364881245193997:=0
def tw13191998769043257657:=0
def tw13246274798217134756:=0
def tw13363390437497342580:=0
def tw13421736313063096026:=0
def tw13431422914239012423:=0
def tw13433432740412549457:=0
def tw13465142551841706531:=0
def tw13525359313471707458:=0
def tw13622139902049415958:=0
def tw13625815113912904774:=0
def tw13674576375038740893:=0
def tw13859083519966262450:=0
def tw13960250083560390191:=0
def tw13989705605018034574:=0
def tw14040299060245552338:=0
def tw14079552310757385342:=0
def tw14096705046718753782:=0
def tw14131850059854399897:=0
def tw14160169408129010708:=0
def tw14166107127442133229:=0
def tw14176769737274330846:=0
def tw14195012086605289506:=0
def tw14203178945729644363:=0
def tw14216094090173870424:=0
def tw1422027225367229870:=0
def tw14338816959492120559:=0
def tw14377684599790453916:=0
def tw14413394881036603714:=0
def tw14416492964819588216:=0
def tw14473303001816451813:=0
def tw14608537815347133194:=0
def tw14676041353119521546:=0
def tw14727166211747438587:=0
def tw14750674206607306348:=0
def tw14800383939615757576:=0
def tw14812603760795541372:=0
def tw14847925473619720660:=0
def tw14891860752429723:=0
def tw14935431831282597423:=0
def tw14960587434991002631:=0
def tw15248934873144561355:=0
def tw15403105605272652935:=0
def tw1541695321865732751:=0
def tw15424854268068652507:=0
def tw15462673985018469857:=0
def tw15521656860766085180:=0
def tw15527532074450440156:=0
def tw15572995605985559986:=0
def tw15624311840851716683:=0
def tw15675983265521851847:=0
def tw15690889917311683888:=0
def tw15808138528350929223:=0
def tw1587415349596747625:=0
def tw15886169374536611352:=0
def tw15951014875923739444:=0
def tw15973779626683968189:=0
def tw16036240712777294294:=0
def tw16104352898905767763:=0
def tw16202015689513550825:=0
def tw16321635643162201925:=0
def tw16404764254102331913:=0
def tw16407514051764369226:=0
def tw16446268901480404966:=0
def tw16459076929649968529:=0
def tw16515620000656561421:=0
def tw1664497841631540938:=0
def tw16700503368470261663:=0
def tw16846394353044730075:=0
def tw16914024044170480019:=0
def tw16926453824406468154:=0
def tw17049200998380816856:=0
def tw17055307835600709567:=0
def tw17102821673271823163:=0
def tw17109036622914685191:=0
def tw17117882368308309453:=0
def tw17158029422073281407:=0
def tw17185699396072041441:=0
def tw1719695582014652574:=0
def tw17235793943743371306:=0
def tw1725123409566324284:=0
def tw17361263133042156284:=0
def tw17516187046572227816:=0
def tw17621708583230408353:=0
def tw1763546142446426672:=0
def tw17665540491028783939:=0
def tw17744688195382085136:=0
def tw17789259135337782432:=0
def tw17791397059115955551:=0
def tw178769059989378289:=0
def tw18010250553512287625:=0
def tw18051591610266853703:=0
def tw18060522949084855964:=0
def tw18077407466853926366:=0
def tw18208636940009181539:=0
def tw18219422259719884719:=0
def tw18222174364803868462:=0
def tw18226960403079938050:=0
def tw18256522601228062988:=0
def tw18317520609361188325:=0
def tw1845092492899922374:=0
def tw1926261492822138489:=0
def tw1943134984978679191:=0
def tw2022750210538184188:=0
def tw2088414641154995604:=0
def tw2198984086027211247:=0
def tw2274687481483841204:=0
def tw2324172700957069313:=0
def tw2557887240739895425:=0
def tw2661233807949340588:=0
def tw2672427729391217247:=0
def tw271198265970834685:=0
def tw2836000662286350805:=0
def tw2876365164258242609:=0
def tw3010385602078484196:=0
def tw3012672427151907210:=0
def tw3019086565802339476:=0
def tw3123622082857711388:=0
def tw3195369021372637813:=0
def tw3294285153940514061:=0
def tw3326656259229768662:=0
def tw3389394518427628206:=0
def tw339770635223947131:=0
def tw3532888881237608443:=0
def tw3572232934710920698:=0
def tw3581500550768445154:=0
def tw3653287583085126256:=0
def tw3877331887150065056:=0
def tw3886060061104718678:=0
def tw39327743025342479:=0
def tw404558230437810750:=0
def tw4057902286621669488:=0
def tw4068506187035570147:=0
def tw4104838911925247675:=0
def tw4121781457161446158:=0
def tw4137273522142835270:=0
def tw426507897149709390:=0
def tw4369059733970843555:=0
def tw4379534609394073261:=0
def tw4474641961155310329:=0
def tw4505646965794648993:=0
def tw4586617301294105563:=0
def tw460271315263677561:=0
def tw4603515199538977024:=0
def tw4617389099676572012:=0
def tw4654729315215629936:=0
def tw475124244637000049:=0
def tw4770624037008468144:=0
def tw4852146007283387694:=0
def tw4957594520309838898:=0
def tw4976738460687800334:=0
def tw4997030910725479742:=0
def tw5167151360643609453:=0
def tw5228438019327191162:=0
def tw5231528417717783495:=0
def tw5259761745517323548:=0
def tw5378108105274103463:=0
def tw5530687282866824425:=0
def tw5635141090704692158:=0
def tw573711400301846561:=0
def tw5746001863370541783:=0
def tw5750426668450490416:=0
def tw5811058040998035259:=0
def tw5979692632712890413:=0
def tw6107300357971273041:=0
def tw6111169642287832830:=0
def tw6126186238272782839:=0
def tw6144819185813450117:=0
def tw6166666856708732991:=0
def tw6323793420071412900:=0
def tw6445150666555649360:=0
def tw6447772493636983887:=0
def tw6468950388150337031:=0
def tw6481945287321489119:=0
def tw6575057136550760443:=0
def tw6630895467502053273:=0
def tw6748971851734516631:=0
def tw676455605337981826:=0
def tw6783419838301773140:=0
def tw6802902442506018706:=0
def tw6816631628453456894:=0
def tw6892482704988235320:=0
def tw7027865397728788505:=0
def tw7229852347228513940:=0
def tw728880960481368289:=0
def tw7311099855506087930:=0
def tw7326552480429072062:=0
def tw7345034265137088477:=0
def tw7367438568265977194:=0
def tw7379727659380229537:=0
def tw7438024878386880699:=0
def tw7525049096097263757:=0
def tw7562326456491183259:=0
def tw7591778128175838820:=0
def tw7667940080636832213:=0
def tw7711032854648045237:=0
def tw7763264377706471698:=0
def tw784863089230735423:=0
def tw7887352688704918895:=0
def tw799680962695849830:=0
def tw8032579099462209319:=0
def tw8066867323076252421:=0
def tw8102381701842370989:=0
def tw8164999356147319031:=0
def tw8169046225829449317:=0
def tw8300195111226272437:=0
def tw8378412941588400514:=0
def tw8441394578900328398:=0
def tw8482140078135496657:=0
def tw8540463288408473495:=0
def tw8573223339341142885:=0
def tw8611346972176555168:=0
def tw8742783794952913310:=0
def tw8764975776134752127:=0
def tw8779384657848010496:=0
def tw8789311532344281925:=0
def tw8818596523359731589:=0
def tw884363202908041809:=0
def tw8866184628210909191:=0
def tw9069924812948430961:=0
def tw9078810932340564353:=0
def tw913383696244546040:=0
def tw9211979168492045797:=0
def tw9237955062520917342:=0
def tw9252736690639413806:=0
def tw9441282863224110318:=0
def tw9461942398549174459:=0
def tw9489314413091025462:=0
def tw9604995341508639527:=0
def tw9661714713345314627:=0
def tw9932487927518804354:=0
def tw9956146422461043804:=0
def tw999993779269927224:=0
end PySem.W.Fast
open PySem PySem.W PyProof.Rows
set_option maxRecDepth 100000 in
set_option maxHeartbeats 0 in
theorem PySem.Challenge.cw_ladderhall_k40_states_holds : PySem.Challenge.rw_ladderhall_k40_states.Holds := by
  w_on; o_law; k_head; (case hw => w_witness2)
  k_fill
  refine My.walk (l := PySem.Challenge.rw_ladderhall_k40_states) rfl rfl (fun w h Y => PySem.W.kIn_of Y) ?F
  case F =>
    intro w mg fa h KX G hmg
    refine' ⟨L3.T0.of ?r1 ?r2 ?r3 ?r4 ?r5 ?r6, ?al⟩
    (case r1 => refine' L3.j56 ?_; k_is)
    (case r2 => refine' L3.j56 ?_; k_is)
    (case r3 => refine' L3.j56 ?_; k_is)
    (case r4 => refine' L3.j56 ?_; k_is)
    (case r5 => refine' L3.j56 ?_; k_is)
    (case r6 => refine' L3.j56 ?_; k_is)
    refine' My.all_mk KX G hmg ?A1 ?A2 ?A3 ?A4 ?A5 ?A6 ?A7 ?A8 ?A9 ?A10 ?A11 ?A12 ?A13 ?A14 ?A15 ?A16 ?A17 ?A18 ?A19 ?A20 ?A21 ?A22 ?A23 ?A24 ?A25 ?A26 ?A27 ?A28 ?A29 ?A30 ?A31 ?A32 ?A33 ?a34 ?l34 ?c34 ?k34 ?z1 ?z2 ?z3 ?z4 ?z5 ?z6 ?z7 ?z8 ?z9 ?z10 ?z11 ?z12 ?xrN ?xcg ?xct ?xrg ?xrt ?xrc ?xro ?xrb ?xrT ?xe0N ?xe0g ?xe0t ?xe0c ?xe0o ?xe0b ?xe0V ?xe0n0 ?xe0n1 ?xe0n2 ?xe0n3 ?xe0n4 ?xe0R ?xe0X ?y0N ?y0O ?y0T ?y0Sxe0 ?y0Dxe0 ?y1N ?y1O ?y1T ?y1Sxe0 ?y1Dxe0 ?y2N ?y2O ?y2T ?y2Sxe0 ?y2Dxe0 ?y3N ?y3O ?y3T ?y3Sxe0 ?y3Dxe0 ?y4N ?y4O ?y4T ?y4Sxe0 ?y4Dxe0
    (case A1 | A2 | A3 | A4 | A5 | A6 | A7 | A8 | A9 | A10 | A11 | A12 | A13 | A14 | A15 | A16 | A17 | A18 | A19 | A20 | A21 | A22 | A23 | A24 | A25 | A26 | A27 | A28 | A29 | A30 | A31 | A32 | A33 => refine' My.A0.mk KX G ?a ?l ?c ?k; (case a => k_is); (case l => k_is); (case c => k_is); (case k => k_is))
    (case a34 => k_is)
    (case l34 => k_is)
    (case c34 => k_is)
    (case k34 => k_is)
    (case z1 => k_is)
    (case z2 => k_is)
    (case z3 => k_is)
    (case z4 => k_is)
    (case z5 => k_is)
    (case z6 => k_is)
    (case z7 => k_is)
    (case z8 => k_is)
    (case z9 => k_is)
    (case z10 => k_is)
    (case z11 => k_is)
    (case z12 => k_is)
    (case xrN => k_is)
    (case xcg => k_is)
    (case xct => k_is)
    (case xrg => k_is)
    (case xrt => k_is)
    (case xrc => k_is)
    (case xro => k_is)
    (case xrb => k_is)
    (case xrT => k_is)
    (case xe0N => k_is)
    (case xe0g => k_is)
    (case xe0t => k_is)
    (case xe0c => k_is)
    (case xe0o => k_is)
    (case xe0b => k_is)
    (case xe0V => k_is)
    (case xe0n0 => k_is)
    (case xe0n1 => k_is)
    (case xe0n2 => k_is)
    (case xe0n3 => k_is)
    (case xe0n4 => k_is)
    (case xe0R => k_is)
    (case xe0X => k_exc)
    (case y0N => k_is)
    (case y0O => k_is)
    (case y0T => k_is)
    (case y0Sxe0 => k_is)
    (case y0Dxe0 => decide)
    (case y1N => k_is)
    (case y1O => k_is)
    (case y1T => k_is)
    (case y1Sxe0 => k_is)
    (case y1Dxe0 => decide)
    (case y2N => k_is)
    (case y2O => k_is)
    (case y2T => k_is)
    (case y2Sxe0 => k_is)
    (case y2Dxe0 => decide)
    (case y3N => k_is)
    (case y3O => k_is)
    (case y3T => k_is)
    (case y3Sxe0 => k_is)
    (case y3Dxe0 => decide)
    (case y4N => k_is)
    (case y4O => k_is)
    (case y4T => k_is)
    (case y4Sxe0 => k_is)
    (case y4Dxe0 => decide)
