import PyProof.Rows.All
import Wide.All
import OpenK.AllK
import Wide.FinOn
import Lean
import PyProof.EqAt
import PyProof.EqKinds
import PyProof.TupleCall
import KE.KIsNot
import PyProof.ExcArgs
import OpenK.KOwn
import KE.LcSums
import PyProof.EnumMake
import PyProof.Draws
import PyProof.Rows.EnumRows
import PyProof.ExcBaseAll.ValueError
import PyProof.NsDelKeeps
import PyProof.Rows.SetFrom
import PyProof.WalksMore
import KE.KDictSum
import PyProof.Rows.MinMaxN
import PyProof.Rows.CallKwBuiltin
import KE.KMinKey
import KE.KSortKey
import PyProof.DictWalks
import PySem.SetOps
import PyProof.TupleKey
import PyProof.SetKind
import PyProof.IsRules
import PyProof.Rules
import PyProof.DictKinds
import KE.KSortAsk
import KE.KSortTup
import PyProof.PureInt
import PyProof.DictIter
import KE.KItemsList
import PyProof.DictUpdate
import PyProof.DictRoadsH
import PySem.Challenge.RW_ladderhall_k42_whole_by_paths
set_option Elab.async false
set_option linter.all false
set_option maxRecDepth 100000
set_option maxHeartbeats 0
noncomputable section
def Qa:=@PySem.wpAny_bind
def Qb:=@List.getElem?_eq_getElem
def Qc:=@List.length_map
def Qd:=@PySem.Heap.get?_push_of_some
def Qe:=@PySem.wpAny_pure
def Qf:=@List.getD_eq_getElem?_getD
def Qg:=@List.mem_cons_of_mem
def Qh:=@List.mem_cons_self
def Qi:=@Nat.le_refl
def Qj:=@if_pos
def Qk:=@if_neg
def Ql:=@List.getElem?_map
def Qm:=@List.size_toArray
def Qn:=@List.length_append
def Qo:=@List.mem_append_right
def Qp:=@PySem.Heap.lt_size
def Qq:=@List.mem_singleton
def Qr:=@List.mem_map
def Qs:=@PySem.Heap.get?_push_size
def Qt:=@Bool.false_eq_true
def Qu:=@List.mem_append_left
def Qv:=@Option.map_eq_some_iff
def Qw:=@List.mem_cons
def Qx:=@List.mem_append
def Qy:=@List.getElem?_eq_some_iff
def Qz:=@List.mem_range
def QA:=@decide_eq_true
def QB:=@Nat.lt_of_lt_of_le
def QC:=@List.mem_of_getElem?
def QF:=@PySem.PassesOwn.never
def QG:=@List.map_cons
def QH:=@Option.some.inj
def QI:=@List.not_mem_nil
def QJ:=@Array.getD_eq_getD_getElem?
def QK:=@List.getElem?_eq_none
def QL:=@Nat.le_trans
def QM:=@List.length_range
def QN:=@Array.length_toList
def QO:=@List.length_cons
def QP:=@Nat.ne_of_lt
def QR:=@List.getElem_mem
def QS:=@Nat.zero_le
def QT:=@List.getElem?_set_self
def QU:=@PySem.mem_of_lookup
def QV:=@of_decide_eq_true
def QW:=@List.getElem?_append_left
def QX:=@List.getElem?_set_ne
def QY:=@PyProof.Rows.boot_tuple
def QZ:=@decide_eq_false
def Q0:=@Nat.lt_irrefl
def Q1:=@PySem.Heap.SameBut.update
def Q2:=@List.getElem_of_mem
def Q3:=@List.map_append
def Q4:=@PySem.wpAny_holding
def Q5:=@Array.getElem?_toList
def Q6:=@PySem.wpAny_newObj_type
def Q7:=@List.nodup_cons
def Q8:=@Nat.not_lt_zero
def Q9:=@Bool.and_eq_true_iff
def Za:=@List.length_take
def Zb:=@List.map_map
def Zc:=@PySem.W.mg_none_of
def Zd:=@Array.getElem?_eq_getElem
def Ze:=@List.map_congr_left
def Zf:=@PySem.SeqAt.canLay_of_shaped
def Zg:=@PySem.wpAny_call_entry
def Zh:=@List.length_set
def Zi:=@Bool.false_ne_true
def Zj:=@List.length_eq_zero_iff
def Zk:=@Nat.lt_succ_of_lt
def Zl:=@if_false
def Zm:=@PyProof.Rows.slot_tuple_getitem
def Zn:=@List.getElem?_range
def Zo:=@PySem.W.kia_one
def Zp:=@List.getElem?_append_right
def Zq:=@PySem.wpAny_callSpecial?_slot
def Zr:=@List.lookup_cons
def Zs:=@List.filter_cons_of_pos
def Zt:=@List.ext_getElem?
def Zu:=@PySem.F.slot_dict_keyiterator_next
def Zv:=@Nat.lt_succ_self
def Zw:=@PySem.Heap.get?_update_self
def Zx:=@List.length_filter_le
def Zy:=@List.getElem?_cons_succ
def Zz:=@if_true
def ZA:=@PySem.Heap.get?_update_other
def ZB:=@PyProof.Rows.boot_list
def ZC:=@List.mergeSort_perm
def ZD:=@List.append_assoc
def ZE:=@List.length_replicate
def ZF:=@PySem.F.called_set
def ZG:=@List.take_length
def ZH:=@List.filter_cons_of_neg
def ZI:=@Nat.le_of_lt
def ZJ:=@PySem.wpAny_mono
def ZK:=@PySem.Heap.size_push
def ZL:=@decide_eq_true_eq
def ZM:=@PySem.wpAny_dictEntries
def ZN:=@List.replicate_succ
def ZO:=@List.length_drop
def ZP:=@List.getElem?_take_of_lt
def ZQ:=@congrArg
def ZR:=@PySem.sizeLine_eq
def ZS:=@PySem.wpAny_typeNameOfWhole_keyiter
def ZT:=@PySem.wpAny_truthy_bool
def ZU:=@List.getElem?_replicate
def ZV:=@PySem.wpAny_setState_of
def ZW:=@List.mem_filter
def ZX:=@List.append_nil
def ZY:=@PySem.codeAny_builtin
def ZZ:=@List.length_zip
def Z0:=@beq_eq_false_iff_ne
def Z1:=@List.length_pos_iff
def Z2:=@PyProof.Rows.F.plain_set_update_loop
def Z3:=@PyProof.Rows.callWith_type1
def Z4:=@Array.getElem?_eq_none
def Z5:=@Bool.not_true
def Z6:=@beq_self_eq_true
def Z7:=@PySem.Calls.spliced_cons
def Z8:=@Nat.lt_of_le_of_lt
def Z9:=@PySem.tupleKind_room_in1
def Ja:=@PySem.F.slot_tuple_iterator_next
def Jb:=@Array.getElem?_eq_some_iff
def Jc:=@List.getElem?_toArray
def Jd:=@List.pairwise_iff_getElem
def Je:=@PySem.wpAny_passesOwn
def Jf:=@List.length_nil
def Jg:=@Option.map_some
def Jh:=@PyProof.Rows.get?_update_seq
def Ji:=@List.flatten_cons
def Jj:=@PySem.codeAny_call_builtin
def Jk:=@PySem.Around.under_plainId
def Jl:=@List.nodup_append
def Jm:=@List.take_add_one
def Jn:=@List.flatten_replicate_singleton
def Jo:=@PySem.Paired.length
def Jp:=@Option.isSome_iff_exists
def Jq:=@beq_iff_eq
def Jr:=@List.filterMap_cons_some
def Js:=@List.filterMap_cons
def Jt:=@Ne.symm
def Ju:=@List.all_eq_true
def Jv:=@decide_eq_decide
def Jw:=@Nat.le_succ
def Jx:=@PySem.W.cellsFrom_some
def Jy:=@PySem.Calls.callWith_builtin
def Jz:=@PySem.wpAny_pyIter_tuple
def JA:=@Nat.succ_pos
def JB:=@Nat.min_self
def JC:=@Nat.succ.inj
def JD:=@List.find?_cons
def JE:=@PySem.builtinLookup_eq_fast
def JF:=@PySem.F.typeOf_object_class
def JG:=@List.pairwise_map
def JH:=@List.foldl_append
def JI:=@PySem.Calls.evalArgs_plain
def JJ:=@PySem.call_meets
def JK:=@List.nodup_nil
def JL:=@Std.Legacy.Range.forIn_eq_forIn_range'
def JM:=@PySem.Obj.data_mapDictKeys
def JN:=@List.mem_of_mem_take
def JO:=@Nat.mul_le_mul
def JP:=@PySem.wpAny_typeOf
def JQ:=@Nat.lt_trans
def JR:=@PySem.wpAny_forIn_list
def JS:=@PySem.Calls.call_function_entry
def JT:=@List.map_eq_nil_iff
def JU:=@PyProof.Rows.F.entry_set_update_loop
def JV:=@PySem.F.args_dict_keyiterator_next_1
def JW:=@PySem.F.args_tuple_add_2
def JX:=@PySem.wpAny_attempt
def JY:=@List.length_erase_of_mem
def JZ:=@List.filterMap_cons_none
def J0:=@Bool.true_and
def J1:=@PySem.F.entry_dict_keyiterator_next
def J2:=@PySem.pushCells_keeps
def J4:=@PySem.wpAny_dictEpoch
def J5:=@PySem.Obj.data_mapFields
def J6:=@List.zip_cons_cons
def J7:=@PySem.F.entry_tuple_add
def J8:=@PySem.wpAny_field
def J9:=@PySem.F.plainAttrs_dict
def Ya:=@PySem.F.plainAttrs_list
def Yb:=@List.pairwise_mergeSort
def Yc:=@PySem.Value.isInt_shape
def Yd:=@PySem.Calls.spliced_nil
def Ye:=@PySem.codeAny_mono
def Yf:=@PySem.F.slot_tuple_add
def Yg:=@PySem.isSubtype_type
def Yh:=@PyProof.Rows.room_in_shaped
def Yi:=@Int.toNat_natCast
def Yj:=@Nat.zero_add
def Yk:=@List.length_pos_of_mem
def Yl:=@List.take_of_length_le
def Ym:=@bne_self_eq_false
def Yn:=@PySem.F.slot_dict_iter
def Yo:=@List.take_succ_eq_append_getElem
def Yp:=@PySem.F.slot_dict_get
def Yq:=@List.take_append_drop
def Yr:=@List.getElem?_zipWith
def Ys:=@PySem.wpAny_notOrdered_dict
def Yt:=@Bool.and_eq_true
def Yu:=@PySem.wpAny_rule
def Yv:=@Nat.le_add_right
def Yw:=@List.range'_succ
def Yx:=@PySem.F.slot_tuple_mul
def Yy:=@PySem.wpAny_isInstance
def Yz:=@List.nodup_range
def YA:=@List.mem_flatMap
def YB:=@List.any_cons
def YC:=@Array.mem_toList_iff
def YD:=@Nat.exists_eq_succ_of_ne_zero
def YE:=@List.mem_erase_of_ne
def YF:=@Int.le_refl
def YG:=@PySem.W.kdl_size
def YH:=@PySem.wpAny_execs_nil
def YI:=@List.of_mem_zip
def YJ:=@PySem.F.slot_int_rmul
def YK:=@PySem.wpAny_specialOf
def YL:=@PySem.typeLookup_type
def YM:=@Nat.le_antisymm
def YN:=@PySem.F.args_tuple_iterator_next_1
def YO:=@Nat.lt_succ_iff
def YQ:=@PySem.size_of_entries
def YR:=@PySem.F.slot_dict_setdefault
def YS:=@List.range_succ
def YT:=@List.mem_zipIdx_iff_getElem?
def YU:=@PySem.F.slot_gs_get
def YV:=@Int.toNat_of_nonneg
def YW:=@PySem.Obj.isFreed_of_dict
def YX:=@List.mem_map_of_mem
def YY:=@Nat.mul_comm
def YZ:=@PySem.F.entry_tuple_iterator_next
def Y0:=@List.idxOf_lt_length_of_mem
def Y1:=@PySem.Calls.Name_function_global
def Y2:=@List.mem_filterMap
def Y3:=@PySem.wpAny_Call_Name_kw
def Y4:=@PySem.Code.quiet_builtin
def Y5:=@PySem.F.excAttr_ValueError
def Y6:=@List.getElem?_take_eq_none
def Y7:=@PySem.wpAny_seqItems
def Y8:=@PySem.wpAny_setField
def Y9:=@List.length_zipIdx
def Va:=@PySem.wpAny_fieldsOf
def Vb:=@Array.perm_iff_toList_perm
def Vc:=@Int.natCast_nonneg
def Vd:=@Int.emod_lt_of_pos
def Ve:=@PySem.wpAny_binaryOp_repeat_ref
def Vf:=@List.drop_eq_getElem_cons
def Vg:=@List.ne_nil_of_length_pos
def Vh:=@PySem.W.kitx_list
def Vi:=@PySem.wpAny_Call_method
def Vj:=@PySem.wpAny_pyIter_list
def Vk:=@Array.getElem_mem
def Vl:=@PySem.wpAny_pyIter_slot
def Vm:=@Function.comp_def
def Vo:=@PySem.F.slot_tuple_index
def Vq:=@Array.size_setIfInBounds
def Vr:=@PySem.wpAny_newList
def Vs:=@PySem.F.slot_dict_update
def Vt:=@PySem.wpAny_eqBool_int
def Vu:=@PySem.noFill_tuple_add
def Vv:=@Nat.succ_le_succ
def Vw:=@PySem.F.args_dict_get_3
def Vx:=@or_false
def Vy:=@PySem.wpAny_askSetting
def Vz:=@Nat.div_eq_of_lt
def VA:=@List.map_fst_zip
def VB:=@Nat.ne_of_gt
def VC:=@PySem.concat_meets
def VD:=@PySem.typeIs_int
def VE:=@PySem.call_meetsIn
def VF:=@PySem.F.entry_dict_get
def VG:=@Nat.not_lt
def VH:=@Nat.mod_lt
def VI:=@Nat.lt_or_ge
def VJ:=@Int.le_trans
def VL:=@List.range_succ_eq_map
def VM:=@List.filter_eq_nil_iff
def VN:=@List.zip_append
def VO:=@Array.Perm.refl
def VP:=@List.set_append
def VQ:=@Int.emod_nonneg
def VR:=@PySem.F.plain_set_new
def VS:=@List.Perm.append_left
def VT:=@PySem.F.slot_set_iter
def VU:=@PyProof.Rows.boot_max
def VW:=@Prod.ext
def VX:=@Bool.and_false
def VY:=@PySem.boot_len
def VZ:=@List.range_eq_range'
def V0:=@PySem.wpAny_of_eq
def V1:=@List.take_zero
def V2:=@List.length_eraseIdx
def V3:=@Bool.not_false
def V4:=@Array.getElem_of_mem
def V5:=@List.Perm.refl
def V6:=@dif_pos
def V7:=@Bool.and_true
def V8:=@Int.ofNat.inj
def V9:=@Nat.succ_mul
def Ua:=@List.map_nil
def Ub:=@Nat.sub_zero
def Uc:=@Nat.succ_add
def Ud:=@Nat.sub_self
def Ue:=@Int.le_total
def Uf:=@Bool.or_true
def Ug:=@Sum.inr.inj
namespace L2
open PySem PySem.Spec PyProof.Rows
variable {A:Around}{C a b dx it:Addr}{E:Value->Shared->Prop}{K:PySem.W.Frag}{M:Model}{N ps:List Str}{P:Program}{Q:Unit->Shared->Prop}{base h:Heap}{body:List Stmt}{c e tg:Expr}{es:List Expr}{f:Value->Value->Sem Value}{fp:List Addr}{g:Int->Int->Int}{i j n:Nat}{kindOf:Str->Option NameKind}{mA mg:Str->Option Value}{o:Obj}{op:CmpOp}{pins:List (Addr×Obj)}{qual x:Str}{s s':Shared}{sc scope:Scope}{u v:Value}{us:List Value}{w:World}
abbrev Key:=Sum Int Str
def sX:Key->Value->Bool
 | .inl k,v=>Value.isInt k v
 | .inr x,v=>Value.isStrOf x v
def KQ (w:World):Key->Int
 | .inl k=>hashInt k
 | .inr x=>hashStr w x
theorem nV:∀ {k:Key} {v:Value},sX k v=true->(∃ i t,k=Sum.inl i/\v=Value.int i t)\/(∃ x t,k=Sum.inr x/\v=Value.str x t)
 | .inl i,v,h=>by
  obtain⟨t,e⟩:=Yc (k:=i) (v:=v) h
  exact .inl ⟨i,t,rfl,e⟩
 | .inr x,v,h=>by
  obtain⟨t,e⟩:=Value.isStrOf_shape (x:=x) (v:=v) h
  exact .inr ⟨x,t,rfl,e⟩
theorem KR(i:Int)(t:Tok):sX (.inl i) (.int i t)=true:=by simp[sX,Value.isInt]
theorem KS(x:Str)(t:Tok):sX (.inr x) (.str x t)=true:=by simp[sX,Value.isStrOf]
theorem KU(a b:Int):decide ((Sum.inl a:Key)=Sum.inl b)=(a==b):=by
 by_cases e:a=b
 ·subst e;simp
 ·have h:¬ (Sum.inl a:Key)=Sum.inl b:=fun q=>e (Sum.inl.inj q)
  rw[QZ h]
  exact(Z0.mpr e).symm
theorem KW(a b:Str):decide ((Sum.inr a:Key)=Sum.inr b)=decide (a=b):=by
 by_cases e:a=b
 ·subst e;simp
 ·have h:¬ (Sum.inr a:Key)=Sum.inr b:=fun q=>e (Ug q)
  rw[QZ h,QZ e]
theorem KY(a:Int)(b:Str):decide ((Sum.inl a:Key)=Sum.inr b)=false:=QZ (fun q=>nomatch q)
theorem KZ(a:Str)(b:Int):decide ((Sum.inr a:Key)=Sum.inl b)=false:=QZ (fun q=>nomatch q)
def hZ (prog:Program)(w:World):PySem.KeyKind prog w Key where
 is:=sX
 hash:=KQ w
 inj:=fun v a b ha hb=>by
  rcases nV ha with⟨i,t,rfl,rfl⟩|⟨x,t,rfl,rfl⟩
  ·rcases nV hb with⟨j,u,rfl,e⟩|⟨y,u,rfl,e⟩
   ·injection e with e1 _;rw[e1]
   ·exact nomatch e
  ·rcases nV hb with⟨j,u,rfl,e⟩|⟨y,u,rfl,e⟩
   ·exact nomatch e
   ·injection e with e1 _;rw[e1]
 byValue:=fun k v h=>by
  rcases nV h with⟨i,t,rfl,rfl⟩|⟨x,t,rfl,rfl⟩<;>rfl
 pyHash:=fun hv h=>by
  rcases nV hv with⟨i,t,rfl,rfl⟩|⟨x,t,rfl,rfl⟩
  ·exact wpAny_pyHash_int h
  ·exact wpAny_pyHash_str h
 eqBool:=fun hu hv h=>by
  rcases nV hu with⟨i,t,rfl,rfl⟩|⟨x,t,rfl,rfl⟩
  ·rcases nV hv with⟨j,u,rfl,rfl⟩|⟨y,u,rfl,rfl⟩
   ·rw[KU]at h;exact Vt h
   ·rw[KY]at h;exact SeqAt.EqAt.int_str i t y u _ _ _ _ h
  ·rcases nV hv with⟨j,u,rfl,rfl⟩|⟨y,u,rfl,rfl⟩
   ·rw[KZ]at h;exact SeqAt.EqAt.str_int x t j u _ _ _ _ h
   ·rw[KW]at h;exact wpAny_eqBool_str h
 «strs»:=fun k x t v h=>by
  rcases nV h with⟨i,u,rfl,e⟩|⟨y,u,rfl,e⟩
  ·exact nomatch e
  ·injection e with e1 _
   subst e1
   cases v<;>rfl
theorem K0(prog:Program)(w:World)(i:Int)(t:Tok):(hZ prog w).is (.inl i) (.int i t)=true:=KR i t
theorem K1(prog:Program)(w:World)(x:Str)(t:Tok):(hZ prog w).is (.inr x) (.str x t)=true:=KS x t
inductive V where
 | bo|bl (b:Bool)|int (i:Int)|str (x:Str)|uE (b:Array UInt8)|sY (b:UInt64)|ref (a:Addr)|ty (n:String)
 deriving DecidableEq
def bw:V->Value->Prop
 | .bo,u=>u=Value.none
 | .bl b,u=>u=Value.bool b
 | .int i,u=>∃ t,u=Value.int i t
 | .str x,u=>∃ t,u=Value.str x t
 | .uE b,u=>∃ t,u=Value.bytes b t
 | .sY b,u=>∃ t,u=Value.float b t
 | .ref a,u=>u=Value.ref a
 | .ty n,u=>u=Value.type n
abbrev bc:List V->List Value->Prop:=Paired bw
theorem bc.length{xs:List V}(r:bc xs us):xs.length=us.length:=Jo r
theorem bc.get:∀ {xs:List V} {us:List Value} {i:Nat} {x:V},bc xs us->xs[i]? = some x->∃ u,us[i]? = some u/\bw x u
 | _,_,_,_,.nil,e=>by simp at e
 | _,_,0,_,.cons r _,e=>by simp at e;subst e;exact⟨_,rfl,r⟩
 | _,_,i+1,x,.cons _ t,e=>by
  obtain⟨u,h1,h2⟩:=bc.get (i:=i) (x:=x) t (by simpa using e)
  exact⟨u,by simpa using h1,h2⟩
theorem bc.set{x:V}(r:bw x u):∀ {xs:List V} {us:List Value} (i:Nat),bc xs us->bc (xs.set i x) (us.set i u)
 | _,_,_,.nil=>.nil
 | _,_,0,.cons _ t=>.cons r t
 | _,_,i+1,.cons q t=>.cons q (bc.set r i t)
theorem bc.append:∀ {xs ys:List V} {us ws:List Value},bc xs us->bc ys ws->bc (xs++ys) (us++ws)
 | _,_,_,_,.nil,s=>s
 | _,_,_,_,.cons r t,s=>.cons r (bc.append t s)
theorem bc.take:∀ {xs:List V} {us:List Value} (n:Nat),bc xs us->bc (xs.take n) (us.take n)
 | _,_,0,_=>.nil
 | _,_,_+1,.nil=>.nil
 | _,_,n+1,.cons r t=>.cons r (bc.take n t)
theorem bc.drop:∀ {xs:List V} {us:List Value} (n:Nat),bc xs us->bc (xs.drop n) (us.drop n)
 | _,_,0,r=>r
 | _,_,_+1,.nil=>.nil
 | _,_,n+1,.cons _ t=>bc.drop n t
def kG:Option V->Option Value->Prop
 | some v,some u=>bw v u
 | none,none=>True
 | _,_=>False
def KV {κ:Type}:List (κ×V)->List (κ×Value)->Prop:=Paired fun(p:κ×V) (q:κ×Value)=>p.1=q.1/\bw p.2 q.2
def kV:Key->V
 | .inl i=>.int i
 | .inr x=>.str x
inductive HO where
 | lst (xs:List V)
 | tup (xs:List V)
 | dK (ah:List (Key×V))|dT (ah:List (List Key×V))
 | set (S:Int->Bool) (n:Nat)
 | ins (C dx:Addr) (fs:List (Str×V))
 | own (x:Addr)
 | xd (fs:List (Str×V))
 | met (f x:Addr)
 | lH (lo hi:Int)
 | fF (o:Obj) (u:HO)
 | jI (ps:Array Value)
 | ext (φ:Heap->Prop)
abbrev Hp:=Addr->Option HO
def upd (H:Hp)(a:Addr)(o:HO):Hp:=fun b=>if b=a then some o else H b
theorem fO{H:Hp}{o:HO}:upd H a o a=some o:=by unfold upd;rw[Qj rfl]
theorem aZ{H:Hp}{o:HO}(h:b≠a):upd H a o b=H b:=by unfold upd;rw[Qk h]
theorem K2{H:Hp}{o u:HO}:upd (upd H a o) a u=upd H a u:=by
 funext b;unfold upd;split<;>rfl
theorem zK{H:Hp}{o u:HO}(h:H a=some o)(h':H b=some u)(d:o≠u):a≠b:=by
 intro e;subst e;rw[h]at h';exact d (QH h')
theorem h_{H:Hp}{o:HO}(h:H a=some o)(h':H b=none):a≠b:=by
 intro e;subst e;rw[h]at h';cases h'
def kH (h:Heap)(a:Addr)(items:Array Value):Prop:=∃ o,h.get? a=some o/\o.cls=.type "tuple" /\ (∃ n,o.data=.seq items n)/\o.dict=none
theorem kH.tup{h:Heap}{a:Addr}{items:Array Value}(x:kH h a items):IsTup h a items:=let ⟨o,e,c,n,_⟩:=x;⟨o,e,c,n⟩
theorem kH.new(h:Heap)(items:Array Value):kH (h.push { cls:=.type "tuple",data:=.seq items }) h.objs.size items:=⟨_,Qs _ rfl,rfl,⟨_,rfl⟩,rfl⟩
theorem kH.lt{items:Array Value}(x:kH h a items):a<h.objs.size:=let ⟨_,e,_⟩:=x;Qp e
section
variable (P:Program)(w:World)
def cZ (H:Hp)(h:Heap)(a:Addr):HO->Prop
 | .lst xs=>xs.length<=sizeLine/\∃ (aj:List Value) (n:Nat),bc xs aj/\h.get? a=some { cls:=.type "list",data:=.seq aj.toArray n }
 | .tup xs=>xs.length<=sizeLine/\∃ aj:List Value,bc xs aj/\kH h a aj.toArray
 | .dK ah=>ah.length<=sizeLine/\(a==sysModules)=false/\∃ vs,KV ah vs/\h.DictOf (hZ P w) a vs
 | .dT ah=>ah.length<=sizeLine/\(a==sysModules)=false/\∃ xs:List (List Key×Addr×Value),
   Paired (fun(p:List Key×V) (q:List Key×Addr×Value)=>p.1=q.1/\H q.2.1=some (.tup (p.1.map kV))/\bw p.2 q.2.2) ah xs /\
   ∃ o es ep,h.get? a=some o/\o.ExactDict/\o.data=.dict es ep/\es.toList=xs.map (entryOfKey (tupleKind (hZ P w)))/\(xs.map (·.1)).Nodup
 | .set S n=>h.SetOf (intKind P w) a S n
 | .ins C dx fs=>H dx=some (.own a)/\fs.length<=1000/\dx≠a/\h.get? a=some (PySem.W.instObj C dx) /\
   ∃ mA,h.Ns1 dx mA/\(∀ f,kG (fs.lookup f) (mA f))/\PySem.Within mA (fs.map (·.1))
 | .own _=>∃ o,h.get? a=some o
 | .xd fs=>∃ mA,h.Ns1 a mA/\∀ f,kG (fs.lookup f) (mA f)
 | .lH lo hi=>∃ t u v,h.get? a=some { cls:=.type "range",data:=.fields #[.int lo t,.int hi u,.int 1 v] }
 | .fF o u=>h.get? a=some o/\cZ H h a u
 | .jI ps=>h.get? a=some { cls:=.none,data:=.fields ps }
 | .met f x=>h.get? a=some (PySem.W.methodObj (.ref f) (.ref x))
 | .ext φ=>φ h/\(∃ o,h.get? a=some o)/\∀ h1 h2:Heap,φ h1->(∀ o,h1.get? a=some o->h2.get? a=some o)->φ h2
def de (H:Hp)(h:Heap):Prop:=∀ a o,H a=some o->cZ P w H h a o
end
section
variable {P:Program}{w:World}{H H':Hp}{h h':Heap}{a:Addr}{o:HO}
theorem cZ.lt(x:cZ P w H h a o):a<h.objs.size:=by
 cases o with
 | lst xs=>obtain⟨_,_,_,_,e⟩:=x;exact Qp e
 | tup xs=>obtain⟨_,_,_,p⟩:=x;exact p.lt
 | dK ah=>obtain⟨_,_,_,_,o,_,_,e,_⟩:=x;exact Qp e
 | dT ah=>obtain⟨_,_,_,_,o,_,_,e,_⟩:=x;exact Qp e
 | set S n=>obtain⟨o,_,_,_,e,_⟩:=x;exact Qp e
 | ins C dx fs=>obtain⟨_,_,_,e,_⟩:=x;exact Qp e
 | own y=>obtain⟨_,e⟩:=x;exact Qp e
 | xd fs=>obtain⟨_,⟨_,_,_,e,_⟩,_⟩:=x;exact Qp e
 | lH lo hi=>obtain⟨_,_,_,e⟩:=x;exact Qp e
 | fF ob u=>obtain⟨e,_⟩:=x;exact Qp e
 | jI ps=>exact Qp (show h.get? a=some _ from x)
 | met f y=>exact Qp (show h.get? a=some _ from x)
 | ext φ=>obtain⟨_,⟨_,e⟩,_⟩:=x;exact Qp e
theorem Paired.qM{α β:Type}{F G:α->β->Prop}:∀ {l₁:List α} {l₂:List β},Paired F l₁ l₂->(∀ a b,F a b->G a b)->Paired G l₁ l₂
 | _,_,.nil,_=>.nil
 | _,_,.cons r t,f=>.cons (f _ _ r) (Paired.qM t f)
theorem cZ.ip(x:cZ P w H h a o)(k:∀ b u,(b=a\/H b=some (.own a))->h.get? b=some u->h'.get? b=some u)
  (ho:∀ b,H b=some (.own a)->H' b=some (.own a)) (ht:∀ b xs,H b=some (.tup xs)->H' b=some (.tup xs)):cZ P w H' h' a o:=by
 induction o with
 | lst xs=>obtain⟨z,aj,n,r,e⟩:=x;exact⟨z,aj,n,r,k _ _ (.inl rfl) e⟩
 | tup xs=>obtain⟨z,aj,r,ob,e,c⟩:=x;exact⟨z,aj,r,ob,k _ _ (.inl rfl) e,c⟩
 | dK ah=>obtain⟨z,y,vs,r,ob,es,ep,e,c⟩:=x;exact⟨z,y,vs,r,ob,es,ep,k _ _ (.inl rfl) e,c⟩
 | dT ah=>
  obtain⟨z,y,xs,r,ob,es,ep,e,c⟩:=x
  exact⟨z,y,xs,Paired.qM r fun p q z=>⟨z.1,ht _ _ z.2.1,z.2.2⟩,ob,es,ep,k _ _ (.inl rfl) e,c⟩
 | set S n=>obtain⟨ob,es,ep,t,e,c⟩:=x;exact⟨ob,es,ep,t,k _ _ (.inl rfl) e,c⟩
 | ins C dx fs=>
  obtain⟨d,z,ne,e,mA,⟨od,es,ep,e2,c⟩,r⟩:=x
  exact⟨ho _ d,z,ne,k _ _ (.inl rfl) e,mA,⟨od,es,ep,k _ _ (.inr d) e2,c⟩,r⟩
 | own y=>obtain⟨ob,e⟩:=x;exact⟨ob,k _ _ (.inl rfl) e⟩
 | xd fs=>obtain⟨mA,⟨od,es,ep,e,c⟩,r⟩:=x;exact⟨mA,⟨od,es,ep,k _ _ (.inl rfl) e,c⟩,r⟩
 | lH lo hi=>obtain⟨t,u,v,e⟩:=x;exact⟨t,u,v,k _ _ (.inl rfl) e⟩
 | fF ob u ih=>obtain⟨e,q⟩:=x;exact⟨k _ _ (.inl rfl) e,ih q⟩
 | jI ps=>
  have e:h.get? a=some { cls:=.none,data:=.fields ps }:=x
  show h'.get? a=some { cls:=.none,data:=.fields ps }
  exact k a _ (.inl rfl) e
 | met f y=>
  have e:h.get? a=some (PySem.W.methodObj (.ref f) (.ref y)):=x
  show h'.get? a=some (PySem.W.methodObj (.ref f) (.ref y))
  exact k a _ (.inl rfl) e
 | ext φ=>obtain⟨p,⟨o,e⟩,st⟩:=x;exact⟨st _ _ p fun o q=>k _ _ (.inl rfl) q,⟨o,k _ _ (.inl rfl) e⟩,st⟩
theorem de.lt(x:de P w H h)(e:H a=some o):a<h.objs.size:=(x a o e).lt
theorem de.fresh(x:de P w H h)(e:h.objs.size<=a):H a=none:=by
 cases q:H a with
 | none=>rfl
 | some u=>exact absurd (QB (x.lt q) e) (Q0 _)
theorem de.kept(x:de P w H h)(k:∀ b u,h.get? b=some u->h'.get? b=some u):de P w H h':=fun a o e=>
 (x a o e).ip (fun b u _ q=>k b u q) (fun _ q=>q) fun _ _ q=>q
theorem de.laid(x:de P w H h)(k:∀ b u,h.get? b=some u->h'.get? b=some u)(hp:h.objs.size<=a)(new:cZ P w (upd H a o) h' a o):de P w (upd H a o) h':=fun b u e=>by
 have hn:=x.fresh hp
 by_cases hb:b=a
 ·subst hb;rw[fO]at e;cases e;exact new
 ·rw[aZ hb]at e
  exact(x b u e).ip (fun c v _ q=>k c v q) (fun c q=>by rw[aZ (h_ q hn)];exact q) fun c xs q=>by rw[aZ (h_ q hn)];exact q
end
def Rd (H:Hp)(a:Addr)(u:HO):Prop:=H a=some u\/∃ o,H a=some (.fF o u)
theorem Rd.of{H:Hp}{u:HO}(h:H a=some u):Rd H a u:=.inl h
theorem Rd.ok{H:Hp}{u:HO}(r:Rd H a u)(x:de P w H h):cZ P w H h a u:=by
 rcases r with r|⟨o,r⟩
 ·exact x a u r
 ·obtain⟨_,q⟩:=x a _ r
  exact q
def uF:Option HO->Prop
 | some (.lst _)=>True
 | some (.dK _)=>True
 | some (.dT _)=>True
 | some (.set _ _)=>True
 | some (.ins _ _ _)=>True
 | some (.ext _)=>True
 | _=>False
section
variable {P:Program}{w:World}{H:Hp}{h h':Heap}{x e:Addr}{o':HO}
theorem de.write(ok:de P w H h)(mu:uF (H x))(he:e=x\/H e=some (.own x))(k:∀ b u,b≠e->h.get? b=some u->h'.get? b=some u)(sZ:∃ u,h'.get? e=some u)
  (new:cZ P w (upd H x o') h' x o'):de P w (upd H x o') h':=fun b u q=>by
 have uG:∀ c y,H c=some (.own y)->c≠x:=fun c y r z=>by subst z;rw[r]at mu;exact mu
 have zL:∀ c xs,H c=some (.tup xs)->c≠x:=fun c xs r z=>by subst z;rw[r]at mu;exact mu
 by_cases hb:b=x
 ·subst hb;rw[fO]at q;cases q;exact new
 ·rw[aZ hb]at q
  by_cases qN:b=e
  ·have q':H b=some (.own x):=by
    rcases he with z|z
    ·exact absurd (qN.trans z) hb
    ·rw[qN];exact z
   rw[q]at q';cases q'
   obtain⟨v,hv⟩:=sZ
   exact⟨v,by rw[qN];exact hv⟩
  ·refine(ok b u q).ip (fun c v hc r=>k c v ?_ r) (fun c r=>by rw[aZ (uG c b r)];exact r) fun c xs r=>by rw[aZ (zL c xs r)];exact r
   rcases hc with rfl|hc
   ·exact qN
   ·rintro rfl
    rcases he with z|z
    ·exact uG c b hc z
    ·rw[hc]at z;cases z;exact hb rfl
end
structure Un (fs ex:List Addr) (H H':Hp) (h h':Heap):Prop where
 keep:∀ b o,h.get? b=some o->H b=none->b ∉ fs->b ∉ ex->h'.get? b=some o
 slot:∀ b o,h.get? b=some o->H b=none->b∈fs->b ∉ ex->∃ sl,h'.get? b=some { o with slots:=sl }
 free:∀ b o,h.get? b=some o->H b=none->b ∉ ex->H' b=none
 there:∀ b o,h.get? b=some o->b ∉ ex->∃ o',h'.get? b=some o'
 iq:∀ b xs,H b=some (.tup xs)->H' b=some (.tup xs)
 gO:∀ b o u,H b=some (.fF o u)->H' b=some (.fF o u)
 ir:∀ b ps,H b=some (.jI ps)->∃ more,H' b=some (.jI (ps++more))
section
variable {fs K3 ex ex':List Addr}{H H1 H2:Hp}{h h1 h2 h':Heap}{a x e:Addr}{o:HO}
theorem Un.any(u:Un fs ex H H1 h h1){ob:Obj}(q:h.get? b=some ob)(n:H b=none)(hx:b ∉ ex):∃ sl,h1.get? b=some { ob with slots:=sl }:=by
 by_cases hb:b∈fs
 ·exact u.slot b ob q n hb hx
 ·exact⟨ob.slots,u.keep b ob q n hb hx⟩
theorem Un.kept(k:∀ b u,h.get? b=some u->h'.get? b=some u):Un fs ex H H h h':=
 ⟨fun b ob q _ _ _=>k b ob q,fun b ob q _ _ _=>⟨ob.slots,k b ob q⟩,fun _ _ _ n _=>n,fun b ob q _=>⟨ob,k b ob q⟩,fun _ _ q=>q,fun _ _ _ q=>q,fun _ ps q=>⟨#[],by rw[q];simp⟩⟩
theorem Un.refl:Un fs ex H H h h:=Un.kept fun _ _ q=>q
theorem Un.laid(k:∀ b u,h.get? b=some u->h'.get? b=some u)(hp:h.objs.size<=a)(hn:H a=none):Un fs ex H (upd H a o) h h' where
 keep:=fun b u q _ _ _=>k b u q
 slot:=fun b u q _ _ _=>⟨u.slots,k b u q⟩
 free:=fun b u q n _=>by rw[aZ (QP (QB (Qp q) hp))];exact n
 there:=fun b u q _=>⟨u,k b u q⟩
 iq:=fun b xs q=>by rw[aZ (h_ q hn)];exact q
 gO:=fun b u xs q=>by rw[aZ (h_ q hn)];exact q
 ir:=fun b ps q=>⟨#[],by rw[aZ (h_ q hn),q];simp⟩
theorem Un.write(mu:uF (H x))(he:e=x\/H e=some (.own x))(k:∀ b u,b≠e->h.get? b=some u->h'.get? b=some u)(sZ:∃ u,h'.get? e=some u):Un fs ex H (upd H x o) h h':=by
 have hx:∀ b,H b=none->b≠x:=fun b n z=>by subst z;rw[n]at mu;exact mu
 have hb:∀ b,H b=none->b≠e:=fun b n z=>by
  subst z
  rcases he with r|r
  ·exact hx b n r
  ·rw[n]at r;cases r
 have hm:∀ b u,H b=some u->¬ uF (some u)->b≠x:=fun b u q nm z=>by subst z;rw[q]at mu;exact nm mu
 refine⟨fun b u q n _ _=>k b u (hb b n) q,fun b u q n _ _=>⟨u.slots,k b u (hb b n) q⟩,fun b u q n _=>by rw[aZ (hx b n)];exact n,fun b u q _=>?_,
  fun b xs q=>by rw[aZ (hm b _ q fun z=>z)];exact q,fun b u xs q=>by rw[aZ (hm b _ q fun z=>z)];exact q,fun b ps q=>⟨#[],by rw[aZ (hm b _ q fun z=>z),q];simp⟩⟩
 by_cases qN:b=e
 ·subst qN;exact sZ
 ·exact⟨u,k b u qN q⟩
end
def uH (h:Heap)(H:Hp):List Addr:=(List.range h.objs.size).filter fun a=>(H a).isSome
def nW (h:Heap)(H:Hp):Heap:=PySem.W.hideAll h (uH h H)
theorem K4(h:Heap)(H:Hp):(nW h H).objs.size=h.objs.size:=PySem.W.hideAll_size _ _
theorem K5{H:Hp}(e:h.get? b=some o)(n:H b=none):(nW h H).get? b=some o:=
 PySem.W.hideAll_get _ e fun hm=>by
  have q:(H b).isSome=true:=(ZW.mp hm).2
  rw[n]at q;simp at q
theorem K6{H:Hp}(e:(nW h H).get? b=some o):h.get? b=some o/\H b=none:=by
 have e':h.get? b=some o:=PySem.W.of_hideAll (uH h H) e
 refine⟨e',?_⟩
 cases q:H b with
 | none=>rfl
 | some x=>
  have hm:b∈uH h H:=ZW.mpr ⟨Qz.mpr (Qp e'),by simp[q]⟩
  have z:(nW h H).get? b=none:=PySem.W.hideAll_none (uH h H) hm
  rw[z]at e;cases e
def K7 (g h:Heap)(L:Addr):List (Addr×Obj):=(List.range h.objs.size).filterMap fun a=>if a=L\/(g.get? a).isSome=true then none else(h.get? a).map fun o=>(a,o)
def br (g h:Heap)(L d:Addr):List (Addr×Obj):=(K7 g h L).filter fun p=>decide (p.1≠d)
structure Mod (K:PySem.W.Frag) (mg:Str->Option Value) (base:Heap):Prop where
 zM:K.In base
 glob:base.Ns mainGlobals mg
 blt:∃ mb,base.Ns builtinsNs mb/\∀ x:Str,x ≠ "__name__"->mb x=bootBuiltins x
 nolimit:base.NoLimit
structure Cx where
 prog:Program
 w:World
 K:PySem.W.Frag
 mg:Str->Option Value
 base:Heap
 A:Around
 N:List Str
 cm:Shared
 iu:Hp
 env:Env
 outer:List Env
 stack:List Env
 ex:List Addr
 fn:Str->Bool
 calm:Bool
 pn:List (Addr×Obj)
 xe:Value->Shared->Prop
def jo (l:List Env):List Addr:=l.filterMap (·.frame)
abbrev Cx.fs (X:Cx):List Addr:=jo X.outer
def s9 (sc:Scope)(x:Str):Prop:=sc.names.lookup x=some .local\/sc.names.lookup x=some .cell\/sc.names.lookup x=some .free
def Loc (sc:Scope)(x:Str):Prop:=sc.names.lookup x=some .local\/sc.names.lookup x=some .cell
def K8 (env:Env)(h:Heap)(m:Str->Option Value)(x:Str)(u:Value):Prop:=
 (env.kindOf x=some .local/\m x=some u)\/((env.kindOf x=some .cell\/env.kindOf x=some .free)/\∃ c,env.cells.lookup x=some c/\h.IsCell c (some u))
structure Cx.Ok (X:Cx):Prop where
 mod:Mod X.K X.mg X.base
 kind:X.env.scope.kind=.function
 glob:X.env.globals=mainGlobals
 blt:X.env.builtins=builtinsNs
 above:X.cm.heap.objs.size<=X.env.locals
 inj:∀ x y c,X.env.cells.lookup x=some c->X.env.cells.lookup y=some c->x=y
 has:∀ x,(X.env.kindOf x=some .cell\/X.env.kindOf x=some .free)->∃ c,X.env.cells.lookup x=some c
 uI:∀ x c,X.fn x=true->X.env.cells.lookup x=some c->X.cm.heap.objs.size<=c
 hd:X.calm=true->X.A.handled=none
 frames:X.A.frames=some X.stack
 xt:X.stack=X.outer\/(X.stack=X.env::X.outer/\X.env.frame=some X.env.locals)
 zN:∀ b∈X.ex,b≠X.env.locals/\∀ x c,X.env.cells.lookup x=some c->c≠b
 bs:∀ b o,X.base.get? b=some o->X.cm.heap.get? b=some o/\X.iu b=none
 m_:X.base.objs.size<=X.cm.heap.objs.size
 lI:∀ b o,X.base.get? b=some o->b ∉ X.ex
 lJ:∀ b∈X.ex,b ∉ X.fs
 fY:X.cm.heap.FunFrames X.base X.outer
 s_:∀ b∈X.fs,X.iu b=none
structure Inv (X:Cx) (pins:List (Addr×Obj)) (σ:List (Option V)) (H:Hp) (s:Shared):Prop where
 ok:X.Ok
 os:s.os=X.cm.os
 bare:AllBare s.gens
 base:Un X.fs X.ex X.iu H X.cm.heap s.heap
 loc:∃ m,s.heap.Ns X.env.locals m/\∀ (i:Nat) (x:Str) (v:V),X.N[i]? = some x->σ[i]? = some (some v)->s9 X.env.scope x->∃ u,bw v u/\K8 X.env s.heap m x u
 cell:∀ x c,X.env.cells.lookup x=some c->∃ v,s.heap.IsCell c v
 free:H X.env.locals=none
 dk:∀ x c,X.env.cells.lookup x=some c->H c=none
 pin:∀ p∈X.pn++pins,s.heap.get? p.1=some p.2/\H p.1=none/\p.1≠X.env.locals/\p.1 ∉ X.fs/\∀ v,p.2.data ≠ .cell v
 aB:de X.prog X.w H s.heap
 len:σ.length=X.N.length
section
variable {X:Cx}{pins:List (Addr×Obj)}{σ:List (Option V)}{H H':Hp}{s:Shared}{h':Heap}
theorem Cx.Ok.zO(ok:X.Ok)(e:X.base.get? b=some o):b ∉ X.fs:=fun hb=>by
 have:=(ok.fY.mem hb).1
 rw[e]at this;cases this
theorem Inv.bs(I:Inv X pins σ H s):∀ b o,X.base.get? b=some o->s.heap.get? b=some o/\H b=none:=fun b o e=>
 ⟨I.base.keep b o (I.ok.bs b o e).1 (I.ok.bs b o e).2 (I.ok.zO e) (I.ok.lI b o e),I.base.free b o (I.ok.bs b o e).1 (I.ok.bs b o e).2 (I.ok.lI b o e)⟩
theorem Inv.bk(I:Inv X pins σ H s):∀ b o,X.base.get? b=some o->s.heap.get? b=some o:=fun b o e=>(I.bs b o e).1
theorem Inv.mod(I:Inv X pins σ H s):Mod X.K X.mg X.base:=I.ok.mod
theorem Inv.gP(I:Inv X pins σ H s):X.K.In s.heap:=I.ok.mod.zM.keeps I.bk
theorem Inv.fr(I:Inv X pins σ H s):∃ m,Fr X.base X.env.locals s.heap m:=
 let ⟨m,hn,_⟩:=I.loc
 ⟨m,hn,I.bk,QL I.ok.m_ I.ok.above⟩
theorem Inv.lt(I:Inv X pins σ H s):X.env.locals<s.heap.objs.size:=let ⟨_,hn,_⟩:=I.loc;hn.lt
theorem Inv.sz(I:Inv X pins σ H s):X.cm.heap.objs.size<=s.heap.objs.size:=QL I.ok.above (ZI I.lt)
theorem Inv.uJ(I:Inv X pins σ H s)(h:s.heap.objs.size<=a):a ∉ X.fs:=fun hb=>by
 obtain⟨_,o,ho,_⟩:=I.ok.fY.mem hb
 exact absurd (QB (Qp ho) (QL I.sz h)) (Q0 _)
theorem Inv.qO(I:Inv X pins σ H s):∀ x c,X.env.cells.lookup x=some c->c≠X.env.locals:=fun x c e z=>by
 obtain⟨v,o,ho,hd⟩:=I.cell x c e
 obtain⟨m,⟨o',es,ep,iw,jq,_⟩,_⟩:=I.loc
 rw[z,iw]at ho;cases ho;rw[jq]at hd;cases hd
theorem Inv.fY(I:Inv X pins σ H s):s.heap.FunFrames X.base X.outer:=by
 have all:∀ (l:List Env),(∀ b∈jo l,b∈X.fs)->X.cm.heap.FunFrames X.base l->s.heap.FunFrames X.base l:=by
  intro l
  induction l with
  | nil=>intro _ _;trivial
  | cons env r ih=>
   intro hs hl
   obtain⟨hk,⟨L,o,hf,hn,ho,hd⟩,hr⟩:=hl
   have hL:L∈X.fs:=hs L (by unfold jo;rw[Js,hf];exact Qh)
   obtain⟨sl,e⟩:=I.base.slot L o ho (I.ok.s_ L hL) hL fun z=>I.ok.lJ L z hL
   exact⟨hk,⟨L,_,hf,hn,e,hd⟩,ih (fun b hb=>hs b (by unfold jo;rw[Js,hf];exact Qg _ hb)) hr⟩
 exact all X.outer (fun _ hb=>hb) I.ok.fY
theorem Inv.stack(I:Inv X pins σ H s):s.heap.FunFrames X.base X.stack:=by
 rcases I.ok.xt with e|⟨e,hf⟩
 ·rw[e];exact I.fY
 ·rw[e]
  obtain⟨m,hn,_⟩:=I.loc
  refine .cons (by rw[I.ok.kind];decide) hf hn ?_ I.fY
  exact Heap.get?_none_of_le (QL I.ok.m_ I.ok.above)
theorem Inv.ix(I:Inv X pins σ H s):∀ b∈jo X.stack,b∈X.env.locals::X.fs:=fun b hb=>by
 rcases I.ok.xt with e|⟨e,hf⟩
 ·rw[e]at hb;exact Qg _ hb
 ·rw[e]at hb
  unfold jo at hb
  rw[Js,hf]at hb
  exact hb
theorem Inv.jZ(I:Inv X pins σ H s):∀ b∈jo X.stack,H b=none:=fun b hb=>by
 rcases Qw.mp (I.ix b hb)with e|hb
 ·rw[e];exact I.free
 ·obtain⟨_,o,ho,_⟩:=I.ok.fY.mem hb
  exact I.base.free b o ho (I.ok.s_ b hb) fun z=>I.ok.lJ b z hb
theorem Inv.step{g':Array GenState}{t':Nat}{d':Drawn}{ch:List Addr}(I:Inv X pins σ H s)
  (nc:∀ b∈ch,(b∈X.ex\/X.cm.heap.objs.size<=b)/\b≠X.env.locals/\(∀ x c,X.env.cells.lookup x=some c->c≠b)/\∀ p∈X.pn++pins,p.1≠b)
  (keep:∀ b o,b≠X.env.locals->b ∉ X.fs->b ∉ ch->s.heap.get? b=some o->H b=none->h'.get? b=some o)
  (slot:∀ b o,b≠X.env.locals->b∈X.fs->b ∉ ch->s.heap.get? b=some o->H b=none->∃ sl,h'.get? b=some { o with slots:=sl }) (free:∀ b o,b ∉ ch->s.heap.get? b=some o->H b=none->H' b=none)
  (there:∀ b o,b ∉ ch->s.heap.get? b=some o->∃ o',h'.get? b=some o')
  (iq:∀ b xs,H b=some (.tup xs)->H' b=some (.tup xs)) (gO:∀ b o u,H b=some (.fF o u)->H' b=some (.fF o u)) (ir:∀ b ps,H b=some (.jI ps)->∃ more,H' b=some (.jI (ps++more)))
  (ns:∀ m,s.heap.Ns X.env.locals m->h'.Ns X.env.locals m) (aB:de X.prog X.w H' h') (hg:AllBare g') :
  Inv X pins σ H' { s with heap:=h',gens:=g',drawn:=d',toks:=t' }:=by
 have DS:∀ b o,X.cm.heap.get? b=some o->b≠X.env.locals:=fun b o e=>QP (QB (Qp e) I.ok.above)
 have xu:∀ b o,X.cm.heap.get? b=some o->b ∉ X.ex->b ∉ ch:=fun b o e hx hb=>by
  rcases(nc b hb).1 with z|z
  ·exact hx z
  ·exact absurd (QB (Qp e) z) (Q0 _)
 have cellK:∀ x c,X.env.cells.lookup x=some c->∀ v,s.heap.IsCell c v->h'.IsCell c v:=fun x c e v ai=>by
  obtain⟨o,ho,hd⟩:=ai
  have uK:c ∉ ch:=fun z=>(nc c z).2.2.1 x c e rfl
  by_cases hc:c∈X.fs
  ·obtain⟨sl,q⟩:=slot c o (I.qO x c e) hc uK ho (I.dk x c e)
   exact⟨_,q,hd⟩
  ·exact⟨o,keep c o (I.qO x c e) hc uK ho (I.dk x c e),hd⟩
 refine⟨I.ok,I.os,hg,⟨fun b o e n hb hx=>?_,fun b o e n hb hx=>?_,fun b o e n hx=>?_,fun b o e hx=>?_,fun b xs e=>iq b xs (I.base.iq b xs e),fun b o xs e=>gO b o xs (I.base.gO b o xs e),fun b ps e=>?_⟩,?_,fun x c e=>?_,?_,fun x c e=>?_,fun p hp=>?_,aB,I.len⟩
 ·exact keep b o (DS b o e) hb (xu b o e hx) (I.base.keep b o e n hb hx) (I.base.free b o e n hx)
 ·obtain⟨sl,e1⟩:=I.base.slot b o e n hb hx
  obtain⟨DT,e2⟩:=slot b _ (DS b o e) hb (xu b o e hx) e1 (I.base.free b o e n hx)
  exact⟨DT,e2⟩
 ·obtain⟨o',e1⟩:=I.base.there b o e hx
  exact free b o' (xu b o e hx) e1 (I.base.free b o e n hx)
 ·obtain⟨o',e1⟩:=I.base.there b o e hx
  exact there b o' (xu b o e hx) e1
 ·obtain⟨m1,e1⟩:=I.base.ir b ps e
  obtain⟨m2,e2⟩:=ir b _ e1
  exact⟨m1++m2,by rw[e2,Array.append_assoc]⟩
 ·obtain⟨m,hn,hl⟩:=I.loc
  refine⟨m,ns m hn,fun i x v e1 e2 e3=>?_⟩
  obtain⟨u,r,l⟩:=hl i x v e1 e2 e3
  refine⟨u,r,?_⟩
  rcases l with l|⟨k,c,e,z⟩
  ·exact .inl l
  ·exact .inr ⟨k,c,e,cellK x c e _ z⟩
 ·obtain⟨v,z⟩:=I.cell x c e
  exact⟨v,cellK x c e v z⟩
 ·obtain⟨m,⟨o,_,_,ho,_⟩,_⟩:=I.loc
  exact free _ o (fun z=>(nc _ z).2.1 rfl) ho I.free
 ·obtain⟨v,o,ho,hd⟩:=I.cell x c e
  exact free c o (fun z=>(nc c z).2.2.1 x c e rfl) ho (I.dk x c e)
 ·obtain⟨e,n,ne,nf,d⟩:=I.pin p hp
  have uK:p.1 ∉ ch:=fun z=>(nc p.1 z).2.2.2 p hp rfl
  exact⟨keep p.1 p.2 ne nf uK e n,free p.1 p.2 uK e n,ne,nf,d⟩
theorem Inv.un{t':Nat}(I:Inv X pins σ H s)(u:Un X.fs [] H H' s.heap h')(aB:de X.prog X.w H' h'):Inv X pins σ H' { s with heap:=h',toks:=t' }:=by
 obtain⟨m,⟨o,es,ep,ho,r⟩,_⟩:=id I.loc
 obtain⟨sl,hL⟩:=u.any ho I.free (by simp)
 exact I.step (g':=s.gens) (d':=s.drawn) (ch:=[]) (fun _ z=>nomatch z) (fun b o _ hb _ e n=>u.keep b o e n hb (by simp)) (fun b o _ hb _ e n=>u.slot b o e n hb (by simp)) (fun b o _ e n=>u.free b o e n (by simp)) (fun b o _ e=>u.there b o e (by simp)) u.iq u.gO u.ir (fun m' hm=>by
  obtain⟨o',jr,nX,iw,r'⟩:=hm
  rw[ho]at iw;cases iw
  exact⟨_,jr,nX,hL,r'⟩) aB I.bare
theorem Inv.call{g':Array GenState}{t':Nat}{d':Drawn}{ch:List Addr}(I:Inv X pins σ H s)(u:Un (jo X.stack) ch H H' s.heap h')(aB:de X.prog X.w H' h')(hg:AllBare g')
  (nc:∀ b∈ch,(b∈X.ex\/X.cm.heap.objs.size<=b)/\b≠X.env.locals/\(∀ x c,X.env.cells.lookup x=some c->c≠b)/\∀ p∈X.pn++pins,p.1≠b) :
  Inv X pins σ H' { s with heap:=h',gens:=g',drawn:=d',toks:=t' }:=by
 obtain⟨m,⟨o,es,ep,ho,r⟩,_⟩:=id I.loc
 obtain⟨sl,hL⟩:=u.any ho I.free fun z=>(nc _ z).2.1 rfl
 exact I.step (ch:=ch) nc (fun b o hL hb hc e n=>u.keep b o e n (fun z=>(Qw.mp (I.ix b z)).elim hL hb) hc) (fun b o _ _ hc e n=>u.any e n hc) (fun b o hc e n=>u.free b o e n hc) (fun b o hc e=>u.there b o e hc) u.iq u.gO u.ir (fun m' hm=>by
  obtain⟨o',jr,nX,iw,r'⟩:=hm
  rw[ho]at iw;cases iw
  exact⟨_,jr,nX,hL,r'⟩) aB hg
theorem Inv.turned{t':Nat}(I:Inv X pins σ H s)(k:∀ b o,b≠it->s.heap.get? b=some o->h'.get? b=some o)(hn:H it=none)(hL:it≠X.env.locals)
  (h1:it∈X.ex\/X.cm.heap.objs.size<=it) (h2:∀ x c,X.env.cells.lookup x=some c->c≠it) (h3:∀ p∈X.pn++pins,p.1≠it):Inv X pins σ H { s with heap:=h',toks:=t' }:=by
 have uM:∀ b u,H b=some u->b≠it:=fun b u e z=>by rw[z,hn]at e;cases e
 refine I.step (g':=s.gens) (d':=s.drawn) (ch:=[it]) (fun b hb=>?_) (fun b o _ _ hc e _=>k b o (fun z=>hc (by simp[z])) e) (fun b o _ _ hc e _=>⟨o.slots,k b o (fun z=>hc (by simp[z])) e⟩) (fun _ _ _ _ n=>n)
  (fun b o hc e=>⟨o,k b o (fun z=>hc (by simp[z])) e⟩) (fun _ _ e=>e) (fun _ _ _ e=>e) (fun b ps e=>⟨#[],by rw[e];simp⟩) (fun m hm=>?_) (fun b u e=>?_) I.bare
 ·have e:b=it:=by simpa using hb
  subst e
  exact⟨h1,hL,h2,h3⟩
 ·obtain⟨o,es,ep,ho,r⟩:=hm
  exact⟨o,es,ep,k _ o (Jt hL) ho,r⟩
 ·refine(I.aB b u e).ip (fun c v hc q=>k c v ?_ q) (fun _ q=>q) fun _ _ q=>q
  rcases hc with z|z
  ·rw[z];exact uM b u e
  ·exact uM c _ z
theorem Inv.tok(I:Inv X pins σ H s)(t:Nat):Inv X pins σ H { s with toks:=t }:=I.un (h':=s.heap) (t':=t) Un.refl I.aB
theorem Inv.kept{t':Nat}(I:Inv X pins σ H s)(k:∀ b u,s.heap.get? b=some u->h'.get? b=some u):Inv X pins σ H { s with heap:=h',toks:=t' }:=I.un (Un.kept k) (I.aB.kept k)
theorem Inv.laid{o:HO}{t':Nat}(I:Inv X pins σ H s)(k:∀ b u,s.heap.get? b=some u->h'.get? b=some u)(hp:s.heap.objs.size<=a)(new:cZ X.prog X.w (upd H a o) h' a o) :
  Inv X pins σ (upd H a o) { s with heap:=h',toks:=t' }:=I.un (Un.laid k hp (I.aB.fresh hp)) (I.aB.laid k hp new)
theorem Inv.write{x e:Addr}{o:HO}{t':Nat}(I:Inv X pins σ H s)(mu:uF (H x))(he:e=x\/H e=some (.own x))(k:∀ b u,b≠e->s.heap.get? b=some u->h'.get? b=some u)(sZ:∃ u,h'.get? e=some u)
  (new:cZ X.prog X.w (upd H x o) h' x o):Inv X pins σ (upd H x o) { s with heap:=h',toks:=t' }:=I.un (Un.write mu he k sZ) (I.aB.write mu he k sZ new)
theorem Inv.weak{aK:List (Option V)}(I:Inv X pins σ H s)(hl:aK.length=σ.length)(w:∀ (i:Nat) v,aK[i]? = some (some v)->σ[i]? = some (some v)):Inv X pins aK H s:=
 ⟨I.ok,I.os,I.bare,I.base,let ⟨m,hn,iy⟩:=I.loc;⟨m,hn,fun i x v e1 e2 e3=>iy i x v e1 (w i v e2) e3⟩,I.cell,I.free,I.dk,I.pin,I.aB,hl.trans I.len⟩
theorem Inv.fP{pins':List (Addr×Obj)}(I:Inv X pins σ H s)(h:∀ p∈pins',s.heap.get? p.1=some p.2/\H p.1=none/\p.1≠X.env.locals/\p.1 ∉ X.fs/\∀ v,p.2.data ≠ .cell v):Inv X pins' σ H s:=
 ⟨I.ok,I.os,I.bare,I.base,I.loc,I.cell,I.free,I.dk,fun p hp=>(Qx.mp hp).elim (fun z=>I.pin p (Qu _ z)) (h p),I.aB,I.len⟩
theorem DU(hN:N.Nodup)(a:N[i]? = some x)(b:N[j]? = some x):i=j:=by
 obtain⟨h1,e1⟩:=Qy.mp a
 obtain⟨h2,e2⟩:=Qy.mp b
 exact(List.getElem_inj hN).mp (e1.trans e2.symm)
theorem DV{M:Model}{A:Around}{E:Value->Shared->Prop}{v:V}(I:Inv X pins σ H s)(hN:X.N.Nodup)(hi:X.N[i]? = some x)(hx:Loc X.env.scope x)(r:bw v u)
  (h:∀ s',Inv X pins (σ.set i (some v)) H s'->(∃ a,Heap.SameBut a s.heap s'.heap/\(a=X.env.locals\/X.env.cells.lookup x=some a))->Q () s') (hf:X.fn x=true\/X.env.scope.names.lookup x=some .local:=by first|exact .inl rfl|exact .inr rfl|assumption):wpAny M A (storeName X.env x u) Q E s:=by
 obtain⟨m,hn,hl⟩:=id I.loc
 have zP:(X.env.scope.kind == .class||(X.env.scope.kind == .module&&X.env.locals != X.env.globals))=false:=by rw[I.ok.kind];rfl
 have uN:i<σ.length:=by rw[I.len];exact(Qy.mp hi).1
 have qO:=I.qO
 have tracked:∀ {a:Addr} {h':Heap},(∃ o,s.heap.get? a=some o/\H a=none)->Heap.SameBut a s.heap h'->de X.prog X.w H h':=fun {a h'} ha hs b ob e=>by
  obtain⟨_,_,pC⟩:=ha
  refine(I.aB b ob e).ip (fun c w' hc q=>(hs.2 c ?_).trans q) (fun _ q=>q) fun _ _ q=>q
  rintro rfl
  rcases hc with rfl|hc
  ·rw[pC]at e;cases e
  ·rw[pC]at hc;cases hc
 rcases hx with hk|hk
 ·refine wpAny_storeName_local hk hn (fun h' zQ hs=>?_) zP
  obtain⟨oL,_,_,K9,_⟩:=id hn
  refine h _ ⟨I.ok,I.os,I.bare,⟨fun b o e n hb hx=>?_,fun b o e n hb hx=>?_,I.base.free,fun b o e hx=>?_,I.base.iq,I.base.gO,I.base.ir⟩,⟨_,zQ,fun j y v' e1 e2 e3=>?_⟩,fun y c e=>?_,I.free,I.dk,fun p hp=>?_,tracked ⟨oL,K9,I.free⟩ hs,by simpa using I.len⟩ ⟨_,hs,.inl rfl⟩
  ·exact(hs.2 b (QP (QB (Qp e) I.ok.above))).trans (I.base.keep b o e n hb hx)
  ·obtain⟨sl,e1⟩:=I.base.slot b o e n hb hx
   exact⟨sl,(hs.2 b (QP (QB (Qp e) I.ok.above))).trans e1⟩
  ·obtain⟨o',e1⟩:=I.base.there b o e hx
   exact⟨o',(hs.2 b (QP (QB (Qp e) I.ok.above))).trans e1⟩
  ·by_cases hj:j=i
   ·subst hj
    rw[hi]at e1;cases e1
    rw[QT uN]at e2
    cases e2
    exact⟨u,r,.inl ⟨hk,by simp⟩⟩
   ·rw[QX (Jt hj)]at e2
    obtain⟨u',r',q⟩:=hl j y v' e1 e2 e3
    refine⟨u',r',?_⟩
    rcases q with⟨k,e⟩|⟨k,c,e,z⟩
    ·refine .inl ⟨k,?_⟩
     have:y≠x:=fun e=>hj (DU hN e1 (e ▸ hi))
     simp[this,e]
    ·exact .inr ⟨k,c,e,z.sameBut hs (qO y c e)⟩
  ·obtain⟨w',z⟩:=I.cell y c e
   exact⟨w',z.sameBut hs (qO y c e)⟩
  ·obtain⟨e,n,ne,nf,d⟩:=I.pin p hp
   exact⟨(hs.2 p.1 ne).trans e,n,ne,nf,d⟩
 ·have zR:X.fn x=true:=by
   rcases hf with z|z
   ·exact z
   ·rw[z]at hk;cases hk
  obtain⟨c,hc⟩:=I.ok.has x (.inl hk)
  obtain⟨w',z⟩:=I.cell x c hc
  refine wpAny_storeName_cell I.ok.kind hk hc z (fun h' ng hs=>?_)
  obtain⟨oc,DW,zS⟩:=id z
  refine h { s with heap:=h' } ⟨I.ok,I.os,I.bare,⟨fun b o e n hb hx=>?_,fun b o e n hb hx=>?_,I.base.free,fun b o e hx=>?_,I.base.iq,I.base.gO,I.base.ir⟩,⟨m,hn.sameBut hs (Jt (qO x c hc)),fun j y v' e1 e2 e3=>?_⟩,fun y c' e=>?_,I.free,I.dk,fun p hp=>?_,tracked ⟨oc,DW,I.dk x c hc⟩ hs,by simpa using I.len⟩ ⟨c,hs,.inr hc⟩
  ·exact(hs.2 b (QP (QB (Qp e) (I.ok.uI x c zR hc)))).trans (I.base.keep b o e n hb hx)
  ·obtain⟨sl,e1⟩:=I.base.slot b o e n hb hx
   exact⟨sl,(hs.2 b (QP (QB (Qp e) (I.ok.uI x c zR hc)))).trans e1⟩
  ·obtain⟨o',e1⟩:=I.base.there b o e hx
   exact⟨o',(hs.2 b (QP (QB (Qp e) (I.ok.uI x c zR hc)))).trans e1⟩
  ·by_cases hj:j=i
   ·subst hj
    rw[hi]at e1;cases e1
    rw[QT uN]at e2
    cases e2
    exact⟨u,r,.inr ⟨.inl hk,c,hc,ng⟩⟩
   ·rw[QX (Jt hj)]at e2
    obtain⟨u',r',q⟩:=hl j y v' e1 e2 e3
    refine⟨u',r',?_⟩
    rcases q with q|⟨k,c',e,z'⟩
    ·exact .inl q
    ·refine .inr ⟨k,c',e,z'.sameBut hs ?_⟩
     rintro rfl
     exact hj (DU hN e1 (I.ok.inj _ _ _ e hc ▸ hi))
  ·by_cases DX:c'=c
   ·subst DX;exact⟨_,ng⟩
   ·obtain⟨w2,z2⟩:=I.cell y c' e
    exact⟨w2,z2.sameBut hs DX⟩
  ·obtain⟨e,n,ne,nf,d⟩:=I.pin p hp
   refine⟨(hs.2 p.1 ?_).trans e,n,ne,nf,d⟩
   intro q
   rw[q,DW]at e
   have q':oc=p.2:=QH e
   exact d w' (by rw[<- q'];exact zS)
theorem DY{M:Model}{A:Around}{E:Value->Shared->Prop}{v:V}(I:Inv X pins σ H s)(hN:X.N.Nodup)(hi:X.N[i]? = some x)(hx:Loc X.env.scope x)(r:bw v u)
  (h:∀ s',Inv X pins (σ.set i (some v)) H s'->Q () s') (hf:X.fn x=true\/X.env.scope.names.lookup x=some .local:=by first|exact .inl rfl|exact .inr rfl|assumption):wpAny M A (storeName X.env x u) Q E s:=
 DV I hN hi hx r (fun s' I' _=>h s' I') hf
theorem Inv.uO{ch:List Addr}(I:Inv X pins σ H s)(ho:s'.os=s.os)(u:Un (jo X.stack) ch H H' s.heap s'.heap)(aB:de X.prog X.w H' s'.heap)(hg:AllBare s'.gens)
  (nc:∀ b∈ch,(b∈X.ex\/X.cm.heap.objs.size<=b)/\b≠X.env.locals/\(∀ x c,X.env.cells.lookup x=some c->c≠b)/\∀ p∈X.pn++pins,p.1≠b):Inv X pins σ H' s':=by
 obtain⟨h',g',d',t',o'⟩:=s'
 have e:o'=s.os:=ho
 subst e
 exact I.call (g':=g') (t':=t') (d':=d') u aB hg nc
end
abbrev XK:=Value->Option Addr->Hp->Prop
abbrev St:=List (Option V)
abbrev VK:=V->Hp->Prop
abbrev TE:=St->Hp->VK->Prop
abbrev TT:=St->Hp->(Bool->Hp->Prop)->Prop
abbrev TA:=St->Hp->(List V->Hp->Prop)->Prop
structure Ends where
 nx:St->Hp->Prop
 rt:VK
 bk:St->Hp->Prop:=fun _ _=>False
 ct:St->Hp->Prop:=fun _ _=>False
abbrev TS:=Ends->St->Hp->Prop
def EP (X:Cx)(pins:List (Addr×Obj))(σ:St)(Q:VK)(u:Value)(s':Shared):Prop:=∃ v H',Inv X pins σ H' s'/\bw v u/\Q v H'
def TP (X:Cx)(pins:List (Addr×Obj))(σ:St)(Q:Bool->Hp->Prop)(b:Bool)(s':Shared):Prop:=∃ H',Inv X pins σ H' s'/\Q b H'
def AP (X:Cx)(pins:List (Addr×Obj))(σ:St)(Q:List V->Hp->Prop)(us:List Value)(s':Shared):Prop:=∃ vs H',Inv X pins σ H' s'/\bc vs us/\Q vs H'
def SP (X:Cx)(pins:List (Addr×Obj))(D:Ends)(f:Flow)(s':Shared):Prop:=
 match f with
 | .next=>∃ aK H',Inv X pins aK H' s'/\D.nx aK H'
 | .brk=>∃ aK H',Inv X pins aK H' s'/\D.bk aK H'
 | .cont=>∃ aK H',Inv X pins aK H' s'/\D.ct aK H'
 | .ret u=>∃ v aK H',Inv X pins aK H' s'/\bw v u/\D.rt v H'
def PE (X:Cx)(e:Expr)(t:TE):Prop:=
 ∀ (pins:List (Addr×Obj)) (s:Shared) (σ:St) (H:Hp) (Q:VK),Inv X pins σ H s->t σ H Q->wpAny (model X.prog X.w) X.A (eval e X.env) (EP X pins σ Q) X.xe s
structure QE (X:Cx) (e:Expr) (t:TE):Prop where mk::o:PE X e t
def PT (X:Cx)(e:Expr)(t:TT):Prop:=
 ∀ (pins:List (Addr×Obj)) (s:Shared) (σ:St) (H:Hp) (Q:Bool->Hp->Prop),Inv X pins σ H s->t σ H Q->wpAny (model X.prog X.w) X.A (isTrue e X.env (eval e X.env)) (TP X pins σ Q) X.xe s
def PW (X:Cx)(e:Expr)(t:TT):Prop:=
 ∀ (whole:Sem Value) (pins:List (Addr×Obj)) (s:Shared) (σ:St) (H:Hp) (Q:Bool->Hp->Prop),Inv X pins σ H s->t σ H Q->wpAny (model X.prog X.w) X.A (isTrue e X.env whole) (TP X pins σ Q) X.xe s
theorem PW.pt{X:Cx}{t:TT}(h:PW X e t):PT X e t:=h _
def PA (X:Cx)(es:List Expr)(t:TA):Prop:=
 ∀ (pos:Pos) (pins:List (Addr×Obj)) (s:Shared) (σ:St) (H:Hp) (Q:List V->Hp->Prop),Inv X pins σ H s->t σ H Q->wpAny (model X.prog X.w) X.A (spliced (backTo pos (starEach es X.env))) (AP X pins σ Q) X.xe s
def PS (X:Cx)(st:Stmt)(t:TS):Prop:=
 ∀ (pins:List (Addr×Obj)) (s:Shared) (σ:St) (H:Hp) (D:Ends),Inv X pins σ H s->t D σ H->wpAny (model X.prog X.w) X.A (exec st X.env) (SP X pins D) X.xe s
def iz (X:Cx)(st:List Stmt)(t:TS):Prop:=
 ∀ (pins:List (Addr×Obj)) (s:Shared) (σ:St) (H:Hp) (D:Ends),Inv X pins σ H s->t D σ H->wpAny (model X.prog X.w) X.A (execs st X.env) (SP X pins D) X.xe s
theorem aW{α:Type}{t:Sem α}{Q Q':α->Shared->Prop}(h:wpAny M A t Q E s)(hQ:∀ a s,Q a s->Q' a s):wpAny M A t Q' E s:=ZJ h hQ fun _ _ x=>x
section
variable {X:Cx}
def eV (i:Nat):TE:=fun σ H Q=>∃ v,σ[i]? = some (some v)/\Q v H
def tC (v:V):TE:=fun _ H Q=>Q v H
theorem K_{pos:Pos}(hN:X.N[i]? = some x)(hv:s9 X.env.scope x)(hd:(x==("__debug__":Str))=false:=by decide)(iA:(x==("__classdict__":Str))=false:=by decide):PE X (.Name x pos) (eV i):=by
 intro pins s σ H Q I h
 obtain⟨v,e,h⟩:=h
 obtain⟨m,hn,hl⟩:=I.loc
 obtain⟨u,r,l⟩:=hl i x v hN e hv
 have fin:EP X pins σ Q u s:=⟨v,H,I,r,h⟩
 rcases l with⟨hk,hm⟩|⟨hk,c,hc,j0⟩
 ·exact wpAny_Name (wpAny_loadName_local I.ok.kind hk hn hm fin) hd
 ·rcases hk with hk|hk
  ·exact wpAny_Name (wpAny_loadName_cell I.ok.kind hk hc j0 fin) hd
  ·exact wpAny_Name (wpAny_loadName_free I.ok.kind hk hc j0 fin iA) hd
theorem DZ{i j pos}:PE X (.Constant (.int i) j pos) (tC (.int i)):=fun _ _ _ H _ I h=>wpAny_Constant_int ⟨.int i,H,I.tok _,⟨_,rfl⟩,h⟩
theorem La{b j pos}:PE X (.Constant (.bool b) j pos) (tC (.bl b)):=fun _ _ _ H _ I h=>Constant_bool ⟨.bl b,H,I,rfl,h⟩
theorem Lb{j pos}:PE X (.Constant .none j pos) (tC .bo):=fun _ _ _ H _ I h=>Constant_none ⟨.bo,H,I,rfl,h⟩
theorem zT{x j pos}:PE X (.Constant (.str x) j pos) (tC (.str x)):=fun _ _ _ H _ I h=>Calls.Constant_str ⟨.str x,H,I.tok _,⟨_,rfl⟩,h⟩
def Gl (X:Cx)(x:Str):Prop:=X.env.kindOf x=some .globalImplicit
theorem Lc{E:Value->Shared->Prop}{σ:St}{H:Hp}{pos:Pos}{Q:Value->Shared->Prop}(I:Inv X pins σ H s)(hg:Gl X x)(hm:X.mg x=some u)(h:Q u s)
  (hd:(x==("__debug__":Str))=false:=by decide):wpAny (model X.prog X.w) X.A (eval (.Name x pos) X.env) Q E s:=
 Y1 I.ok.kind hg (Calls.loadGlobal_global (by rw[I.ok.glob];exact I.mod.glob.keeps I.bk) hm h) hd
theorem tj{E:Value->Shared->Prop}{σ:St}{H:Hp}{pos:Pos}{Q:Value->Shared->Prop}(I:Inv X pins σ H s)(hg:Gl X x)(hm:X.mg x=none)(hv:bootBuiltins x=some u)(h:Q u s)
  (hn:x ≠ "__name__":=by decide) (hd:(x==("__debug__":Str))=false:=by decide):wpAny (model X.prog X.w) X.A (eval (.Name x pos) X.env) Q E s:=by
 obtain⟨mb,h1,h2⟩:=I.mod.blt
 exact Y1 I.ok.kind hg (Calls.loadGlobal_builtin (by rw[I.ok.glob];exact I.mod.glob.keeps I.bk) hm (by rw[I.ok.blt];exact h1.keeps I.bk) ((h2 x hn).trans hv) h) hd
theorem Ld{v:V}{pos:Pos}(hg:Gl X x)(hm:X.mg x=none)(hv:bootBuiltins x=some u)(r:bw v u)(hn:x ≠ "__name__":=by decide)(hd:(x==("__debug__":Str))=false:=by decide):PE X (.Name x pos) (tC v):=
 fun _ _ _ H _ I h=>tj I hg hm hv ⟨v,H,I,r,h⟩ hn hd
variable {a b:Expr}{ta tb:TE}{pos:Pos}
def PC (X:Cx)(op:CmpOp)(a b:Expr)(t:TE):Prop:=
 ∀ (pins:List (Addr×Obj)) (s:Shared) (σ:St) (H:Hp) (Q:VK),Inv X pins σ H s->t σ H Q->
  wpAny (model X.prog X.w) X.A (eval a X.env) (fun v aO=>wpAny (model X.prog X.w) X.A (eval b X.env) (fun u fZ=>wpAny (model X.prog X.w) X.A (compareOp op v u) (EP X pins σ Q) X.xe fZ) X.xe aO) X.xe s
theorem Le(b:Expr)(h:op ≠ .In)(h2:op ≠ .NotIn):behindInMarks op b=false:=by
 have e1:(op==CmpOp.In)=false:=by cases op<;>first|rfl|exact absurd rfl h
 have e2:(op==CmpOp.NotIn)=false:=by cases op<;>first|rfl|exact absurd rfl h2
 cases b<;>simp[behindInMarks,e1,e2]
def tB (t:TE):TT:=fun σ H Q=>t σ H fun x H1=>∃ c,x=.bl c/\Q c H1
theorem Lf{t:TE}(h:PC X op a b t)(h1:behindInMarks op b=false:=by first|exact Le _ (by decide) (by decide)|rfl):PT X (.Compare a [op] [b] pos) (tB t):=by
 intro pins s σ H Q I hw
 refine wpAny_isTrue_Compare1 (aW (h pins s σ H _ I hw) fun v s1 h1=>aW h1 fun u s2 h2=>aW h2 fun c s3 ⟨x,H1,I1,r1,q1⟩=>?_) h1
 obtain⟨d,rfl,q⟩:=q1
 cases r1
 exact ZT ⟨H1,I1,q⟩
variable {tA xw:TT}{br:List Expr}
def Lg (t u:TT):TT:=fun σ H Q=>t σ H fun c H1=>if c=true then u σ H1 Q else Q false H1
def Lh (t u:TT):TT:=fun σ H Q=>t σ H fun c H1=>if c=true then Q true H1 else u σ H1 Q
def Li (t:TT):TT:=fun σ H Q=>t σ H fun c H1=>Q (!c) H1
theorem Lj(ha:PT X a tA):PW X (.BoolOp .And [a] pos) tA:=by
 intro wh pins s σ H Q I h
 refine isTrue_and (aW (ha pins s σ H Q I h) fun c s1 e=>?_)
 cases c with
 | true=>exact isTrue_and_nil e
 | false=>exact e
theorem Lk(ha:PT X a tA):PW X (.BoolOp .Or [a] pos) tA:=by
 intro wh pins s σ H Q I h
 refine isTrue_or (aW (ha pins s σ H Q I h) fun c s1 e=>?_)
 cases c with
 | false=>exact isTrue_or_nil e
 | true=>exact e
theorem Ll(ha:PT X a tA)(hb:PW X (.BoolOp .And (b::br) pos) xw):PW X (.BoolOp .And (a::b::br) pos) (Lg tA xw):=by
 intro wh pins s σ H Q I h
 refine isTrue_and (aW (ha pins s σ H _ I h) fun c s1 ai=>?_)
 obtain⟨H1,I1,q1⟩:=ai
 cases c with
 | true=>exact hb wh pins s1 σ H1 Q I1 q1
 | false=>exact⟨H1,I1,q1⟩
theorem Lm(ha:PT X a tA)(hb:PW X (.BoolOp .Or (b::br) pos) xw):PW X (.BoolOp .Or (a::b::br) pos) (Lh tA xw):=by
 intro wh pins s σ H Q I h
 refine isTrue_or (aW (ha pins s σ H _ I h) fun c s1 ai=>?_)
 obtain⟨H1,I1,q1⟩:=ai
 cases c with
 | true=>exact⟨H1,I1,q1⟩
 | false=>exact hb wh pins s1 σ H1 Q I1 q1
theorem Ln(ha:PT X a tA):PT X (.UnaryOp .Not a pos) (Li tA):=by
 intro pins s σ H Q I h
 exact isTrue_not (ha pins s σ H (fun c H1=>Q (!c) H1) I h)
def Lo (ta tb:TE):TE:=fun σ H Q=>ta σ H fun x H1=>∃ c,x=.bl c/\if c=true then tb σ H1 Q else Q (.bl false) H1
def Lp (ta:TE):TE:=fun σ H Q=>ta σ H fun x H1=>∃ c,x=.bl c/\Q (.bl (!c)) H1
theorem Lq{op}{t:TE}(h:PE X a t):PE X (.BoolOp op [a] pos) t:=fun pins s σ H Q I hw=>BoolOp_one (h pins s σ H Q I hw)
theorem Lr(ha:PE X a ta)(hb:PE X (.BoolOp .And (b::br) pos) tb):PE X (.BoolOp .And (a::b::br) pos) (Lo ta tb):=by
 intro pins s σ H Q I h
 refine BoolOp_and (aW (ha pins s σ H _ I h) fun v s1 ai=>?_)
 obtain⟨x,H1,I1,r1,q1⟩:=ai
 obtain⟨c,rfl,q1⟩:=q1
 cases r1
 refine ZT ?_
 cases c with
 | true=>exact hb pins s1 σ H1 Q I1 q1
 | false=>exact⟨.bl false,H1,I1,rfl,q1⟩
theorem Ls(ha:PE X a ta):PE X (.UnaryOp .Not a pos) (Lp ta):=by
 intro pins s σ H Q I h
 refine UnaryOp_ (aW (ha pins s σ H _ I h) fun v s1 ai=>?_)
 obtain⟨x,H1,I1,r1,q1⟩:=ai
 obtain⟨c,rfl,q1⟩:=q1
 cases r1
 exact not_of (ZT ⟨.bl (!c),H1,I1,rfl,q1⟩)
def Lu (t:TT)(ta tb:TE):TE:=fun σ H Q=>t σ H fun c H1=>if c=true then ta σ H1 Q else tb σ H1 Q
theorem Lv(hc:PT X c tA)(ha:PE X a ta)(hb:PE X b tb):PE X (.IfExp c a b pos) (Lu tA ta tb):=by
 intro pins s σ H Q I h
 refine wpAny_IfExp (aW (hc pins s σ H _ I h) fun d s1 ai=>?_)
 obtain⟨H1,I1,q1⟩:=ai
 cases d with
 | true=>exact ha pins s1 σ H1 Q I1 q1
 | false=>exact hb pins s1 σ H1 Q I1 q1
end
def cH (K:PySem.W.Frag)(H:Hp)(a:Addr)(xs:List V):Prop:=
 Rd H a (.lst xs) \/
  ∃ (o:Obj) (aj:Array Value) (n:Nat),K.lookup a=some o/\o.cls=.type "list" /\ o.dict=none/\o.data=.seq aj n/\aj.size<=sizeLine/\bc xs aj.toList
def cR (K:PySem.W.Frag)(H:Hp)(a:Addr)(xs:List V):Prop:=
 Rd H a (.tup xs) \/
  ∃ (o:Obj) (aj:Array Value) (n:Nat),K.lookup a=some o/\o.cls=.type "tuple" /\ o.data=.seq aj n/\aj.size<=sizeLine/\bc xs aj.toList
def Lw:Value->Option V
 | .none=>some .bo
 | .bool b=>some (.bl b)
 | .int i _=>some (.int i)
 | .str x _=>some (.str x)
 | .bytes b _=>some (.uE b)
 | .float b _=>some (.sY b)
 | .ref a=>some (.ref a)
 | .type n=>some (.ty n)
 | _=>none
theorem bw.abs{x:V}(r:bw x u):Lw u=some x:=by
 cases x with
 | bo=>cases r;rfl
 | bl _=>cases r;rfl
 | int _=>obtain⟨t,rfl⟩:=r;rfl
 | str _=>obtain⟨t,rfl⟩:=r;rfl
 | uE _=>obtain⟨t,rfl⟩:=r;rfl
 | sY _=>obtain⟨t,rfl⟩:=r;rfl
 | ref _=>cases r;rfl
 | ty _=>cases r;rfl
theorem bw.inj{x y:V}(r:bw x u)(q:bw y u):x=y:=QH (r.abs.symm.trans q.abs)
theorem bc.inj:∀ {xs ys:List V} {us:List Value},bc xs us->bc ys us->xs=ys
 | _,_,_,.nil,.nil=>rfl
 | _,_,_,.cons r t,.cons r' t'=>by rw[r.inj r',bc.inj t t']
section
variable {X:Cx}{pins:List (Addr×Obj)}{σ:St}{H:Hp}{s:Shared}{a:Addr}{xs ys:List V}
theorem cH.of(h:H a=some (.lst xs)):cH K H a xs:=.inl (.inl h)
theorem cR.of(h:H a=some (.tup xs)):cR K H a xs:=.inl (.inl h)
theorem Inv.list(I:Inv X pins σ H s)(h:cH X.K H a xs):∃ aj:List Value,bc xs aj/\PlainL s.heap a aj.toArray/\xs.length<=sizeLine:=by
 rcases h with h|⟨o,aj,n,hk,hc,hd,hs,hz,r⟩
 ·obtain⟨z,aj,n,r,e⟩:=h.ok I.aB
  exact⟨aj,r,⟨_,n,e,rfl,rfl,rfl⟩,z⟩
 ·refine⟨aj.toList,r,⟨o,n,I.gP a o hk,hc,hd,by simpa using hs⟩,?_⟩
  have e:=r.length
  simp only[QN]at e
  omega
theorem Inv.tuple(I:Inv X pins σ H s)(h:cR X.K H a xs):∃ aj:List Value,bc xs aj/\IsTup s.heap a aj.toArray/\xs.length<=sizeLine:=by
 rcases h with h|⟨o,aj,n,hk,hc,hs,hz,r⟩
 ·obtain⟨z,aj,r,p⟩:=h.ok I.aB
  exact⟨aj,r,p.tup,z⟩
 ·refine⟨aj.toList,r,⟨o,I.gP a o hk,hc,n,by simpa using hs⟩,?_⟩
  have e:=r.length
  simp only[QN]at e
  omega
theorem Inv.i7(I:Inv X pins σ H s)(h:cH X.K H a xs)(h':cH X.K H a ys):xs=ys:=by
 obtain⟨aj,r,⟨o,n,e,_,_,d⟩,_⟩:=I.list h
 obtain⟨its',r',⟨o',n',e',_,_,d'⟩,_⟩:=I.list h'
 rw[e]at e';cases e'
 rw[d]at d'
 injection d' with d1 _
 have:aj=its':=by simpa using ZQ Array.toList d1
 subst this
 exact r.inj r'
theorem Inv.ia(I:Inv X pins σ H s)(h:cR X.K H a xs)(h':cR X.K H a ys):xs=ys:=by
 obtain⟨aj,r,⟨o,e,_,n,d⟩,_⟩:=I.tuple h
 obtain⟨its',r',⟨o',e',_,n',d'⟩,_⟩:=I.tuple h'
 rw[e]at e';cases e'
 rw[d]at d'
 injection d' with d1 _
 have:aj=its':=by simpa using ZQ Array.toList d1
 subst this
 exact r.inj r'
end
abbrev Cx.gQ (X:Cx)(E:Value->Shared->Prop):Cx:={ X with xe:=E }
abbrev Cx.nh (X:Cx):Cx:=X.gQ fun _ _=>False
theorem Cx.Ok.gQ{X:Cx}(ok:X.Ok)(E:Value->Shared->Prop):(X.gQ E).Ok:=
 ⟨ok.mod,ok.kind,ok.glob,ok.blt,ok.above,ok.inj,ok.has,ok.uI,ok.hd,ok.frames,ok.xt,ok.zN,ok.bs,ok.m_,ok.lI,ok.lJ,ok.fY,ok.s_⟩
theorem Cx.Ok.dm{X:Cx}(ok:(X.gQ E).Ok):X.Ok:=
 ⟨ok.mod,ok.kind,ok.glob,ok.blt,ok.above,ok.inj,ok.has,ok.uI,ok.hd,ok.frames,ok.xt,ok.zN,ok.bs,ok.m_,ok.lI,ok.lJ,ok.fY,ok.s_⟩
section
variable {X:Cx}{pins:List (Addr×Obj)}{σ:St}{H:Hp}{s:Shared}{E:Value->Shared->Prop}
theorem Inv.gQ(I:Inv X pins σ H s)(E:Value->Shared->Prop):Inv (X.gQ E) pins σ H s:=⟨I.ok.gQ E,I.os,I.bare,I.base,I.loc,I.cell,I.free,I.dk,I.pin,I.aB,I.len⟩
theorem Inv.dm(I:Inv (X.gQ E) pins σ H s):Inv X pins σ H s:=⟨I.ok.dm,I.os,I.bare,I.base,I.loc,I.cell,I.free,I.dk,I.pin,I.aB,I.len⟩
theorem SP.dm{D:Ends}{f:Flow}(h:SP (X.gQ E) pins D f s'):SP X pins D f s':=by
 cases f with
 | next=>obtain⟨aK,H',I,q⟩:=h;exact⟨aK,H',I.dm,q⟩
 | brk=>obtain⟨aK,H',I,q⟩:=h;exact⟨aK,H',I.dm,q⟩
 | cont=>obtain⟨aK,H',I,q⟩:=h;exact⟨aK,H',I.dm,q⟩
 | ret u=>obtain⟨v,aK,H',I,r,q⟩:=h;exact⟨v,aK,H',I.dm,r,q⟩
theorem iz.nh{st:List Stmt}{t:TS}(h:iz X.nh st t):iz X st t:=fun pins s σ H D I hw=>
 ZJ (h pins s σ H D (I.gQ _) hw) (fun _ _ q=>q.dm) fun _ _ z=>False.elim z
end
section
variable {X:Cx}{st:Stmt}{br:List Stmt}{t u:TS}{e:Expr}{te:TE}{pos:Pos}
def Lx:TS:=fun D σ H=>D.nx σ H
def Ly (t u:TS):TS:=fun D σ H=>t { D with nx:=u D } σ H
theorem Lz:iz X [] Lx:=fun _ _ σ H _ I h=>YH ⟨σ,H,I,h⟩
theorem LA(h1:PS X st t)(h2:iz X br u):iz X (st::br) (Ly t u):=by
 intro pins s σ H D I h
 refine wpAny_execs_cons (aW (h1 pins s σ H { D with nx:=u D } I h) fun f s1 q=>?_)
 cases f with
 | next=>
  obtain⟨aK,H',I',q⟩:=q
  exact h2 pins s1 aK H' D I' q
 | ret v=>exact q
 | brk=>exact q
 | cont=>exact q
theorem LB(h1:PS X st t):iz X [st] t:=by
 intro pins s σ H D I h
 refine wpAny_execs_cons (aW (h1 pins s σ H D I h) fun f s1 q=>?_)
 cases f with
 | next=>exact YH q
 | ret v=>exact q
 | brk=>exact q
 | cont=>exact q
theorem Inv.quiet{σ:St}{H:Hp}(I:Inv X pins σ H s):interactive X.env=false:=by simp[interactive,I.ok.kind]
def LC (te:TE):TS:=fun D σ H=>te σ H fun _ H1=>D.nx σ H1
theorem LD(he:PE X e te)(hs:swapsWith e none pos.line X.env=pure false:=by rfl):PS X (.Expr e pos) (LC te):=by
 intro pins s σ H D I h
 exact wpAny_Expr_any (aW (he pins s σ H _ I h) fun v s1 ⟨x,H1,I1,r1,q1⟩=>⟨σ,H1,I1,q1⟩) I.quiet hs
def LF (te:TE):TS:=fun D σ H=>te σ H D.rt
theorem D0(he:PE X e te):PS X (.Return (some e) pos) (LF te):=by
 intro pins s σ H D I h
 exact wpAny_Return_some (aW (he pins s σ H _ I h) fun v s1 ⟨x,H1,I1,r1,q1⟩=>⟨x,σ,H1,I1,r1,q1⟩)
def LG (c:TT)(t u:TS):TS:=fun D σ H=>c σ H fun b H1=>if b=true then t D σ H1 else u D σ H1
theorem LH{a b:List Stmt}{tc:TT}(hc:PT X c tc)(ha:iz X a t)(hb:iz X b u):PS X (.If c a b pos) (LG tc t u):=by
 intro pins s σ H D I h
 refine wpAny_If (aW (hc pins s σ H _ I h) fun d s1 ai=>?_)
 obtain⟨H1,I1,q1⟩:=ai
 cases d with
 | true=>exact ha pins s1 σ H1 D I1 q1
 | false=>exact hb pins s1 σ H1 D I1 q1
def LJ:TS:=fun _ _ _=>False
theorem LK:PS X st LJ:=fun _ _ _ _ _ _ h=>h.elim
end
abbrev TG:=V->St->Hp->(St->Hp->Prop)->Prop
abbrev nY:=List V->St->Hp->(St->Hp->Prop)->Prop
def PG (X:Cx)(target:Expr)(t:TG):Prop:=
 ∀ (pins:List (Addr×Obj)) (s:Shared) (σ:St) (H:Hp) (v:V) (u:Value) (Q:St->Hp->Prop),Inv X pins σ H s->bw v u->t v σ H Q->
  wpAny (model X.prog X.w) X.A (assign target X.env u) (fun _ s'=>∃ aK H',Inv X pins aK H' s'/\Q aK H') X.xe s
def ni (X:Cx)(ts:List Expr)(t:nY):Prop:=
 ∀ (pins:List (Addr×Obj)) (s:Shared) (σ:St) (H:Hp) (vs:List V) (us:List Value) (Q:St->Hp->Prop),Inv X pins σ H s->bc vs us->t vs σ H Q->
  wpAny (model X.prog X.w) X.A (assignInOrder ((assignEach ts X.env).map (·.2)) us) (fun _ s'=>∃ aK H',Inv X pins aK H' s'/\Q aK H') X.xe s
abbrev zU:=V->V->V->Hp->(Hp->Prop)->Prop
def D1 (X:Cx)(t:zU):Prop:=
 ∀ (pins:List (Addr×Obj)) (s:Shared) (σ:St) (H:Hp) (o i v:V) (ov iv u:Value) (Q:Hp->Prop),Inv X pins σ H s->bw o ov->bw i iv->bw v u->t o i v H Q->
  wpAny (model X.prog X.w) X.A (setItem ov iv u) (fun _ s'=>∃ H',Inv X pins σ H' s'/\Q H') X.xe s
section
variable {X:Cx}{pos:Pos}
def zV (i:Nat):TG:=fun v σ H Q=>Q (σ.set i (some v)) H
theorem LL(hN:X.N.Nodup)(hi:X.N[i]? = some x)(hx:Loc X.env.scope x)(hf:X.fn x=true\/X.env.scope.names.lookup x=some .local:=by first|exact .inl rfl|exact .inr rfl|assumption):PG X (.Name x pos) (zV i):=by
 intro pins s σ H v u Q I r h
 exact wpAny_assign_Name (DY I hN hi hx r (fun s' I'=>⟨_,H,I',h⟩) hf)
def LM:nY:=fun vs σ H Q=>vs=[]/\Q σ H
def LN (t:TG)(u:nY):nY:=fun vs σ H Q=>∃ v r,vs=v::r/\t v σ H fun aK H'=>u r aK H' Q
theorem LO:ni X [] LM:=by
 intro pins s σ H vs us Q I r h
 obtain⟨e,h⟩:=h
 subst e
 cases r
 exact assignInOrder_nil ⟨σ,H,I,h⟩
theorem LP{t:TG}{u:nY}(h1:PG X e t)(h2:ni X es u)
  (hs:(assignEach (e::es) X.env).map (·.2)=assign e X.env::(assignEach es X.env).map (·.2):=by rfl):ni X (e::es) (LN t u):=by
 intro pins s σ H vs us Q I r h
 obtain⟨v,vr,e1,h⟩:=h
 subst e1
 cases r with
 | cons r rr=>
  rw[hs]
  refine assignInOrder_cons (aW (h1 pins s σ H _ _ _ I r h) fun _ s1 ai=>?_)
  obtain⟨qP,H1,I1,q1⟩:=ai
  exact h2 pins s1 qP H1 _ _ Q I1 rr q1
def LQ (K:PySem.W.Frag)(n:Nat)(t:nY):TG:=fun v σ H Q=>∃ a xs,v=.ref a/\cR K H a xs/\xs.length=n/\t xs σ H Q
theorem LR{k:Nat}{t:nY}(hc:X.calm=true)(h:ni X es t)
  (hn:(assignEach es X.env).length=n:=by rfl) (iR:(assignEach es X.env).findIdx? (·.1)=none:=by rfl):PG X (.Tuple es k pos) (LQ X.K n t):=by
 intro pins s σ H v u Q I r hw
 obtain⟨a,xs,e1,hq,hl,hw⟩:=hw
 subst e1
 cases r
 obtain⟨aj,rv,ht,hz⟩:=I.tuple hq
 refine assign_Tuple_tuple (I.ok.hd hc) ht (by simp[hn,<- hl,rv.length]) iR fun h' hx=>?_
 have I1:Inv X pins σ H { s with heap:=h' }:=I.kept (t':=s.toks) fun b o e=>hx b o (QP (Qp e)) e
 exact h pins _ σ H xs _ Q I1 (by simpa using rv) hw
def LS (to ti:TE)(t:zU):TG:=fun v σ H Q=>to σ H fun o H1=>ti σ H1 fun i H2=>t o i v H2 fun H3=>Q σ H3
theorem D2{o i:Expr}{to ti:TE}{t:zU}(ho:PE X o to)(hi:PE X i ti)(hs:D1 X t)
  (ha:∀ v,assign (.Subscript o i pos) X.env v=(do
    let ov <- holding [v] (eval o X.env)
    let iv <- holding [v,ov] (eval i X.env)
    standAt pos
    holding [v,ov,iv] (setItem ov iv v)
    release [v,ov,iv] []):=by intro _;rfl):PG X (.Subscript o i pos) (LS to ti t):=by
 intro pins s σ H v u Q I r h
 rw[ha]
 refine Qa (Q4 (aW (ho pins s σ H _ I h) fun ov s1 ai=>?_))
 obtain⟨x,H1,I1,r1,q1⟩:=ai
 refine Qa (Q4 (aW (hi pins s1 σ H1 _ I1 q1) fun iv s2 ai=>?_))
 obtain⟨y,H2,I2,r2,q2⟩:=ai
 refine Qa (wpAny_standAt (Qa (Q4 (aW (hs pins s2 σ H2 x y v ov iv u _ I2 r1 r2 r q2) fun _ s3 ai=>?_))))
 obtain⟨H3,I3,q3⟩:=ai
 exact wpAny_release ⟨σ,H3,I3,q3⟩
def zW (te:TE)(g:TG):TS:=fun D σ H=>te σ H fun x H1=>g x σ H1 D.nx
theorem zX{te:TE}{g:TG}(he:PE X e te)(hg:PG X tg g)(hs:swapsWithSole [tg] e pos.line X.env=pure false:=by rfl)(hw:swappedStores [tg] e X.env=pure none:=by rfl)
  (h1:(assignEach [tg] X.env).map (·.2)=[assign tg X.env]:=by rfl):PS X (.Assign [tg] e pos) (zW te g):=by
 intro pins s σ H D I h
 refine wpAny_Assign_stores (aW (he pins s σ H _ I h) fun v s1 ⟨x,H1,I1,r1,q1⟩=>?_) hs hw
 rw[h1]
 exact aW (hg pins s1 σ H1 x v _ I1 r1 q1) fun _ s2 q=>q
theorem LU{te:TE}{pos':Pos}(hN:X.N.Nodup)(hi:X.N[i]? = some x)(hx:Loc X.env.scope x)(he:PE X e te)(hs:swapsWith e (some (.Name x pos')) pos.line X.env=pure false:=by rfl)(hf:X.fn x=true\/X.env.scope.names.lookup x=some .local:=by first|exact .inl rfl|exact .inr rfl|assumption) :
  PS X (.Assign [.Name x pos'] e pos) (zW te (zV i)):=by
 intro pins s σ H D I h
 refine wpAny_Assign_Name (aW (he pins s σ H _ I h) fun v s1 ⟨y,H1,I1,r1,q1⟩=>?_) hs
 exact DY I1 hN hi hx r1 (fun s2 I2=>⟨_,H1,I2,q1⟩) hf
def LV (c:TT)(tb:TS):TS:=fun D σ H=>∃ W:Nat->St->Hp->Prop,(∃ m,W m σ H)/\∀ m σ H,W m σ H->
 c σ H fun b H1=>if b=true then ∃ N:St->Hp->Prop,(∀ aK H',N aK H'->∃ m',m'<m/\W m' aK H')/\tb { D with nx:=N,ct:=N,bk:=D.nx } σ H1 else D.nx σ H1
theorem LW{tc:TT}{tb:TS}(hp:PassesOwn (model X.prog X.w) X.A X.env X.xe)(hc:PT X c tc)(hb:iz X body tb):PS X (.While c body [] pos) (LV tc tb):=by
 intro pins s σ H D I h
 obtain⟨W,⟨m0,w0⟩,turn⟩:=h
 refine wpAny_While (codeAny_whileLoop (fun n s'=>∃ aK H',Inv X pins aK H' s'/\W n aK H') ?_ m0 ⟨σ,H,I,w0⟩)
 rintro n s1 ⟨qP,H1,I1,w1⟩
 refine Je hp (aW (hc pins s1 qP H1 _ I1 (turn n qP H1 w1)) fun b s2 ai=>?_)
 obtain⟨H2,I2,q2⟩:=ai
 cases b with
 | true=>
  obtain⟨N,hN,q2⟩:=q2
  rw[Qj rfl]
  refine Je hp (aW (hb pins s2 qP H2 _ I2 q2) fun f s3 q3=>?_)
  cases f with
  | next=>
   obtain⟨lK,H3,I3,n3⟩:=q3
   obtain⟨m',hm,w3⟩:=hN lK H3 n3
   exact⟨m',hm,lK,H3,I3,w3⟩
  | cont=>
   obtain⟨lK,H3,I3,n3⟩:=q3
   obtain⟨m',hm,w3⟩:=hN lK H3 n3
   exact⟨m',hm,lK,H3,I3,w3⟩
  | brk=>exact q3
  | ret v=>exact q3
 | false=>
  rw[Qk Zi]
  exact YH ⟨qP,H2,I2,q2⟩
end
structure It where
 go:Nat->Hp->Prop
 qQ:Nat->Hp->V->Hp->Prop
 stop:Nat->Hp->Prop
def lL (X:Cx)(pins:List (Addr×Obj))(H:Hp)(b:Addr):Prop:=
 H b=none/\b≠X.env.locals/\b ∉ X.fs/\(b∈X.ex\/X.cm.heap.objs.size<=b)/\(∀ x c,X.env.cells.lookup x=some c->c≠b)/\∀ p∈X.pn++pins,p.1≠b
theorem Inv.nZ{X:Cx}{σ:St}{H H':Hp}(I:Inv X pins σ H s)(hb:s.heap.objs.size<=b)(hn:H' b=none):lL X pins H' b:=by
 refine⟨hn,VB (QB I.lt hb),I.uJ hb,.inr (QL I.sz hb),fun x c e z=>?_,fun p hp z=>?_⟩
 ·obtain⟨v,q⟩:=I.cell x c e
  exact absurd (QB q.lt (by rw[z];exact hb)) (Q0 _)
 ·exact absurd (QB (Qp (I.pin p hp).1) (by rw[z];exact hb)) (Q0 _)
structure Turn (P:Program) (w:World) (K:PySem.W.Frag) (tg:Expr) (J:It) (fp:List Addr) (it:Addr) (tn:Nat->Heap->Prop):Prop where
 mem:it∈fp
 obj:∀ i h,tn i h->∀ b∈fp,∃ o,h.get? b=some o/\∀ v,o.data ≠ .cell v
 keep:∀ i h h',tn i h->(∀ b∈fp,∀ o,h.get? b=some o->h'.get? b=some o)->tn i h'
 item:∀ (X:Cx),X.prog=P->X.w=w->X.K=K->X.calm=true->∀ (i:Nat) (pins:List (Addr×Obj)) (s:Shared) (σ:St) (H:Hp) (E:Value->Shared->Prop),Inv X pins σ H s->(∀ b∈fp,lL X pins H b)->tn i s.heap->J.go i H->
  wpAny (model P w) X.A (pyNext (.ref it)) (fun r s1=>∃ u,r=some u /\
   wpAny (model P w) X.A (letOwnedTupleGo tg (.ref it) u) (fun _ s2=>∃ x H',Inv X pins σ H' s2/\bw x u/\J.qQ i H x H'/\tn (i+1) s2.heap/\∀ b∈fp,H' b=none) E s1) E s
 done:∀ (X:Cx),X.prog=P->X.w=w->X.K=K->X.calm=true->∀ (i:Nat) (pins:List (Addr×Obj)) (s:Shared) (σ:St) (H:Hp) (E:Value->Shared->Prop),Inv X pins σ H s->(∀ b∈fp,lL X pins H b)->tn i s.heap->J.stop i H->
  wpAny (model P w) X.A (pyNext (.ref it)) (fun r s1=>r=none/\Inv X pins σ H s1) E s
 self:∀ (A:Around) (i:Nat) (s:Shared) (Q:Value->Shared->Prop) (E:Value->Shared->Prop),tn i s.heap->Q (.ref it) s->wpAny (model P w) A (pyIter (.ref it)) Q E s
abbrev TI:=St->Hp->(It->Hp->Prop)->Prop
def zY (X:Cx)(pins:List (Addr×Obj))(σ:St)(tg:Expr)(R:It->Hp->Prop)(xx:Value)(s2:Shared):Prop:=
 ∃ (it:Addr) (fp:List Addr) (tn:Nat->Heap->Prop) (J:It) (H':Hp),xx=.ref it/\Inv X pins σ H' s2/\Turn X.prog X.w X.K tg J fp it tn/\tn 0 s2.heap/\(∀ b∈fp,lL X pins H' b)/\R J H'
def PI (X:Cx)(tg iter:Expr)(wi:TI):Prop:=
 ∀ (pins:List (Addr×Obj)) (s:Shared) (σ:St) (H:Hp) (R:It->Hp->Prop),Inv X pins σ H s->wi σ H R->
  wpAny (model X.prog X.w) X.A (eval iter X.env) (fun v s1=>wpAny (model X.prog X.w) X.A (pyIter v) (zY X pins σ tg R) X.xe s1) X.xe s
theorem zZ{n:String}{vs:Array Value}(ho:s.heap.get? it=some o)(hc:o.cls=.type n)(hd:o.data=.fields vs)
  (hn:["enumerate","zip","dict_itemiterator","dict_reverseitemiterator","odict_iterator","itertools.zip_longest","itertools.pairwise"].contains n=false) (hQ:Q () s):wpAny M A (letOwnedTupleGo tg (.ref it) u) Q E s:=by
 unfold letOwnedTupleGo
 cases tg<;>first
  | exact Qe hQ
  | (cases u<;>first
      | exact Qe hQ
      | (refine Qa (wpAny_load ho ?_)
         rw[hc,hd]
         show wpAny M A (if(["enumerate","zip","dict_itemiterator","dict_reverseitemiterator","odict_iterator","itertools.zip_longest","itertools.pairwise"].contains n&&vs[0]? == some (rawInt _))=true then _ else _) Q E s
         rw[Qk (by intro h;rw[hn,Bool.false_and]at h;cases h)]
         exact Qe hQ))
def z_ (K:PySem.W.Frag)(a:Addr):It:=
 ⟨fun i H=>∃ xs x,cH K H a xs/\xs[i]? = some x,fun i H x H'=>H'=H/\∀ xs,cH K H a xs->xs[i]? = some x,fun i H=>∃ xs,cH K H a xs/\xs.length<=i⟩
def Aa (K:PySem.W.Frag)(a:Addr):It:=
 ⟨fun i H=>∃ xs x,cR K H a xs/\xs[i]? = some x,fun i H x H'=>H'=H/\∀ xs,cR K H a xs->xs[i]? = some x,fun i H=>∃ xs,cR K H a xs/\xs.length<=i⟩
def xy (lo:Int)(n:Nat):It:=⟨fun i _=>i<n,fun i H x H'=>H'=H/\x=.int (lo+i),fun i _=>n<=i⟩
theorem LX(a it:Addr):Turn P w K tg (z_ K a) [it] it (fun i h=>h.IsListIter it a i) where
 mem:=by simp
 obj:=fun i h st b hb=>by
  have e:b=it:=by simpa using hb
  subst e
  obtain⟨o,e,c,d⟩:=st
  exact⟨o,e,fun v z=>by rw[d]at z;cases z⟩
 keep:=fun i h h' st k=>st.at fun o e=>k it (by simp) o e
 item:=by
  intro X hP hw hK hc i pins s σ H E I hf st hg
  subst hP hw hK
  obtain⟨xs,x,hq,hx⟩:=hg
  obtain⟨aj,rv,p,hz⟩:=I.list hq
  obtain⟨u,hu,ru⟩:=rv.get hx
  obtain⟨f0,f1,f2,f3,f4,f5⟩:=hf it (by simp)
  refine wpAny_pyNext_list_item st p.isList (x:=u) (by simpa using hu) fun h' kI sb=>?_
  have I1:Inv X pins σ H { s with heap:=h' }:=I.turned (t':=s.toks) (fun b o hb e=>(sb.2 b hb).trans e) f0 f1 f3 f4 f5
  obtain⟨o,e,c,d⟩:=id kI
  exact⟨u,rfl,zZ (s:={ s with heap:=h' }) e c d (by decide) ⟨x,H,I1,ru,⟨rfl,fun ys hy=>by rw[I.i7 hy hq];exact hx⟩,kI,fun b hb=>(hf b hb).1⟩⟩
 done:=by
  intro X hP hw hK hc i pins s σ H E I hf st hg
  subst hP hw hK
  obtain⟨xs,hq,hx⟩:=hg
  obtain⟨aj,rv,p,hz⟩:=I.list hq
  obtain⟨f0,f1,f2,f3,f4,f5⟩:=hf it (by simp)
  have hl:=rv.length
  exact wpAny_pyNext_list_end (I.ok.hd hc) st p.isList (by simp;omega) fun h' eb=>⟨rfl,I.turned (t':=s.toks) (fun b o hb e=>eb b o hb e) f0 f1 f3 f4 f5⟩
 self:=fun _ _ _ _ _ st h=>wpAny_pyIter_listiter st h
theorem LY(a it:Addr):Turn P w K tg (Aa K a) [it] it (fun i h=>h.IsTupleIter it a i) where
 mem:=by simp
 obj:=fun i h st b hb=>by
  have e:b=it:=by simpa using hb
  subst e
  obtain⟨o,e,c,d⟩:=st
  exact⟨o,e,fun v z=>by rw[d]at z;cases z⟩
 keep:=fun i h h' st k=>st.at fun o e=>k it (by simp) o e
 item:=by
  intro X hP hw hK hc i pins s σ H E I hf st hg
  subst hP hw hK
  obtain⟨xs,x,hq,hx⟩:=hg
  obtain⟨aj,rv,p,hz⟩:=I.tuple hq
  obtain⟨u,hu,ru⟩:=rv.get hx
  obtain⟨f0,f1,f2,f3,f4,f5⟩:=hf it (by simp)
  refine wpAny_pyNext_tuple_item st (show s.heap.IsTuple a aj.toArray from p) (x:=u) (by simpa using hu) fun h' kI sb=>?_
  have I1:Inv X pins σ H { s with heap:=h' }:=I.turned (t':=s.toks) (fun b o hb e=>(sb.2 b hb).trans e) f0 f1 f3 f4 f5
  obtain⟨o,e,c,d⟩:=id kI
  exact⟨u,rfl,zZ (s:={ s with heap:=h' }) e c d (by decide) ⟨x,H,I1,ru,⟨rfl,fun ys hy=>by rw[I.ia hy hq];exact hx⟩,kI,fun b hb=>(hf b hb).1⟩⟩
 done:=by
  intro X hP hw hK hc i pins s σ H E I hf st hg
  subst hP hw hK
  obtain⟨xs,hq,hx⟩:=hg
  obtain⟨aj,rv,p,hz⟩:=I.tuple hq
  obtain⟨f0,f1,f2,f3,f4,f5⟩:=hf it (by simp)
  have hl:=rv.length
  exact wpAny_pyNext_tuple_end (I.ok.hd hc) st (show s.heap.IsTuple a aj.toArray from p) (by simp;omega) fun h' eb=>⟨rfl,I.turned (t':=s.toks) (fun b o hb e=>eb b o hb e) f0 f1 f3 f4 f5⟩
 self:=fun _ _ _ _ _ st h=>wpAny_pyIter_tupleiter st h
theorem LZ(it:Addr)(lo:Int)(n:Nat):Turn P w K tg (xy lo n) [it] it (fun i h=>IsRangeIter h it (lo+(i:Nat)*1) ((n:Int)-(i:Nat)) 1) where
 mem:=by simp
 obj:=fun i h st b hb=>by
  have e:b=it:=by simpa using hb
  subst e
  exact⟨_,st,fun v z=>by
   have z':Data.fields _=Data.cell v:=z
   cases z'⟩
 keep:=fun i h h' st k=>k it (by simp) _ st
 item:=by
  intro X hP hw hK hc i pins s σ H E I hf st hg
  subst hP hw hK
  obtain⟨f0,f1,f2,f3,f4,f5⟩:=hf it (by simp)
  have W:=Walks.range (prog:=X.prog) (w:=X.w) (I.ok.hd hc) it lo 1 n
  refine W.item i s _ _ hg st fun v h' tk hv kI kk=>?_
  obtain⟨t,rfl⟩:=hv
  have I1:Inv X pins σ H { s with heap:=h',toks:=tk }:=I.turned (fun b o hb e=>kk b o (by simpa using hb) e) f0 f1 f3 f4 f5
  refine⟨_,rfl,zZ (s:={ s with heap:=h',toks:=tk }) (n:="range_iterator") kI rfl rfl (by decide) ⟨.int (lo+i),H,I1,⟨t,?_⟩,⟨rfl,rfl⟩,kI,fun b hb=>(hf b hb).1⟩⟩
  rw[Int.mul_one]
 done:=by
  intro X hP hw hK hc i pins s σ H E I hf st hg
  subst hP hw hK
  obtain⟨f0,f1,f2,f3,f4,f5⟩:=hf it (by simp)
  exact wpAny_pyNext_range_end (I.ok.hd hc) st (by have:n<=i:=hg;omega) fun h' eb=>⟨rfl,I.turned (t':=s.toks) (fun b o hb e=>eb b o hb e) f0 f1 f3 f4 f5⟩
 self:=fun _ _ _ _ _ st h=>wpAny_pyIter_rangeiter st h
section
variable {X:Cx}{tg:Expr}
theorem L4{σ:St}{H:Hp}{R:It->Hp->Prop}{lo hi:Int}{t u v:Tok}{tk:Nat}(I:Inv X pins σ H s)(h1:-(2 ^ 62)<=lo)(h2:lo<2 ^ 62)(h3:-(2 ^ 62)<=hi)(h4:hi<2 ^ 62)
  (q:R (xy lo (hi-lo).toNat) H):wpAny (model X.prog X.w) X.A (pyIter (.ref s.heap.objs.size)) (zY X pins σ tg R) E { s with heap:=s.heap.push { cls:=.type "range",data:=.fields #[.int lo t,.int hi u,.int 1 v] },toks:=tk }:=by
 refine wpAny_pyIter_range (IsRange.new ..) (small_one h1 h2 h3 h4) ?_
 have I1:Inv X pins σ H { s with heap:=s.heap.push { cls:=.type "range",data:=.fields #[.int lo t,.int hi u,.int 1 v] },toks:=tk }:=I.kept fun b o e=>Qd _ e
 refine⟨(s.heap.push { cls:=.type "range",data:=.fields #[.int lo t,.int hi u,.int 1 v] }).objs.size,[(s.heap.push { cls:=.type "range",data:=.fields #[.int lo t,.int hi u,.int 1 v] }).objs.size],_,_,H,rfl,
  I1.kept (t':=tk) fun b o e=>Qd _ e,LZ _ lo (hi-lo).toNat,?_,fun b hb=>?_,q⟩
 ·have e1:lo+((0:Nat):Int)*1=lo:=by simp
  have e2:(((hi-lo).toNat:Nat):Int)-((0:Nat):Int)=Builtin.Range.rangeSize lo hi 1:=by rw[rangeSize_one];split<;>omega
  show IsRangeIter _ _ (lo+((0:Nat):Int)*1) ((((hi-lo).toNat:Nat):Int)-((0:Nat):Int)) 1
  rw[e1,e2]
  exact Qs _ rfl
 ·have e:b=(s.heap.push { cls:=.type "range",data:=.fields #[.int lo t,.int hi u,.int 1 v] }).objs.size:=by simpa using hb
  subst e
  exact I1.nZ (Qi _) (I1.aB.fresh (Qi _))
def L5 (ta:TA):TI:=fun σ H R=>ta σ H fun vs H1=>∃ j:Int,vs=[.int j] /\ -(2 ^ 62)<=j/\j<2 ^ 62/\R (xy 0 j.toNat) H1
theorem L6{a:Expr}{ta:TA}{p pos:Pos}(hg:Gl X "range")(hm:X.mg "range" = none)(ha:PA X [a] ta)(hs:starEach [a] X.env=[(false,eval a X.env)]:=by rfl):PI X tg (.Call (.Name "range" p) [a] [] pos) (L5 ta):=by
 intro pins s σ H R I h
 refine Call_ (tj I hg hm boot_range (Z3 (aW (ha pos pins s σ H _ I h) fun us s1 ⟨vs,H1,I1,r1,q1⟩=>?_) hs rfl))
 obtain⟨j,e,q1,q2,q⟩:=q1
 subst e
 cases r1 with
 | cons r rr=>
  cases rr
  obtain⟨t,rfl⟩:=r
  exact call_range_1 (L4 I1 (by omega) (by omega) q1 q2 (by simpa using q))
def L7 (wi:TI)(g:TG)(tb:TS):TS:=fun D σ H=>wi σ H fun J H1=>∃ W:Nat->Nat->St->Hp->Prop,(∃ m,W 0 m σ H1)/\∀ i m σ H,W i m σ H->
 (J.stop i H/\D.nx σ H)\/(J.go i H/\∃ N:St->Hp->Prop,(∀ aK H',N aK H'->∃ m',m'<m/\W (i+1) m' aK H')/\∀ x H',J.qQ i H x H'->g x σ H' fun lM H2=>tb { D with nx:=N,ct:=N,bk:=D.nx } lM H2)
def pD (fp:List Addr)(h:Heap):List (Addr×Obj):=fp.filterMap fun b=>(h.get? b).map fun o=>(b,o)
theorem xA(hb:b∈fp)(e:h.get? b=some o):(b,o)∈pD fp h:=Y2.mpr ⟨b,hb,by rw[e];rfl⟩
theorem D3{p:Addr×Obj}(hp:p∈pD fp h):p.1∈fp/\h.get? p.1=some p.2:=by
 obtain⟨b,hb,e⟩:=Y2.mp hp
 cases q:h.get? b with
 | none=>rw[q]at e;cases e
 | some o=>
  rw[q]at e
  have e':(b,o)=p:=QH e
  subst e'
  exact⟨hb,q⟩
theorem Inv.pinned{σ:St}{H:Hp}(I:Inv X pins σ H s)(hf:∀ b∈fp,lL X pins H b)(ho:∀ b∈fp,∃ o,s.heap.get? b=some o/\∀ v,o.data ≠ .cell v):Inv X (pins++pD fp s.heap) σ H s:=
 I.fP fun p hp=>(Qx.mp hp).elim (fun z=>I.pin p (Qo _ z)) fun z=>by
  obtain⟨hb,e⟩:=D3 z
  obtain⟨f0,f1,f2,_⟩:=hf p.1 hb
  obtain⟨o,e',d⟩:=ho p.1 hb
  rw[e]at e';cases e'
  exact⟨e,f0,f1,f2,d⟩
theorem Inv.eF{pl:List (Addr×Obj)}{σ:St}{H:Hp}(I:Inv X (pins++pl) σ H s):Inv X pins σ H s:=I.fP fun p hp=>I.pin p (Qo _ (Qu _ hp))
theorem L8{iter:Expr}{wi:TI}{g:TG}{tb:TS}{pos:Pos}(hp:PassesOwn (model X.prog X.w) X.A X.env X.xe)(hc:X.calm=true)(hi:PI X tg iter wi)(hg:PG X tg g)(hb:iz X body tb)
  (hs:∀ x,foldedSetIterable iter X.env x=pure x:=by intro _;rfl):PS X (.For tg iter body [] pos) (L7 wi g tb):=by
 intro pins s σ H D I h
 refine wpAny_For (aW (hi pins s σ H _ I h) fun v s1 h1=>aW h1 fun xx s2 h2=>?_) hs
 obtain⟨it,fp,tn,J,H2,e,I2,T,pE,f2,W,⟨m0,w0⟩,turn⟩:=h2
 subst e
 have jJ:∀ {H':Hp},(∀ b∈fp,H' b=none)->∀ b∈fp,lL X pins H' b:=fun hn b hb=>⟨hn b hb,(f2 b hb).2⟩
 refine codeAny_forLoop_any (fun n s'=>∃ i aK H',Inv X pins aK H' s'/\tn i s'.heap/\(∀ b∈fp,H' b=none)/\W i n aK H') ?_ m0 ⟨0,σ,H2,I2,pE,fun b hb=>(f2 b hb).1,w0⟩
 rintro n s3 ⟨i,lK,H3,I3,uP,D4,w3⟩
 rcases turn i n lK H3 w3 with⟨stop,qn⟩|⟨go,N,hN,step⟩
 ·refine Je hp (aW (T.done X rfl rfl rfl hc i pins s3 lK H3 X.xe I3 (jJ D4) uP stop) fun r s4 ⟨hr,I4⟩=>?_)
  subst hr
  exact YH ⟨lK,H3,I4,qn⟩
 ·refine Je hp (aW (T.item X rfl rfl rfl hc i pins s3 lK H3 X.xe I3 (jJ D4) uP go) fun r s4 ⟨u,hr,h4⟩=>?_)
  subst hr
  refine Je hp (aW h4 fun _ s5 ai=>?_)
  obtain⟨x,H5,I5,r5,y5,qR,Ab⟩:=ai
  have Ac:=I5.pinned (jJ Ab) (T.obj _ _ qR)
  refine Je hp (aW (hg _ s5 lK H5 x u _ Ac r5 (step x H5 y5)) fun _ s6 ai=>?_)
  obtain⟨D5,H6,I6,q6⟩:=ai
  refine Je hp (aW (hb _ s6 D5 H6 _ I6 q6) fun f s7 q7=>?_)
  have again:∀ {lN:St} {H7:Hp},Inv X (pins++pD fp s5.heap) lN H7 s7->N lN H7->∃ m,m<n/\∃ i aK H',Inv X pins aK H' s7/\tn i s7.heap/\(∀ b∈fp,H' b=none)/\W i m aK H':=fun {lN H7} I7 n7=>by
   obtain⟨m',hm,w7⟩:=hN lN H7 n7
   refine⟨m',hm,i+1,lN,H7,I7.eF,T.keep _ _ _ qR fun b hb o e=>(I7.pin (b,o) (Qo _ (Qo _ (xA hb e)))).1,fun b hb=>?_,w7⟩
   obtain⟨o,e,d⟩:=T.obj _ _ qR b hb
   exact(I7.pin (b,o) (Qo _ (Qo _ (xA hb e)))).2.1
  cases f with
  | next=>obtain⟨lN,H7,I7,n7⟩:=q7;exact again I7 n7
  | cont=>obtain⟨lN,H7,I7,n7⟩:=q7;exact again I7 n7
  | brk=>obtain⟨lN,H7,I7,q7⟩:=q7;exact⟨lN,H7,I7.eF,q7⟩
  | ret v=>obtain⟨x7,lN,H7,I7,r7,q7⟩:=q7;exact⟨x7,lN,H7,I7.eF,r7,q7⟩
end
abbrev R2:=V->V->Hp->VK->Prop
def df (X:Cx)(f:Value->Value->Sem Value)(r:R2):Prop:=
 ∀ (pins:List (Addr×Obj)) (s:Shared) (σ:St) (H:Hp) (x y:V) (v u:Value) (Q:VK),Inv X pins σ H s->bw x v->bw y u->r x y H Q->
  wpAny (model X.prog X.w) X.A (f v u) (EP X pins σ Q) X.xe s
def jt (X:Cx)(f:Value)(r:List V->Hp->VK->Prop):Prop:=
 ∀ (pins:List (Addr×Obj)) (s:Shared) (σ:St) (H:Hp) (xs:List V) (us:List Value) (Q:VK),Inv X pins σ H s->bc xs us->r xs H Q->
  wpAny (model X.prog X.w) X.A (call f us) (EP X pins σ Q) X.xe s
def L9 (X:Cx)(r:V->Hp->(Bool->Hp->Prop)->Prop):Prop:=
 ∀ (pins:List (Addr×Obj)) (s:Shared) (σ:St) (H:Hp) (x:V) (v:Value) (Q:Bool->Hp->Prop),Inv X pins σ H s->bw x v->r x H Q->
  wpAny (model X.prog X.w) X.A (truthy v) (TP X pins σ Q) X.xe s
def j3 (r:R2)(ta tb:TE):TE:=fun σ H Q=>ta σ H fun x H1=>tb σ H1 fun y H2=>r x y H2 Q
def rI (C:Int->Int->Prop)(g:Int->Int->V):R2:=fun x y H Q=>∃ i j,x=.int i/\y=.int j/\C i j/\Q (g i j) H
def n4 (g:Int->Int->V):R2:=fun x y H Q=>∃ i j,x=.int i/\y=.int j/\Q (g i j) H
section
variable {X:Cx}{a b c:Expr}{ta tb tc:TE}{pos:Pos}
theorem Ad(ha:PE X a ta)(hb:PE X b tb){σ:St}{H:Hp}{R:V->V->Hp->Prop}(I:Inv X pins σ H s)
  (h:ta σ H fun x H1=>tb σ H1 fun y H2=>R x y H2) {Q:Value->Shared->Prop} 
  (hf:∀ v u s2 x y H2,Inv X pins σ H2 s2->bw x v->bw y u->R x y H2->wpAny (model X.prog X.w) X.A (f v u) Q X.xe s2) :
  wpAny (model X.prog X.w) X.A (eval a X.env) (fun v aO=>wpAny (model X.prog X.w) X.A (eval b X.env) (fun u fZ=>wpAny (model X.prog X.w) X.A (f v u) Q X.xe fZ) X.xe aO) X.xe s:=by
 refine aW (ha pins s σ H _ I h) fun v s1 ai=>?_
 obtain⟨x,H1,I1,r1,q1⟩:=ai
 refine aW (hb pins s1 σ H1 _ I1 q1) fun u s2 ai=>?_
 obtain⟨y,H2,I2,r2,q2⟩:=ai
 exact hf v u s2 x y H2 I2 r1 r2 q2
theorem pF{op:Operator}{r:R2}(ho:df X (binaryOp op) r)(ha:PE X a ta)(hb:PE X b tb):PE X (.BinOp a op b pos) (j3 r ta tb):=by
 intro pins s σ H Q I h
 exact wpAny_BinOp (Ad ha hb I h fun v u s2 x y H2 I2 rx ry q=>ho pins s2 σ H2 x y v u Q I2 rx ry q)
theorem Ae{f:Value->Value->Sem Value}{C:Int->Int->Prop}
  (rule:∀ (i j:Int) (t u:Tok) (s:Shared) (Q:Value->Shared->Prop) (E:Value->Shared->Prop),C i j->Q (.int (g i j) s.toks) { s with toks:=s.toks+1 }->wpAny (model X.prog X.w) X.A (f (.int i t) (.int j u)) Q E s) :
  df X f (rI C fun i j=>.int (g i j)):=by
 intro pins s σ H x y v u Q I rx ry h
 obtain⟨i,j,rfl,rfl,hc,q⟩:=h
 obtain⟨t,rfl⟩:=rx
 obtain⟨t',rfl⟩:=ry
 exact rule i j t t' s _ _ hc ⟨.int (g i j),H,I.tok _,⟨_,rfl⟩,q⟩
theorem L_{f:Value->Value->Sem Value}
  (rule:∀ (i j:Int) (t u:Tok) (s:Shared) (Q:Value->Shared->Prop) (E:Value->Shared->Prop),Q (.int (g i j) s.toks) { s with toks:=s.toks+1 }->wpAny (model X.prog X.w) X.A (f (.int i t) (.int j u)) Q E s) :
  df X f (n4 fun i j=>.int (g i j)):=by
 intro pins s σ H x y v u Q I rx ry h
 obtain⟨i,j,rfl,rfl,q⟩:=h
 obtain⟨t,rfl⟩:=rx
 obtain⟨t',rfl⟩:=ry
 exact rule i j t t' s _ _ ⟨.int (g i j),H,I.tok _,⟨_,rfl⟩,q⟩
theorem D6{g:Int->Int->Bool}
  (rule:∀ (i j:Int) (t u:Tok) (s:Shared) (Q:Value->Shared->Prop) (E:Value->Shared->Prop),Q (.bool (g i j)) s->wpAny (model X.prog X.w) X.A (f (.int i t) (.int j u)) Q E s) :
  df X f (n4 fun i j=>.bl (g i j)):=by
 intro pins s σ H x y v u Q I rx ry h
 obtain⟨i,j,rfl,rfl,q⟩:=h
 obtain⟨t,rfl⟩:=rx
 obtain⟨t',rfl⟩:=ry
 exact rule i j t t' s _ _ ⟨.bl (g i j),H,I,rfl,q⟩
def Ma (i j:Int):Prop:=0<j/\j<1073741824
def Af (i j:Int):Prop:=(-(2 ^ 64)<i/\i<2 ^ 64)\/(-(2 ^ 64)<j/\j<2 ^ 64)
theorem Af.ok{i j:Int}(h:Af i j):IntMulOk i j:=by
 rcases h with⟨h1,h2⟩|⟨h1,h2⟩
 ·exact .of_left (intBits_le_64 h1 h2)
 ·exact .of_right (intBits_le_64 h1 h2)
theorem Mb:df X (binaryOp .Add) (n4 fun i j=>.int (i+j)):=L_ fun _ _ _ _ _ _ _ q=>add_int q
theorem Mc:df X (binaryOp .Mult) (rI Af fun i j=>.int (i*j)):=Ae fun _ _ _ _ _ _ _ hc q=>mul_int q hc.ok
theorem Md:df X (binaryOp .FloorDiv) (rI Ma fun i j=>.int (i / j)):=Ae fun i j _ _ _ _ _ hc q=>by
 have h1:(0:Int)<j:=hc.1
 have h2:j<1073741824:=hc.2
 exact floordiv_int (by omega) (by rw[Int.fdiv_eq_ediv_of_nonneg i (by omega)];exact q) (.inl (PyProof.noPylong_small (by omega)))
theorem Me:df X (binaryOp .Mod) (rI (fun _ j=>0<j) fun i j=>.int (i % j)):=Ae fun i j _ _ _ _ _ hc q=>by
 have h1:(0:Int)<j:=hc
 exact mod_int' (by omega) (by rw[Int.fmod_eq_emod_of_nonneg i (by omega)];exact q)
theorem D7:df X (compareOp .Lt) (n4 fun i j=>.bl (decide (i<j))):=D6 fun _ _ _ _ _ _ _ q=>lt_int q
theorem Mf:df X (compareOp .LtE) (n4 fun i j=>.bl (decide (i<=j))):=D6 fun _ _ _ _ _ _ _ q=>le_int q
theorem df.or{r r':R2}(h:df X f r)(h':df X f r'):df X f (fun x y H Q=>r x y H Q\/r' x y H Q):=by
 intro pins s σ H x y v u Q I rx ry q
 rcases q with q|q
 ·exact h pins s σ H x y v u Q I rx ry q
 ·exact h' pins s σ H x y v u Q I rx ry q
theorem xB(b:Expr)(h:op ≠ .In:=by decide)(h2:op ≠ .NotIn:=by decide):behindInMarks op b=false:=by
 have e1:(op==CmpOp.In)=false:=by cases op<;>first|rfl|exact absurd rfl h
 have e2:(op==CmpOp.NotIn)=false:=by cases op<;>first|rfl|exact absurd rfl h2
 cases b<;>simp[behindInMarks,e1,e2]
theorem Mg{r:R2}(ho:df X (compareOp op) r)(ha:PE X a ta)(hb:PE X b tb)(hm:behindInMarks op b=false):PE X (.Compare a [op] [b] pos) (j3 r ta tb):=by
 intro pins s σ H Q I h
 exact wpAny_Compare1 (Ad ha hb I h fun v u s2 x y H2 I2 rx ry q=>ho pins s2 σ H2 x y v u Q I2 rx ry q) hm
def D8 (t:TE):TT:=fun σ H Q=>t σ H fun x H'=>∃ k,x=.bl k/\Q k H'
theorem D9{r:R2}(ho:df X (compareOp op) r)(ha:PE X a ta)(hb:PE X b tb)(hm:behindInMarks op b=false):PT X (.Compare a [op] [b] pos) (D8 (j3 r ta tb)):=by
 intro pins s σ H Q I h
 refine wpAny_isTrue_Compare1 (aW (ha pins s σ H _ I h) fun v s1 ⟨x,H1,I1,r1,q1⟩=>aW (hb pins s1 σ H1 _ I1 q1) fun u s2 ⟨y,H2,I2,r2,q2⟩=>
  aW (ho pins s2 σ H2 x y v u _ I2 r1 r2 q2) fun c s3 ⟨z,H3,I3,r3,k,e,q3⟩=>?_) hm
 subst e
 cases r3
 exact ZT ⟨H3,I3,q3⟩
def Mh (r r':R2)(ta tb tc:TE):TE:=fun σ H Q=>ta σ H fun x H1=>tb σ H1 fun y H2=>r x y H2 fun z H3=>∃ k,z=.bl k /\
 (if k=true then tc σ H3 fun w' H4=>r' y w' H4 Q else Q (.bl false) H3)
theorem Mi{qS:CmpOp}{r r':R2}(ho:df X (compareOp op) r)(iw:df X (compareOp qS) r')(ha:PE X a ta)(hb:PE X b tb)(hc:PE X c tc)
  (hm:lastMarks [op,qS] [b,c]=false:=by with_unfolding_all rfl):PE X (.Compare a [op,qS] [b,c] pos) (Mh r r' ta tb tc):=by
 intro pins s σ H Q I h
 refine Compare_chain (aW (ha pins s σ H _ I h) fun v s1 ⟨x,H1,I1,r1,q1⟩=>chain_link (aW (hb pins s1 σ H1 _ I1 q1) fun u s2 ⟨y,H2,I2,r2,q2⟩=>
  aW (ho pins s2 σ H2 x y v u _ I2 r1 r2 q2) fun d s3 ⟨z,H3,I3,r3,k,e,q3⟩=>?_)) hm
 subst e
 cases r3
 refine ZT ?_
 cases k with
 | false=>exact ite_ff ⟨.bl false,H3,I3,rfl,q3⟩
 | true=>exact ite_tt (chain_last (aW (hc pins s3 σ H3 _ I3 q3) fun w' s4 ⟨z',H4,I4,r4,q4⟩=>iw pins s4 σ H4 y z' u w' Q I4 r2 r4 q4))
def D_ (K:PySem.W.Frag)(x:V)(H:Hp)(k:Bool):Prop:=
 match x with
 | .bo=>k=false
 | .bl b=>k=b
 | .int i=>k=(i != 0)
 | .str y=>y.length<=sizeLine/\k=((y.length:Int) != 0)
 | .uE y=>y.size<=sizeLine/\k=((y.size:Int) != 0)
 | .ref p=>(∃ xs,cH K H p xs/\k = !xs.isEmpty)\/(∃ xs,cR K H p xs/\k = !xs.isEmpty)\/∃ ah,H p=some (.dK ah)/\k = !ah.isEmpty
 | _=>False
theorem Mj{κ:Type}{ah:List (κ×V)}{vs:List (κ×Value)}(r:KV ah vs):(!vs.isEmpty) = !ah.isEmpty:=by
 cases r<;>rfl
theorem Ea{xs:List V}{aj:List Value}(r:bc xs aj):(!aj.toArray.isEmpty) = !xs.isEmpty:=by
 cases r<;>simp
theorem tm:(sizeLine:Nat)<2 ^ 63:=by rw[ZR];decide
theorem Ml:L9 X (fun x H Q=>∃ k,D_ X.K x H k/\Q k H):=by
 intro pins s σ H x v Q I rx h
 obtain⟨k,e,q⟩:=h
 have hl:=tm
 have hs:sizeLine=16777216:=ZR
 cases x with
 | bo=>
  cases rx
  have e':k=false:=e
  subst e'
  exact truthy_none ⟨H,I,q⟩
 | bl b=>
  cases rx
  have e':k=b:=e
  subst e'
  exact ZT ⟨H,I,q⟩
 | int i=>
  obtain⟨t,rfl⟩:=rx
  have e':k=(i != 0):=e
  subst e'
  exact PySem.P.truthy_int ⟨H,I,q⟩
 | str y=>
  obtain⟨t,rfl⟩:=rx
  obtain⟨hy,e'⟩:y.length<=sizeLine/\k=((y.length:Int) != 0):=e
  subst e'
  exact PySem.P.truthy_str (by omega) ⟨H,I.tok _,q⟩
 | uE y=>
  obtain⟨t,rfl⟩:=rx
  obtain⟨hy,e'⟩:y.size<=sizeLine/\k=((y.size:Int) != 0):=e
  subst e'
  exact PySem.W.truthy_bytes (by omega) ⟨H,I.tok _,q⟩
 | ref p=>
  cases rx
  have e':(∃ xs,cH X.K H p xs/\k = !xs.isEmpty)\/(∃ xs,cR X.K H p xs/\k = !xs.isEmpty)\/∃ ah,H p=some (.dK ah)/\k = !ah.isEmpty:=e
  rcases e' with⟨xs,hx,e'⟩|⟨xs,hx,e'⟩|⟨ah,hx,e'⟩
  ·subst e'
   obtain⟨aj,r,pl,hz⟩:=I.list hx
   have hlen:=r.length
   exact wpAny_truthy_list pl.isList (by simp only[Qm];omega) ⟨H,I.tok _,by rw[Ea r];exact q⟩
  ·subst e'
   obtain⟨aj,r,pl,hz⟩:=I.tuple hx
   have hlen:=r.length
   exact truthy_tuple pl (by simp only[Qm];omega) ⟨H,I.tok _,by rw[Ea r];exact q⟩
  ·subst e'
   obtain⟨hz,hS,vs,r,m⟩:ah.length<=sizeLine/\(p==sysModules)=false/\∃ vs,KV ah vs/\s.heap.DictOf (hZ X.prog X.w) p vs:=I.aB p _ hx
   have hlen:ah.length=vs.length:=Jo r
   exact wpAny_truthy_dict hS m (by omega) ⟨H,I.tok _,by rw[Mj r];exact q⟩
 | _=>exact(show False from e).elim
theorem Mm(ha:PE X a ta)(he:∀ whole,isTrue a X.env whole=(do let v <- whole;standAt a.pos;holding [v] (truthy v))) :
  PT X a (fun σ H Q=>ta σ H fun x H'=>∃ k,D_ X.K x H' k/\Q k H'):=by
 intro pins s σ H Q I h
 exact isTrue_plain (aW (ha pins s σ H _ I h) fun v s1 ⟨x,H1,I1,r1,q1⟩=>Ml pins s1 σ H1 x v Q I1 r1 q1) (he _)
theorem j4{x:V}(r:bc [x] us):∃ u,us=[u]/\bw x u:=by
 cases r with
 | cons r1 r2=>cases r2;exact⟨_,rfl,r1⟩
theorem Eb{x y:V}(r:bc [x,y] us):∃ u w',us=[u,w']/\bw x u/\bw y w':=by
 cases r with
 | cons r1 r2=>
  cases r2 with
  | cons r3 r4=>cases r4;exact⟨_,_,rfl,r1,r3⟩
theorem Mn(hc:X.calm=true):jt X (.builtin "max") (fun xs H Q=>∃ i j,xs=[.int i,.int j]/\Q (.int (if j > i then j else i)) H):=by
 intro pins s σ H xs us Q I r h
 obtain⟨i,j,rfl,q⟩:=h
 obtain⟨u,w',rfl,⟨t,rfl⟩,⟨t',rfl⟩⟩:=Eb r
 refine max_two_ints (I.ok.hd hc) fun h' tk k=>⟨_,H,I.kept k,?_,q⟩
 by_cases hj:j > i
 ·rw[Qj hj,Qj hj];exact⟨_,rfl⟩
 ·rw[Qk hj,Qk hj];exact⟨_,rfl⟩
theorem Mp:jt X (.type "int") (fun xs H Q=>(∃ i,xs=[.int i]/\Q (.int i) H)\/∃ k,xs=[.bl k]/\Q (.int (if k then 1 else 0)) H):=by
 intro pins s σ H xs us Q I r h
 rcases h with⟨i,rfl,q⟩|⟨k,rfl,q⟩
 ·obtain⟨u,rfl,t,rfl⟩:=j4 r
  exact call_int_int ⟨.int i,H,I,⟨_,rfl⟩,q⟩
 ·obtain⟨u,rfl,r1⟩:=j4 r
  cases r1
  exact call_int_bool ⟨.int (if k then 1 else 0),H,I.tok _,⟨_,rfl⟩,q⟩
end
structure qT (h:Heap) (x dx C:Addr) (mA:Str->Option Value):Prop where
 obj:h.get? x=some (PySem.W.instObj C dx)
 ns:h.Ns1 dx mA
 ne:dx≠x
theorem Mq(n:h.Ns1 dx mA):∃ od,h.get? dx=some od/\∀ name,PySem.W.lookIn name od=some (mA name):=by
 obtain⟨o,es,ep,ho,hd,hk,_,hm⟩:=n
 refine⟨o,ho,fun name=>?_⟩
 have e:=hm name
 unfold nsFind findBy at e
 rw[<- Array.find?_toList]at e
 unfold PySem.W.lookIn
 rw[hd]
 dsimp only
 split
 next y q=>
  rw[q]at e
  exact ZQ some e
 next q=>
  rw[q]at e
  have a:es.toList.any (·.refKey)=false:=by
   rw[List.any_eq_false]
   intro y hy
   obtain⟨z,t,Ag⟩:=hk y (YC.mp hy)
   simp[DictEntry.refKey,Ag]
  have a':¬ es.toList.any (·.refKey)=true:=by rw[a];exact Zi
  rw[Qk a']
  exact ZQ some e
theorem qT.look{x:Addr}(I:qT h x dx C mA):∃ od,PySem.W.InstAt h x (PySem.W.instObj C dx) C (some od)/\∀ name,PySem.W.lookIn name od=some (mA name):=
 let ⟨od,ho,hl⟩:=Mq I.ns
 ⟨od,⟨I.obj,rfl,rfl,ho⟩,hl⟩
theorem kG.some_of{v:V}{o:Option Value}(r:kG (some v) o):∃ u,o=some u/\bw v u:=by
 cases o with
 | none=>exact(show False from r).elim
 | some u=>exact⟨u,rfl,r⟩
section
variable {P:Program}{w:World}{H H':Hp}{h h':Heap}{a C dx:Addr}{fs K3:List (Str×V)}
theorem tq(aB:de P w H h)(e:H a=some (.ins C dx fs)):∃ mA,qT h a dx C mA/\(∀ f,kG (fs.lookup f) (mA f))/\PySem.Within mA (fs.map (·.1))/\fs.length<=1000/\H dx=some (.own a):=by
 obtain⟨d,z,ne,ob,mA,n,r,q⟩:=(show cZ P w H h a (.ins C dx fs)from aB a _ e)
 exact⟨mA,⟨ob,n,ne⟩,r,q,z,d⟩
end
structure xC (K:PySem.W.Frag) (C:Addr):Prop where
 pg:PySem.W.plainGet K C Str.empty=true
 hd:PySem.W.hasDictIn K C=true
 po:PySem.W.plainOver K C=true
 sa:PySem.W.findIn K (.ref C) "__setattr__" = some (some (.builtin "object.__setattr__"))
theorem xC.get(c:xC K C)(f:Str):PySem.W.plainGet K C f=true:=c.pg
section
variable {X:Cx}{pins:List (Addr×Obj)}{σ:St}{H:Hp}{s:Shared}{A:Around}{E:Value->Shared->Prop}{Q:Value->Shared->Prop}{c:Value}{b:Bool}
inductive fG (K:PySem.W.Frag) (H:Hp):V->Value->Prop where
 | bo:fG K H .bo (.type "NoneType")
 | bl (x:Bool):fG K H (.bl x) (.type "bool")
 | int (i:Int):fG K H (.int i) (.type "int")
 | str (x:Str):fG K H (.str x) (.type "str")
 | sY (x:UInt64):fG K H (.sY x) (.type "float")
 | lst {a:Addr} {xs:List V} (e:H a=some (.lst xs)):fG K H (.ref a) (.type "list")
 | fF {a:Addr} {o:Obj} {xs:List V} (e:H a=some (.fF o (.lst xs))):fG K H (.ref a) (.type "list")
 | tup {a:Addr} {xs:List V} (e:H a=some (.tup xs)):fG K H (.ref a) (.type "tuple")
 | dK {a:Addr} {ah:List (Key×V)} (e:H a=some (.dK ah)):fG K H (.ref a) (.type "dict")
 | dT {a:Addr} {ah:List (List Key×V)} (e:H a=some (.dT ah)):fG K H (.ref a) (.type "dict")
 | ins {a C dx:Addr} {fs:List (Str×V)} (e:H a=some (.ins C dx fs)) (cl:xC K C) (ha:PySem.W.findIn K (.ref C) "__class__" = some (some (.builtin "object.__class__")))
   (hn:PySem.W.specialIn K (.builtin "object.__class__") "__get__" = some (some (.builtin "getset_descriptor.__get__"))) (uQ:PySem.W.takesIn K (.builtin "object.__class__")=some true)
   (hm:PySem.W.mroIn K C (.type "object")=some true):fG K H (.ref a) (.ref C)
theorem jK{x:V}{t:Value}(I:Inv X pins σ H s)(rx:bw x u)(ty:fG X.K H x t)(e:PySem.W.kitOne X.K t c=some b)(h:∀ tk,Q (.bool b) { s with toks:=tk }) :
  wpAny (model X.prog X.w) A (call (.builtin "isinstance") [u,c]) Q E s:=by
 cases ty with
 | bo=>cases (show u=Value.none from rx);exact Zo PySem.W.kitx_none I.gP True.intro e (fun z=>nomatch z) h
 | bl y=>cases (show u=Value.bool y from rx);exact Zo PySem.W.kitx_bool I.gP True.intro e (fun z=>nomatch z) h
 | int i=>obtain⟨t,q⟩:=(show ∃ t,u=Value.int i t from rx);cases q;exact Zo PySem.W.kitx_int I.gP True.intro e (fun z=>nomatch z) h
 | str y=>obtain⟨t,q⟩:=(show ∃ t,u=Value.str y t from rx);cases q;exact Zo PySem.W.kitx_str I.gP True.intro e (fun z=>nomatch z) h
 | sY y=>obtain⟨t,q⟩:=(show ∃ t,u=Value.float y t from rx);cases q;exact Zo PySem.W.kitx_float I.gP True.intro e (fun z=>nomatch z) h
 | @lst a xs ea=>
  cases (show u=Value.ref a from rx)
  obtain⟨_,_,n,_,h1⟩:=(show cZ X.prog X.w H s.heap a (.lst xs)from I.aB a _ ea)
  exact Zo Vh I.gP ⟨_,h1,rfl⟩ e (fun z=>nomatch z) h
 | @fF a ob xs ea=>
  cases (show u=Value.ref a from rx)
  obtain⟨_,_,_,n,_,h1⟩:=(show cZ X.prog X.w H s.heap a (.fF ob (.lst xs))from I.aB a _ ea)
  exact Zo Vh I.gP ⟨_,h1,rfl⟩ e (fun z=>nomatch z) h
 | @tup a xs ea=>
  cases (show u=Value.ref a from rx)
  obtain⟨_,_,_,p⟩:=(show cZ X.prog X.w H s.heap a (.tup xs)from I.aB a _ ea)
  obtain⟨o,h1,h2,_⟩:=p
  exact Zo PySem.W.kitx_tuple I.gP ⟨o,h1,h2⟩ e (fun z=>nomatch z) h
 | @dK a ah ea=>
  cases (show u=Value.ref a from rx)
  obtain⟨_,_,vs,_,p⟩:=(show cZ X.prog X.w H s.heap a (.dK ah)from I.aB a _ ea)
  obtain⟨o,es,ep,h1,h2,_⟩:=p
  exact Zo PySem.W.kitx_dict I.gP ⟨o,h1,h2.1⟩ e (fun z=>nomatch z) h
 | @dT a ah ea=>
  cases (show u=Value.ref a from rx)
  obtain⟨_,_,xs,_,o,es,ep,h1,h2,_⟩:=(show cZ X.prog X.w H s.heap a (.dT ah)from I.aB a _ ea)
  exact Zo PySem.W.kitx_dict I.gP ⟨o,h1,h2.1⟩ e (fun z=>nomatch z) h
 | @ins a C dx fs ea cl ha hn uQ hm=>
  cases (show u=Value.ref a from rx)
  obtain⟨mA,O,_⟩:=tq I.aB ea
  obtain⟨od,J,_⟩:=O.look
  exact Zo (PySem.W.kitx_own (cl.get _) cl.hd ha hn uQ hm) I.gP J e (fun z=>nomatch z) h
end
structure a_ (k:Nat) (A:Around):Prop where
 hd:A.handled=none
 dp:A.depth+3*k+5<recursionLimit
 un:A.units+16*k+200<cLine
theorem a_.mono{k:Nat}(r:a_ k A)(h:j<=k):a_ j A:=⟨r.hd,by have:=r.dp;omega,by have:=r.un;omega⟩
theorem a_.deeper{k:Nat}(r:a_ (k+1) A)(env:Env):a_ k (A.deeper env):=
 ⟨r.hd,by have:=r.dp;show A.depth+1+3*k+5<_;omega,by have:=r.un;show A.units+3+16*k+200<_;omega⟩
theorem a_.depth{k:Nat}(r:a_ k A):A.depth<recursionLimit:=by have:=r.dp;omega
theorem a_.units{k:Nat}(r:a_ k A):A.units+64<cLine:=by have:=r.un;omega
def Ec:TA:=fun _ H Q=>Q [] H
def Ed (ta:TE)(tr:TA):TA:=fun σ H Q=>ta σ H fun x H1=>tr σ H1 fun xs H2=>Q (x::xs) H2
section
variable {X:Cx}{e:Expr}{es:List Expr}{te:TE}{t:TA}{pos:Pos}
theorem j5:PA X [] Ec:=fun _ _ _ _ H Q I h=>Yd ⟨[],H,I,.nil,h⟩
theorem i8(ha:PE X e te)(hr:PA X es t)(hs:starEach (e::es) X.env=(false,eval e X.env)::starEach es X.env:=by rfl):PA X (e::es) (Ed te t):=by
 intro pos pins s σ H Q I h
 rw[hs]
 show wpAny _ _ (spliced ((false,eval e X.env)::backTo pos (starEach es X.env))) _ _ s
 refine Z7 (aW (ha pins s σ H _ I h) fun u s1 ai=>?_)
 obtain⟨x,H1,I1,r1,q1⟩:=ai
 exact aW (hr pos pins s1 σ H1 _ I1 q1) fun us s2 ⟨xs,H2,I2,r2,q2⟩=>⟨x::xs,H2,I2,.cons r1 r2,q2⟩
def Mr (t:TA):TE:=fun σ H Q=>t σ H fun xs H1=>xs.length<=sizeLine/\∀ p,H1 p=none->Q (.ref p) (upd H1 p (.tup xs))
def Ms (t:TA):TE:=fun σ H Q=>t σ H fun xs H1=>xs.length<=sizeLine/\∀ p,H1 p=none->Q (.ref p) (upd H1 p (.lst xs))
theorem Mt{x1}(h:PA X es t):PE X (.Tuple es x1 pos) (Mr t):=by
 intro pins s σ H Q I hq
 refine wpAny_Tuple_spliced (aW (h pos pins s σ H _ I hq) fun us s1 ⟨xs,H1,I1,r,z,q⟩=>⟨by rw[<- r.length];exact z,?_⟩)
 have hf:H1 s1.heap.objs.size=none:=I1.aB.fresh (Qi _)
 refine⟨.ref s1.heap.objs.size,upd H1 s1.heap.objs.size (.tup xs),I1.laid (t':=s1.toks) (fun b u e=>Qd _ e) (Qi _) ?_,rfl,q _ hf⟩
 exact⟨z,us,r,⟨_,Qs _ rfl,rfl,⟨_,rfl⟩,rfl⟩⟩
theorem Mu(h:PA X es t):PE X (.List es pos) (Ms t):=by
 intro pins s σ H Q I hq
 refine wpAny_List_spliced (aW (h pos pins s σ H _ I hq) fun us s1 ⟨xs,H1,I1,r,z,q⟩=>⟨by rw[<- r.length];exact z,?_⟩)
 have hf:H1 s1.heap.objs.size=none:=I1.aB.fresh (Qi _)
 refine⟨.ref s1.heap.objs.size,upd H1 s1.heap.objs.size (.lst xs),I1.laid (t':=s1.toks) (fun b u e=>Qd _ e) (Qi _) ?_,rfl,q _ hf⟩
 exact⟨z,us,0,r,Qs _ rfl⟩
end
abbrev Sp:=List V->Hp->VK->XK->Prop
abbrev nj:=List Env->Hp->Shared->XK->Value->Shared->Prop
structure n6 (P:Program) (w:World) (K:PySem.W.Frag) (mg:Str->Option Value) (base:Heap) (A:Around) (outer:List Env) (s:Shared) (H:Hp):Prop where
 frames:A.frames=some outer
 mod:Mod K mg base
 bs:∀ b o,base.get? b=some o->s.heap.get? b=some o/\H b=none
 m_:base.objs.size<=s.heap.objs.size
 fY:s.heap.FunFrames base outer
 s_:∀ b∈jo outer,H b=none
 aB:de P w H s.heap
 bare:AllBare s.gens
def CE (outer:List Env)(P:Program)(w:World)(H:Hp)(s:Shared)(Q:VK)(u:Value)(s':Shared):Prop:=
 ∃ v H',s'.os=s.os/\AllBare s'.gens/\Un (jo outer) [] H H' s.heap s'.heap/\de P w H' s'.heap/\bw v u/\Q v H'
def CR (CX:nj)(outer:List Env)(P:Program)(w:World)(H:Hp)(s:Shared)(Q:VK)(E:XK)(r:Result)(s':Shared):Prop:=
 match r with
 | .ok (.ret u)=>CE outer P w H s Q u s'
 | .ok _=>False
 | .error e=>CX outer H s E e s'
structure eG (P:Program) (w:World) (K:PySem.W.Frag) (mg:Str->Option Value) (base:Heap) (CX:nj) (k:Nat) (f:Addr) (fd:FuncData) (ps:List Str) (sp:Sp):Prop where
 len:∀ vs H Q E,sp vs H Q E->vs.length=ps.length
 run:∀ (A:Around) (outer:List Env) (s:Shared) (H:Hp) (args:Args) (us:List Value) (vs:List V) (Q:VK) (E:XK),a_ k A->n6 P w K mg base A outer s H->BindsTo s fd args (ps.zip us)->bc vs us->sp vs H Q E->
  codeAny (model P w) A (.call (.ref f) args) (CR CX outer P w H s Q E) s
section
variable {X:Cx}{pins:List (Addr×Obj)}{σ:St}{H:Hp}{s s':Shared}
theorem Inv.Ah(I:Inv X pins σ H s):n6 X.prog X.w X.K X.mg X.base X.A X.stack s H:=
 ⟨I.ok.frames,I.ok.mod,I.bs,QL I.ok.m_ I.sz,I.stack,I.jZ,I.aB,I.bare⟩
theorem Inv.after{Q:VK}(I:Inv X pins σ H s)(h:CE X.stack X.prog X.w H s Q u s'):EP X pins σ Q u s':=by
 obtain⟨v,H',os,bare,un,aB,r,q⟩:=h
 obtain⟨hh,g,d,t,Ai⟩:=s'
 obtain rfl:Ai=s.os:=os
 exact⟨v,H',I.call (h':=hh) (g':=g) (d':=d) (t':=t) (ch:=[]) un aB bare (fun b z=>absurd z (by simp)),r,q⟩
end
def Mv (sp:Sp)(pG:List V)(E:XK)(t:TA):TE:=fun σ H Q=>t σ H fun vs H1=>sp (vs++pG) H1 Q E
def pH (K:PySem.W.Frag)(fd:FuncData)(ps:List Str)(ds:List Value):Prop:=
 ∀ (s:Shared) (us:List Value),K.In s.heap->(us++ds).length=ps.length->BindsTo s fd ⟨us,[]⟩ (ps.zip (us++ds))
theorem pH.all{fd:FuncData}(h:∀ us:List Value,us.length=ps.length->bindArgs fd ⟨us,[]⟩=pure (ps.zip us)):pH K fd ps []:=fun s us _ hl=>by
 rw[ZX]at hl ⊢
 exact .of_eq (h us hl)
def xD (CX:nj)(X:Cx)(E:XK):Prop:=∀ (pins:List (Addr×Obj)) (σ:St) (H:Hp) (s:Shared) (e:Value) (s':Shared),Inv X pins σ H s->CX X.stack H s E e s'->X.xe e s'
section
variable {X:Cx}{CX:nj}{k:Nat}{f C:Addr}{fd:FuncData}{ps:List Str}{sp:Sp}{pG:List V}{ds:List Value}{E:XK}{x m:Str}{p pos apos:Pos}{e o:Expr}{es:List Expr}{ta:TE}{t:TA}
theorem Mw{σ:St}{H:Hp}{Q:VK}{vs:List V}(F:eG X.prog X.w X.K X.mg X.base CX k f fd ps sp)(hr:a_ k X.A)(hb:pH X.K fd ps ds)(hd:bc pG ds)(hx:xD CX X E)
  (I:Inv X pins σ H s) (r:bc vs us) (h:sp (vs++pG) H Q E):wpAny (model X.prog X.w) X.A (call (.ref f) us) (EP X pins σ Q) X.xe s:=by
 have r2:bc (vs++pG) (us++ds):=r.append hd
 have hl:(us++ds).length=ps.length:=by rw[<- r2.length];exact F.len _ _ _ _ h
 refine wpAny_call (Ye (F.run X.A X.stack s H ⟨us,[]⟩ (us++ds) (vs++pG) Q E hr I.Ah (hb s us I.gP hl) r2 h) fun r s' hq=>?_)
 cases r with
 | error e=>exact hx pins σ H s e s' I hq
 | ok fl=>
  cases fl with
  | ret u=>exact I.after hq
  | next=>exact False.elim hq
  | brk=>exact False.elim hq
  | cont=>exact False.elim hq
theorem Ee(F:eG X.prog X.w X.K X.mg X.base CX k f fd ps sp)(hr:a_ k X.A)(hg:Gl X x)(hm:X.mg x=some (.ref f))(hk:PySem.W.keepIn X.K (.ref f)=true)(hb:pH X.K fd ps ds)(hd:bc pG ds)(hx:xD CX X E)
  (ha:PA X (e::es) t) (lO:(x==("__debug__":Str))=false:=by decide) (he:starEach (e::es) X.env=(false,eval e X.env)::starEach es X.env:=by rfl) (bS:(backTo pos (starEach es X.env)).any (·.1)=false:=by rfl) :
  PE X (.Call (.Name x p) (e::es) [] pos) (Mv sp pG E t):=by
 intro pins s σ H Q I h
 refine Y3 (Lc I hg hm ?_ lO)
 refine PySem.W.callWith_K (h₀:=X.base) I.ok.mod.zM hk (aW (ha pos pins s σ H _ I h) fun us s1 ⟨vs,H1,I1,r,q⟩=>⟨I1.gP,?_⟩) he bS
 exact Mw F hr hb hd hx I1 r q
structure Mk (K:PySem.W.Frag) (C f:Addr):Prop where
 makes:PySem.W.makesIn K C=true
 init:PySem.W.findIn K (.ref C) "__init__" = some (some (.ref f))
 fn:PySem.W.isFn K (.ref f)=true
 kp:PySem.W.keepIn K (.ref C)=true
end
structure af (N P:List Str) (sc:Scope):Prop where
 kind:sc.kind=.function
 co:sc.isCoroutine=false
 gen:sc.isGenerator=false
 nd:N.Nodup
 pre:N.take P.length=P
 par:∀ x∈P,sc.names.lookup x=some .local\/sc.names.lookup x=some .cell
 qU:∀ y∈sc.names,y.2 ≠ .free
theorem cK{P:List Str}(h:N.Nodup/\(∀ x∈P,sc.names.lookup x=some .local\/sc.names.lookup x=some .cell)/\∀ y∈sc.names,y.2 ≠ .free)(a:sc.kind=.function:=by rfl)(b:sc.isCoroutine=false:=by rfl)(c:sc.isGenerator=false:=by rfl)(d:N.take P.length=P:=by rfl):af N P sc:=⟨a,b,c,h.1,d,h.2.1,h.2.2⟩
theorem Ef:∀ {binds:List (Str×Value)} {m:Str->Option Value},(∀ v,(x,v) ∉ binds)->bindL kindOf binds m x=m x
 | [],_,_=>rfl
 | (n,v)::r,m,h=>by
  unfold bindL
  rw[Ef fun w hw=>h w (Qg _ hw)]
  split
  ·have:x≠n:=by rintro rfl;exact h v Qh
   simp[this]
  ·rfl
theorem Eg:∀ {binds:List (Str×Value)} {m:Str->Option Value},(∀ v,(x,v) ∉ binds)->bindC kindOf binds m x=m x
 | [],_,_=>rfl
 | (n,v)::r,m,h=>by
  unfold bindC
  rw[Eg fun w hw=>h w (Qg _ hw)]
  split
  ·rfl
  ·have:x≠n:=by rintro rfl;exact h v Qh
   simp[this]
theorem Eh:∀ {P:List Str} {vs:List Value} {i:Nat} {m:Str->Option Value},P.Nodup->P[i]? = some x->vs[i]? = some v->kindOf x=some .local->
  bindL kindOf (P.zip vs) m x=some v
 | [],_,_,_,_,h,_,_=>by simp at h
 | _::_,[],_,_,_,_,h,_=>by simp at h
 | p::P,w::vs,0,m,nd,h1,h2,hk=>by
  simp at h1 h2;subst h1;subst h2
  show bindL kindOf ((p,w)::P.zip vs) m p=_
  unfold bindL
  rw[Ef fun v hv=>(Q7.mp nd).1 (YI hv).1,Qj hk]
  simp
 | p::P,w::vs,i+1,m,nd,h1,h2,hk=>by
  show bindL kindOf ((p,w)::P.zip vs) m x=_
  unfold bindL
  exact Eh (i:=i) (Q7.mp nd).2 (by simpa using h1) (by simpa using h2) hk
theorem Ei:∀ {P:List Str} {vs:List Value} {i:Nat} {m:Str->Option Value},P.Nodup->P[i]? = some x->vs[i]? = some v->kindOf x≠some .local->
  bindC kindOf (P.zip vs) m x=some v
 | [],_,_,_,_,h,_,_=>by simp at h
 | _::_,[],_,_,_,_,h,_=>by simp at h
 | p::P,w::vs,0,m,nd,h1,h2,hk=>by
  simp at h1 h2;subst h1;subst h2
  show bindC kindOf ((p,w)::P.zip vs) m p=_
  unfold bindC
  rw[Eg fun v hv=>(Q7.mp nd).1 (YI hv).1,Qk hk]
  simp
 | p::P,w::vs,i+1,m,nd,h1,h2,hk=>by
  show bindC kindOf ((p,w)::P.zip vs) m x=_
  unfold bindC
  exact Ei (i:=i) (Q7.mp nd).2 (by simpa using h1) (by simpa using h2) hk
def start (N:List Str)(vs:List V):St:=vs.map some++List.replicate (N.length-vs.length) none
def lP (CX:nj)(P:Program)(w:World)(K:PySem.W.Frag)(mg:Str->Option Value)(base:Heap)(N:List Str)(qual:Str)(scope:Scope)(f:Addr)(cd:Value)(A:Around)(outer:List Env)(s:Shared)(H:Hp)(E:XK):Cx where
 prog:=P
 w:=w
 K:=K
 mg:=mg
 base:=base
 A:=A.deeper (envOfC qual scope s.heap.objs.size f cd)
 N:=N
 cm:=s
 iu:=H
 env:=envOfC qual scope s.heap.objs.size f cd
 outer:=outer
 stack:=envOfC qual scope s.heap.objs.size f cd::outer
 ex:=[]
 calm:=true
 fn:=fun _=>true
 pn:=[]
 xe:=fun e s'=>wpAny (model P w) (A.deeper (envOfC qual scope s.heap.objs.size f cd)) (leaving (envOfC qual scope s.heap.objs.size f cd) e) (fun _ pI=>CX outer H s E e pI) (fun e' pI=>CX outer H s E e' pI) s'
theorem Ej(h:sc.names.lookup x=some .cell):∃ c,(cellsFrom n sc.names []).lookup x=some c:=by
 have q:=Jx sc.names n [] (.inl h)
 exact Jp.mp q
theorem Mx{CX:nj}{f:Addr}{cd:Value}{outer:List Env}{s1:Shared}{H:Hp}{E:XK}{vs:List V}
  (S:af N ps scope) (hd:A.handled=none) (e0:n6 P w K mg base A outer s H) (hl:vs.length=ps.length) (r:bc vs us)
  (x:InCallC s s.heap.objs.size (bindL (envOfC qual scope s.heap.objs.size f cd).kindOf (ps.zip us) fun _=>none) (cellsFrom (s.heap.objs.size+1) scope.names []) (bindC (envOfC qual scope s.heap.objs.size f cd).kindOf (ps.zip us) fun _=>none) s1) :
  Inv (lP CX P w K mg base N qual scope f cd A outer s H E) [] (start N vs) H s1:=by
 have bS:ps.length<=N.length:=by have:=ZQ List.length S.pre;rw[Za]at this;omega
 obtain⟨h1,tk,rfl,hk⟩:=x.done
 have uR:∀ b:Addr,b ∉ (lP CX P w K mg base N qual scope f cd A outer s H E).ex:=fun b z=>absurd (show b∈([]:List Addr)from z) (by simp)
 refine⟨⟨e0.mod,S.kind,rfl,rfl,Qi _,fun y z c h1 h2=>?_,fun y hy=>?_,fun y c _ h=>?_,fun _=>hd,Around.frames_deeper e0.frames,.inr ⟨rfl,rfl⟩,fun b z=>absurd z (uR b),e0.bs,e0.m_,fun b _ _=>uR b,fun b z=>absurd z (uR b),e0.fY,e0.s_⟩,
  rfl,e0.bare,Un.kept hk,⟨_,x.toInCall.ns,fun i y v h1 h2 h3=>?_⟩,fun y c h=>⟨_,x.cell y c h⟩,e0.aB.fresh (Qi _),fun y c h=>?_,fun p hp=>absurd (show p∈([]:List (Addr×Obj))from hp) (by simp),e0.aB.kept hk,?_⟩
 ·exact name_of_addr x.apart (QU h1) (QU h2)
 ·have hy:scope.names.lookup y=some .cell\/scope.names.lookup y=some .free:=hy
  rcases hy with hy|hy
  ·exact Ej hy
  ·exact absurd rfl (S.qU _ (QU hy))
 ·exact ZI (x.above y c (QU h))
 ·have hi:i<vs.length:=by
   unfold start at h2
   by_cases hi:i<vs.length
   ·exact hi
   ·rw[Zp (by simpa using hi)]at h2
    rw[ZU]at h2
    split at h2<;>cases h2
  have ha:vs[i]? = some v:=by
   unfold start at h2
   rw[QW (by simpa using hi),Ql]at h2
   cases e:vs[i]? with
   | none=>rw[e]at h2;cases h2
   | some a=>rw[e]at h2;cases h2;rfl
  obtain⟨u,hu,rv⟩:=r.get ha
  have hp:ps[i]? = some y:=by
   rw[<- S.pre,ZP (by omega)];exact h1
  have Ek:ps.Nodup:=by rw[<- S.pre];exact S.nd.sublist (List.take_sublist _ _)
  refine⟨u,rv,?_⟩
  rcases S.par y (QC hp)with k|k
  ·exact .inl ⟨k,Eh Ek hp hu k⟩
  ·obtain⟨c,e⟩:=Ej (n:=s.heap.objs.size+1) k
   refine .inr ⟨.inl k,c,e,?_⟩
   have q:=x.cell y c e
   rw[Ei Ek hp hu (by show scope.names.lookup y≠_;rw[k];decide)]at q
   exact q
 ·exact e0.aB.fresh (ZI (x.above y c (QU h)))
 ·unfold start
  show _=N.length
  rw[Qn,Qc,ZE]
  omega
theorem Mz{CX:nj}{k:Nat}{f:Addr}{name:Str}{params:Arguments}{dV kV doc pm cz ct oc:Value}{an od:Option Addr}
  {n8:Array (Option Value)}  {sp:Sp} (lk:K.lookup f=some ⟨oc,od,.func (PySem.W.fnOf name qual params body scope dV kV doc pm an cz ct),n8⟩) (iA:PySem.W.codeIn K cz qual=true) (S:af N ps scope)
  (len:∀ vs H Q E,sp vs H Q E->vs.length=ps.length)
  (lQ:∀ (A:Around) (outer:List Env) (s:Shared) (H:Hp) (vs:List V) (Q:VK) (E:XK),a_ k (A.deeper (envOfC qual scope s.heap.objs.size f cz))->sp vs H Q E->
    ∃ t,iz (lP CX P w K mg base N qual scope f cz A outer s H E) body t/\t { nx:=fun _ H'=>Q .bo H',rt:=Q } (start N vs) H) :
  eG P w K mg base CX (k+1) f (PySem.W.fnOf name qual params body scope dV kV doc pm an cz ct) ps sp:=by
 refine⟨len,fun A outer s H args us vs Q E hr e0 hb r lg=>?_⟩
 have hl:=len _ _ _ _ lg
 have KX:K.In s.heap:=e0.mod.zM.keeps fun b o e=>(e0.bs b o e).1
 have lim:s.heap.NoLimit:=e0.mod.nolimit.keeps fun b o e=>(e0.bs b o e).1
 have uS:∀ y∈ps.zip us,scope.names.lookup y.1=some .local\/(scope.names.lookup y.1=some .cell/\((cellsFrom (s.heap.objs.size+1) scope.names []).lookup y.1).isSome=true):=fun⟨n,v⟩ hy=>by
  rcases S.par n (YI hy).1 with q|q
  ·exact .inl q
  ·exact .inr ⟨q,Jx _ _ _ (.inl q)⟩
 refine codeAny_call_function hr.depth (KX _ _ lk) rfl S.co S.gen rfl (PySem.W.codeRec_of KX iA) (hb _ _ _ _ ?_)
 refine wpAny_newFunctionEnv_cells S.kind uS fun env he s1 x=>?_
 subst he
 refine⟨lim.keeps x.toInCall.keep,codeAny_func ?_⟩
 obtain⟨t,ht,hq⟩:=lQ A outer s H vs Q E (hr.deeper _) lg
 have I:Inv (lP CX P w K mg base N qual scope f cz A outer s H E) [] (start N vs) H s1:=Mx S hr.hd e0 hl r x
 refine ZJ (ht [] s1 (start N vs) H _ I hq) (fun fl s' hs=>?_) fun e s' hs=>hs
 have fin:∀ {aK:St} {H':Hp} {v:V} {u:Value},Inv (lP CX P w K mg base N qual scope f cz A outer s H E) [] aK H' s'->bw v u->Q v H'->CE outer P w H s Q u s':=
  fun {aK H' v u} J rv q=>⟨v,H',J.os,J.bare,J.base,J.aB,rv,q⟩
 cases fl with
 | ret u=>
  obtain⟨v,aK,H',J,rv,q⟩:=hs
  exact fin J rv q
 | next=>
  obtain⟨aK,H',J,q⟩:=hs
  exact fin (v:=V.bo) (u:=Value.none) J rfl q
 | brk=>
  obtain⟨_,_,_,q⟩:=hs
  exact False.elim q
 | cont=>
  obtain⟨_,_,_,q⟩:=hs
  exact False.elim q
section
variable {X:Cx}{x:Str}{p pos:Pos}{e:Expr}{es:List Expr}{t:TA}{id T:String}{r:List V->Hp->VK->Prop}
def xE (r:List V->Hp->VK->Prop)(t:TA):TE:=fun σ H Q=>t σ H fun vs H1=>r vs H1 Q
theorem n9(hc:jt X (.builtin id) r)(hg:Gl X x)(hm:X.mg x=none)(hv:bootBuiltins x=some (.builtin id))(ha:PA X (e::es) t)(hn:x ≠ "__name__":=by decide)(lO:(x==("__debug__":Str))=false:=by decide)
  (he:starEach (e::es) X.env=(false,eval e X.env)::starEach es X.env:=by rfl) (bS:(backTo pos (starEach es X.env)).any (·.1)=false:=by rfl):PE X (.Call (.Name x p) (e::es) [] pos) (xE r t):=by
 intro pins s σ H Q I h
 refine Y3 (tj I hg hm hv ?_ hn lO)
 exact PyProof.Rows.callWith_builtin1 (aW (ha pos pins s σ H _ I h) fun us s1 ⟨vs,H1,I1,r1,q1⟩=>hc pins s1 σ H1 vs us Q I1 r1 q1) he bS
theorem pJ(hc:jt X (.type T) r)(hg:Gl X x)(hm:X.mg x=none)(hv:bootBuiltins x=some (.type T))(ha:PA X (e::es) t)(hn:x ≠ "__name__":=by decide)(lO:(x==("__debug__":Str))=false:=by decide)
  (he:starEach (e::es) X.env=(false,eval e X.env)::starEach es X.env:=by rfl) (bS:(backTo pos (starEach es X.env)).any (·.1)=false:=by rfl):PE X (.Call (.Name x p) (e::es) [] pos) (xE r t):=by
 intro pins s σ H Q I h
 refine Y3 (tj I hg hm hv ?_ hn lO)
 exact Z3 (aW (ha pos pins s σ H _ I h) fun us s1 ⟨vs,H1,I1,r1,q1⟩=>hc pins s1 σ H1 vs us Q I1 r1 q1) he bS
end
end L2
namespace HT
open PySem PyProof.Rows
variable {Q:Value->Shared->Prop}{hi lo:Option Int}{sl:Addr}{vl vu:Value}
section
open PySem.SeqAt
open PySem.AutoSeq1 (wpAny_loadPart')
open PySem.MeetsSeq PySem.MeetsSeq2 PySem.MeetsSeq3
end
section
variable {prog:Program}{w:World}{A:Around}{E:Value->Shared->Prop}{s:Shared}
theorem MA{t b:Addr}{vs ws:List Value}(ht:IsTup s.heap t vs.toArray)(hb:IsTup s.heap b ws.toArray)(hv:vs ≠ [])
  (h1:ws=[]->Q (.ref t) s) (h2:ws ≠ []->Q (.ref s.heap.objs.size) { s with heap:=s.heap.push { cls:=.type "tuple",data:=.seq (vs++ws).toArray } })
  (hsz:vs.length+ws.length<=sizeLine):wpAny (model prog w) A (binaryOp .Add (.ref t) (.ref b)) Q E s:=by
 obtain⟨⟨cls,dd,data,sl⟩,ho,hc,n,hd⟩:=id ht
 obtain⟨⟨Aj,tw,data2,xF⟩,qV,nq,n2,hd2⟩:=id hb
 simp only at hc hd nq hd2
 subst hc hd nq hd2
 have e:vs.toArray++ws.toArray=(vs++ws).toArray:=by simp
 by_cases hw:ws=[]
 ·exact VC ⟨_,ho,rfl⟩ ⟨_,qV,rfl⟩ Vu seq_tuple_add Yf J7 (JW _ _)
   (tuple_addW1 t b vs.toArray ws.toArray n n2 dd tw sl xF (by simpa using hv) (by simp[hw])) ⟨ho,qV,h1 hw⟩
 ·refine VC ⟨_,ho,rfl⟩ ⟨_,qV,rfl⟩ Vu seq_tuple_add Yf J7 (JW _ _)
   (tuple_addW2 t b vs.toArray ws.toArray n n2 dd tw sl xF (by simpa using hv) (by simpa using hw) (by rw[Qm,Qm];exact hsz)) ⟨ho,qV,?_⟩
  rw[e]
  exact h2 hw
def bp (n d:Nat):Option Int->Nat
 | none=>d
 | some v=>if v<0 then(v+(n:Int)).toNat else min v.toNat n
theorem MB(n d:Nat)(hd:d<=n)(o:Option Int):bp n d o<=n:=by
 cases o with
 | none=>exact hd
 | some v=>
  show(if v<0 then(v+(n:Int)).toNat else min v.toNat n)<=n
  by_cases hv:v<0
  ·rw[Qj hv];omega
  ·rw[Qk hv];exact Nat.min_le_right _ _
theorem El(v:Int)(n d:Nat):(if v<0 then max (v+(n:Int)) 0 else min v (n:Int))=((bp n d (some v):Nat):Int):=by
 show(if v<0 then max (v+(n:Int)) 0 else min v (n:Int))=(((if v<0 then(v+(n:Int)).toNat else min v.toNat n):Nat):Int)
 by_cases hv:v<0
 ·simp only[Qj hv];omega
 ·simp only[Qk hv];omega
theorem MC(lo hi:Option Int)(n:Nat):Builtin.Slice.sliceAdjust lo hi 1 (n:Int)=(((bp n 0 lo:Nat):Int),((bp n n hi:Nat):Int)):=by
 have h1:¬ ((1:Int)<0):=by omega
 unfold Builtin.Slice.sliceAdjust
 simp only[h1,Zl]
 refine VW ?_ ?_
 ·cases lo with
  | none=>rfl
  | some v=>exact El v n 0
 ·cases hi with
  | none=>rfl
  | some v=>exact El v n n
theorem MD(i j:Nat):Builtin.Slice.slicePlaces (i:Int) (j:Int) 1=j-i:=by
 unfold Builtin.Slice.slicePlaces
 have h1:(1:Int) > 0:=by omega
 simp only[h1,Zz,Int.ediv_one]
 split<;>omega
theorem Em{v:Value}{o:Option Int}{Q:Option Int->Shared->Prop}(p:IsPart v o)(h:Q o s):wpAny (model prog w) A (Builtin.Slice.slicePartIndex v) Q E s:=by
 cases p with
 | none=>exact slicePart_none h
 | int i t=>exact slicePart_int h
theorem En{n:Nat}{Q:Int×Int×Nat->Shared->Prop}(hs:s.heap.IsSliceOf sl vl vu .none)(pl:IsPart vl lo)(pu:IsPart vu hi)
  (h:Q (((bp n 0 lo:Nat):Int),1,bp n n hi-bp n 0 lo) s):wpAny (model prog w) A (Builtin.Slice.sliceApplied (.ref sl) (pure (n:Int))) Q E s:=by
 obtain⟨os,qW,xG,uT⟩:=id hs
 unfold Builtin.Slice.sliceApplied Builtin.Slice.sliceFields
 refine Qa (Qa (J8 qW uT (x:=vl) rfl (Qa (J8 qW uT (x:=vu) rfl (Qa (J8 qW uT (x:=.none) rfl (Qe ?_)))))))
 refine Qa (slicePart_none ?_)
 show wpAny _ _ (if((1:Int)==0)=true then _ else _) _ _ s
 rw[Qk (by decide)]
 refine Qa (Em pl (Qa (Em pu (Qa (Qe ?_)))))
 show wpAny _ _ (match Builtin.Slice.sliceAdjust lo hi 1 (n:Int)with|(lo,hi)=>pure (lo,(1:Int),Builtin.Slice.slicePlaces lo hi 1)) _ _ s
 rw[MC lo hi n]
 show wpAny _ _ (pure (((bp n 0 lo:Nat):Int),(1:Int),Builtin.Slice.slicePlaces ((bp n 0 lo:Nat):Int) ((bp n n hi:Nat):Int) 1)) _ _ s
 rw[MD]
 exact Qe h
theorem ME(xs:Array Value)(i k:Nat):((List.range k).filterMap fun(m:Nat)=>xs[((i:Int)+(m:Int)*1).toNat]?).toArray=((xs.toList.drop i).take k).toArray:=by
 have e:(fun(m:Nat)=>xs[((i:Int)+(m:Int)*1).toNat]?)=fun m=>xs[i+m]?:=by
  funext m
  have:((i:Int)+(m:Int)*1).toNat=i+m:=by omega
  rw[this]
 rw[e]
 have:=pick_run xs i k
 rw[List.filterMap_map]at this
 have e2:((fun x=>xs[x]?) ∘ fun x=>i+x)=fun m=>xs[i+m]?:=rfl
 rw[e2]at this
 rw[this]
theorem MF{t:Addr}{items:Array Value}(ht:IsTup s.heap t items)(hs:s.heap.IsSliceOf sl vl vu .none)(pl:IsPart vl lo)(pu:IsPart vu hi)
  (hw:¬ (bp items.size 0 lo=0/\bp items.size items.size hi=items.size))
  (h:Q (.ref s.heap.objs.size) { s with heap:=s.heap.push { cls:=.type "tuple",data:=.seq ((items.toList.drop (bp items.size 0 lo)).take (bp items.size items.size hi-bp items.size 0 lo)).toArray } })
  (hsz:items.size<=sizeLine):wpAny (model prog w) A (getItem (.ref t) (.ref sl)) Q E s:=by
 have j6:sizeOk (.seq ((items.toList.drop (bp items.size 0 lo)).take (bp items.size items.size hi-bp items.size 0 lo)).toArray):=by
  show((items.toList.drop (bp items.size 0 lo)).take (bp items.size items.size hi-bp items.size 0 lo)).toArray.size<=sizeLine
  rw[Qm,Za,ZO,QN]
  omega
 have hj:bp items.size items.size hi<=items.size:=MB _ _ (Qi _) hi
 obtain⟨os,qW,xG,uT⟩:=id hs
 have MG:s.TypeIs (.ref sl) "slice":=⟨os,qW,xG⟩
 unfold getItem
 try with_reducible refine Q4 ?_
 first|refine Qa (Qe ?_)|skip
 refine Qa (wpAny_sequenceKey ht.typeIs (by decide) ?_)
 refine Qa (Zq (name:=Str.ofString "__getitem__") ht.typeIs Zm
  (Zg Zm ht.typeIs entry_tuple_getitem ?_ (args_tuple_getitem _ _)))
 show wpAny _ _ (Builtin.Tuple.tupleItemsOf (.ref t) >>= _) _ _ s
 refine Qa (tupleItemsOf_ ht ?_)
 refine Qa (JP MG ?_)
 rw[Qj (by decide)]
 refine Qa (En hs pl pu ?_)
 have Ak:¬ ((((bp items.size 0 lo:Nat):Int)==0&&(1:Int)==1&&(bp items.size items.size hi-bp items.size 0 lo)==items.size)=true):=by
  intro q
  rw[Yt,Yt]at q
  have q1:((bp items.size 0 lo:Nat):Int)=0:=eq_of_beq q.1.1
  have q2:bp items.size items.size hi-bp items.size 0 lo=items.size:=eq_of_beq q.2
  exact hw ⟨by omega,by omega⟩
 show wpAny _ _ (if(((bp items.size 0 lo:Nat):Int)==0&&(1:Int)==1&&(bp items.size items.size hi-bp items.size 0 lo)==items.size)=true then _ else _) _ _ s
 rw[Qk Ak,ME]
 first
  | exact Qa (m:=Builtin.Tuple.tupleExact _) (Q6 (Qe ⟨_,rfl,Qe h⟩) j6)
  | exact Qa (m:=Builtin.Tuple.tupleExact _) (Q6 (Qa (Qe (Qe ⟨_,rfl,Qe h⟩))) j6)
  | exact Qa (Qa (m:=Builtin.Tuple.tupleExact _) (Q6 (Qe (Qe ⟨_,rfl,Qe h⟩)) j6))
  | exact Qa (Qa (m:=Builtin.Tuple.tupleExact _) (Q6 (Qe ⟨_,rfl,Qe h⟩) j6))
end
end HT
namespace L2
open PySem PySem.Spec PyProof.Rows
variable {H:Hp}{i:Int}{n:Nat}{pins:List (Addr×Obj)}{r:V->Option Int->Option Int->Hp->VK->Prop}{s:Shared}{us:List Value}{xs:List V}{σ:St}
abbrev TO:=St->Hp->(Option Int->Hp->Prop)->Prop
def PO (X:Cx)(e:Option Expr)(t:TO):Prop:=
 ∀ (pins:List (Addr×Obj)) (s:Shared) (σ:St) (H:Hp) (Q:Option Int->Hp->Prop),Inv X pins σ H s->t σ H Q->
  wpAny (model X.prog X.w) X.A (evalPart e X.env) (fun u s'=>∃ o H',Inv X pins σ H' s'/\IsPart u o/\Q o H') X.xe s
def MH:TO:=fun _ H Q=>Q none H
def MI (t:TE):TO:=fun σ H Q=>t σ H fun x H1=>∃ i,x=.int i/\Q (some i) H1
section
variable {X:Cx}{e:Expr}{te:TE}{lo hi:Option Expr}{tl th:TO}{pos p2:Pos}
theorem MJ:PO X none MH:=by
 intro pins s σ H Q I h
 rw[evalPart_none]
 exact Qe ⟨none,H,I,.none,h⟩
theorem ML(h:PE X e te):PO X (some e) (MI te):=by
 intro pins s σ H Q I hw
 rw[evalPart_some]
 refine aW (h pins s σ H _ I hw) fun u s1 ai=>?_
 obtain⟨x,H1,I1,r1,q1⟩:=ai
 obtain⟨i,rfl,q⟩:=q1
 obtain⟨t,rfl⟩:=r1
 exact⟨some i,H1,I1,.int i t,q⟩
def pK (X:Cx)(r:V->Option Int->Option Int->Hp->VK->Prop):Prop:=
 ∀ (pins:List (Addr×Obj)) (s:Shared) (σ:St) (H:Hp) (x:V) (v vl vu:Value) (lo hi:Option Int) (sl:Addr) (Q:VK),Inv X pins σ H s->bw x v->s.heap.IsSliceOf sl vl vu .none->IsPart vl lo->IsPart vu hi->r x lo hi H Q->
  ∃ T id,typeLookup (.type T) "__getitem__" = pure (some (.builtin id))/\s.TypeIs v T/\wpAny (model X.prog X.w) X.A (getItem v (.ref sl)) (EP X pins σ Q) X.xe s
theorem pK.or{r':V->Option Int->Option Int->Hp->VK->Prop}(h:pK X r)(h':pK X r'):pK X (fun x lo hi H Q=>r x lo hi H Q\/r' x lo hi H Q):=by
 intro pins s σ H x v vl vu lo hi sl Q I rx hs pl pu q
 rcases q with q|q
 ·exact h pins s σ H x v vl vu lo hi sl Q I rx hs pl pu q
 ·exact h' pins s σ H x v vl vu lo hi sl Q I rx hs pl pu q
def MM (r:V->Option Int->Option Int->Hp->VK->Prop)(te:TE)(tl th:TO):TE:=fun σ H Q=>te σ H fun x H1=>tl σ H1 fun l H2=>th σ H2 fun u H3=>r x l u H3 Q
theorem MN(hr:pK X r)(he:PE X e te)(hl:PO X lo tl)(hu:PO X hi th):PE X (.Subscript e (.Slice lo hi none p2) pos) (MM r te tl th):=by
 intro pins s σ H Q I h
 refine Subscript_ (aW (he pins s σ H _ I h) fun v s1 ai=>?_)
 obtain⟨x,H1,I1,r1,q1⟩:=ai
 refine wpAny_Slice (aW (hl pins s1 σ H1 _ I1 q1) fun vl s2 ⟨l,H2,I2,pl,q2⟩=>aW (hu pins s2 σ H2 _ I2 q2) fun vu s3 ai=>?_)
 obtain⟨u,H3,I3,pu,q3⟩:=ai
 rw[evalPart_none]
 refine Qe ?_
 have I4:Inv X pins σ H3 { s3 with heap:=s3.heap.push { cls:=.type "slice",data:=.fields #[vl,vu,.none] } }:=I3.kept (t':=s3.toks) fun b ob q=>Qd _ q
 obtain⟨T,id,hT,ht,hg⟩:=hr pins { s3 with heap:=s3.heap.push { cls:=.type "slice",data:=.fields #[vl,vu,.none] } } σ H3 x v vl vu l u s3.heap.objs.size Q I4 r1 (Heap.IsSliceOf.new ..) pl pu q3
 show wpAny (model X.prog X.w) X.A (subscriptTail e (.Slice lo hi none p2) v (.ref s3.heap.objs.size)) (EP X pins σ Q) X.xe { s3 with heap:=s3.heap.push { cls:=.type "slice",data:=.fields #[vl,vu,.none] } }
 exact tail_any (ops:=[.ref s3.heap.objs.size,v]) ht hT hg (by with_unfolding_all rfl)
def pL (xs:List V)(lo hi:Option Int):List V:=(xs.drop (HT.bp xs.length 0 lo)).take (HT.bp xs.length xs.length hi-HT.bp xs.length 0 lo)
theorem Eo(xs:List V)(lo hi:Option Int):(pL xs lo hi).length<=xs.length:=by
 unfold pL
 rw[Za,ZO]
 omega
def MO (K:PySem.W.Frag):V->Option Int->Option Int->Hp->VK->Prop:=fun x lo hi H Q=>∃ a xs,x=.ref a/\cR K H a xs /\
 ¬ (HT.bp xs.length 0 lo=0/\HT.bp xs.length xs.length hi=xs.length)/\∀ p,H p=none->Q (.ref p) (upd H p (.tup (pL xs lo hi)))
theorem MP:pK X (MO X.K):=by
 intro pins s σ H x v vl vu lo hi sl Q I rx hs pl pu h
 obtain⟨a,xs,rfl,hx,hw,q⟩:=h
 cases rx
 obtain⟨aj,r,ht,hz⟩:=I.tuple hx
 have hlen:aj.toArray.size=xs.length:=by rw[Qm];exact r.length.symm
 refine⟨"tuple",_,Zm.lookup,ht.typeIs,?_⟩
 refine HT.MF ht hs pl pu (by rw[hlen];exact hw) ?_ (by rw[hlen];exact hz)
 rw[hlen]
 refine⟨.ref s.heap.objs.size,_,I.laid (t':=s.toks) (o:=.tup (pL xs lo hi)) (fun b ob q=>Qd _ q) (Qi _) ?_,rfl,q _ (I.aB.fresh (Qi _))⟩
 exact⟨QL (Eo xs lo hi) hz,_,(r.drop (HT.bp xs.length 0 lo)).take (HT.bp xs.length xs.length hi-HT.bp xs.length 0 lo),kH.new _ _⟩
def MQ (K:PySem.W.Frag):R2:=fun x y H Q=>∃ a b xs ys,x=.ref a/\y=.ref b/\cR K H a xs/\cR K H b ys/\xs ≠ []/\xs.length+ys.length<=sizeLine /\
 (ys=[]->Q (.ref a) H)/\(ys ≠ []->∀ p,H p=none->Q (.ref p) (upd H p (.tup (xs++ys))))
theorem bc.iB(r:bc xs us):us=[] ↔ xs=[]:=by
 cases r with
 | nil=>simp
 | cons _ _=>simp
theorem MR:df X (binaryOp .Add) (MQ X.K):=by
 intro pins s σ H x y v u Q I rx ry h
 obtain⟨a,b,xs,ys,rfl,rfl,ha,hb,hx,hz,q1,q2⟩:=h
 cases rx
 cases ry
 obtain⟨aj,r1,p1,_⟩:=I.tuple ha
 obtain⟨gR,r2,p2,_⟩:=I.tuple hb
 refine HT.MA p1 p2 (fun z=>hx (r1.iB.mp z)) (fun z=>⟨.ref a,H,I,rfl,q1 (r2.iB.mp z)⟩) (fun z=>?_) (by rw[<- r1.length,<- r2.length];exact hz)
 refine⟨.ref s.heap.objs.size,_,I.laid (t':=s.toks) (o:=.tup (xs++ys)) (fun b ob q=>Qd _ q) (Qi _) ?_,rfl,q2 (fun w=>z (r2.iB.mpr w)) _ (I.aB.fresh (Qi _))⟩
 exact⟨by rw[Qn];exact hz,_,r1.append r2,kH.new _ _⟩
end
def ib (n:Nat)(i:Int):Option Nat:=if 0<=i then(if i<n then some i.toNat else none)else if -(n:Int)<=i then some (i+n).toNat else none
def dC {α:Type}(xs:List α)(i:Int):Option α:=(ib xs.length i).bind fun j=>xs[j]?
theorem Al{j:Nat}(h:ib n i=some j):seqIndex? i n=some j/\j<n /\ -(n:Int)<=i/\i<n:=by
 unfold ib at h
 by_cases h0:0<=i
 ·rw[Qj h0]at h
  by_cases h1:i<n
  ·rw[Qj h1]at h
   have e:i.toNat=j:=QH h
   exact⟨by rw[seqIndex_of h0 h1,e],by omega,by omega,h1⟩
  ·rw[Qk h1]at h;cases h
 ·rw[Qk h0]at h
  by_cases h1:-(n:Int)<=i
  ·rw[Qj h1]at h
   have e:(i+n).toNat=j:=QH h
   exact⟨by rw[seqIndex_neg (by omega) h1,e],by omega,h1,by omega⟩
  ·rw[Qk h1]at h;cases h
theorem Am{α:Type}{xs:List α}{v:α}(h:dC xs i=some v):∃ j,seqIndex? i xs.length=some j/\xs[j]? = some v/\j<xs.length /\ -(xs.length:Int)<=i/\i<xs.length:=by
 unfold dC at h
 cases e:ib xs.length i with
 | none=>rw[e]at h;cases h
 | some j=>
  rw[e]at h
  obtain⟨h1,h2,h3,h4⟩:=Al e
  exact⟨j,h1,h,h2,h3,h4⟩
def tz (b:Expr):Prop:=∀ o i,subscripted b false o i=operate [o,i] (getItem o i)
def n_ (X:Cx)(r:R2):Prop:=
 ∀ (value slice:Expr) (pins:List (Addr×Obj)) (s:Shared) (σ:St) (H:Hp) (x y:V) (v u:Value) (Q:VK),Inv X pins σ H s->bw x v->bw y u->r x y H Q->
  subscripted slice false v u=operate [v,u] (getItem v u)->wpAny (model X.prog X.w) X.A (subscriptTail value slice v u) (EP X pins σ Q) X.xe s
def Ep (X:Cx)(id:String)(r:V->List V->Hp->VK->Prop):Prop:=
 ∀ (pins:List (Addr×Obj)) (s:Shared) (σ:St) (H:Hp) (x:V) (xs:List V) (v:Value) (us:List Value) (Q:VK),Inv X pins σ H s->bw x v->bc xs us->r x xs H Q->
  wpAny (model X.prog X.w) X.A (call (.builtin id) (v::us)) (EP X pins σ Q) X.xe s
section
variable {X:Cx}{a b:Expr}{ta tb:TE}{pos:Pos}
theorem n_.or{r r':R2}(h:n_ X r)(h':n_ X r'):n_ X (fun x y H Q=>r x y H Q\/r' x y H Q):=by
 intro value slice pins s σ H x y v u Q I rx ry q hs
 rcases q with q|q
 ·exact h value slice pins s σ H x y v u Q I rx ry q hs
 ·exact h' value slice pins s σ H x y v u Q I rx ry q hs
theorem uU{r:R2}(hr:n_ X r)(ha:PE X a ta)(hb:PE X b tb)(hs:tz b):PE X (.Subscript a b pos) (j3 r ta tb):=by
 intro pins s σ H Q I h
 exact Subscript_ (Ad ha hb I h fun v u s2 x y H2 I2 rx ry q=>hr a b pins s2 σ H2 x y v u Q I2 rx ry q (hs _ _))
def Er (K:PySem.W.Frag):R2:=fun x y H Q=>∃ p xs i v,x=.ref p/\y=.int i/\cH K H p xs/\dC xs i=some v/\Q v H
def Es (K:PySem.W.Frag):R2:=fun x y H Q=>∃ p xs i v,x=.ref p/\y=.int i/\cR K H p xs/\dC xs i=some v/\Q v H
def Et:R2:=fun x y H Q=>∃ z i c,x=.str z/\y=.int i/\z.length<=sizeLine/\dC z.cps.toList i=some c/\Q (.str ⟨#[c]⟩) H
theorem MS:n_ X (Er X.K):=by
 intro value slice pins s σ H x y v u Q I rx ry h hs
 obtain⟨p,xs,i,z,rfl,rfl,hq,he,q⟩:=h
 cases rx
 obtain⟨t,rfl⟩:=ry
 obtain⟨aj,r,pl,hz⟩:=I.list hq
 obtain⟨j,h1,h2,h3,h4,h5⟩:=Am he
 obtain⟨w,ew,kJ⟩:=r.get h2
 have hl:=r.length
 have hn:=tm
 have fin:EP X pins σ Q w s:=⟨z,H,I,kJ,q⟩
 by_cases h0:0<=i
 ·have hj:i.toNat=j:=by
   rw[seqIndex_of h0 h5]at h1
   exact QH h1
  exact item_listR pl.isList h0 (by omega) (by rw[hj];simpa using ew) fin hs
 ·have hj:(i+(aj.toArray.size:Int)).toNat=j:=by
   rw[seqIndex_neg (by omega) h4]at h1
   rw[Qm,<- hl]
   exact QH h1
  exact subscriptTail_builtinR (x:=w) pl.isList.typeIs slot_list_getitem.lookup
   (wpAny_getItem_list_neg (Q:=fun r s'=>r=w/\EP X pins σ Q r s') pl.isList (by omega) (by rw[Qm]<;>omega) (by omega) (by rw[hj];simpa using ew) ⟨rfl,fin⟩) hs
theorem MT:n_ X (Es X.K):=by
 intro value slice pins s σ H x y v u Q I rx ry h hs
 obtain⟨p,xs,i,z,rfl,rfl,hq,he,q⟩:=h
 cases rx
 obtain⟨t,rfl⟩:=ry
 obtain⟨aj,r,pl,hz⟩:=I.tuple hq
 obtain⟨j,h1,h2,h3,h4,h5⟩:=Am he
 obtain⟨w,ew,kJ⟩:=r.get h2
 have hl:=r.length
 have hn:=tm
 have fin:EP X pins σ Q w s:=⟨z,H,I,kJ,q⟩
 exact subscriptTail_builtinR (x:=w) pl.typeIs slot_tuple_getitem.lookup
  (getItem_tuple (j:=j) (Q:=fun r s'=>r=w/\EP X pins σ Q r s') pl (by omega) (by omega) (by rw[Qm,<- hl];exact h1) (by simpa using ew) ⟨rfl,fin⟩) hs
theorem MU:n_ X Et:=by
 intro value slice pins s σ H x y v u Q I rx ry h hs
 obtain⟨z,i,c,rfl,rfl,hz,he,q⟩:=h
 obtain⟨t,rfl⟩:=rx
 obtain⟨t',rfl⟩:=ry
 obtain⟨j,h1,h2,h3,h4,h5⟩:=Am he
 have hl:z.cps.toList.length=z.length:=by simp[Str.length]
 rw[hl]at h1 h4 h5
 have hn:=tm
 exact tail_any (typeIs_str s z t) slot_str_getitem.lookup (getItem_str (c:=c) (by
  have e1:decide (i < -(2 ^ 63:Int))=false:=QZ (by omega)
  have e2:decide (i ≥ 2 ^ 63)=false:=QZ (by omega)
  rw[e1,e2,Bool.or_false]) (by rw[h1];simpa using h2) ⟨.str ⟨#[c]⟩,H,I.tok _,⟨_,rfl⟩,q⟩) hs
def MV (K:PySem.W.Frag):R2:=fun x y H Q=>Er K x y H Q\/Es K x y H Q\/Et x y H Q
theorem uV:n_ X (MV X.K):=MS.or (MT.or MU)
theorem MW(aj:List Value)(n j:Nat)(u:Value):Obj.mapSeq (·.setIfInBounds j u) { cls:=.type "list",data:=.seq aj.toArray n }={ cls:=.type "list",data:=.seq (aj.set j u).toArray n }:=by
 simp[Obj.mapSeq]
theorem Inv.lst{pins:List (Addr×Obj)}{σ:St}{H:Hp}{s:Shared}{p:Addr}{xs:List V}(I:Inv X pins σ H s)(h:H p=some (.lst xs)) :
  ∃ (aj:List Value) (n:Nat),bc xs aj/\s.heap.get? p=some { cls:=.type "list",data:=.seq aj.toArray n }/\xs.length<=sizeLine:=by
 obtain⟨z,aj,n,r,e⟩:=I.aB p _ h
 exact⟨aj,n,r,e,z⟩
theorem Inv.qX{p:Addr}{xs ys:List V}{aj its':List Value}{n n':Nat}{f:Obj->Obj}(I:Inv X pins σ H s)(h:H p=some (.lst xs))
  (ho:s.heap.get? p=some { cls:=.type "list",data:=.seq aj.toArray n }) (hf:f { cls:=.type "list",data:=.seq aj.toArray n }={ cls:=.type "list",data:=.seq its'.toArray n' }) (r:bc ys its') (hz:ys.length<=sizeLine) (t:Nat) :
  Inv X pins σ (upd H p (.lst ys)) { s with heap:=s.heap.update p f,toks:=t }:=by
 have e:(s.heap.update p f).get? p=some { cls:=.type "list",data:=.seq its'.toArray n' }:=by
  rw[Zw f ho (by rw[hf]<;>rfl),hf]
 refine I.write (x:=p) (e:=p) (by rw[h];trivial) (.inl rfl) (fun b u hb q=>(ZA _ _ (Jt hb)).trans q) ⟨_,e⟩ ?_
 exact⟨hz,its',n',r,e⟩
def MX:V->V->V->Hp->(Hp->Prop)->Prop:=fun o i v H Q=>∃ p xs k j,o=.ref p/\i=.int k/\H p=some (.lst xs)/\ib xs.length k=some j/\Q (upd H p (.lst (xs.set j v)))
theorem Eu:D1 X MX:=by
 intro pins s σ H o i v ov iv u Q I ro ri rv h
 obtain⟨p,xs,k,j,rfl,rfl,hp,hj,q⟩:=h
 cases ro
 obtain⟨t,rfl⟩:=ri
 obtain⟨aj,n,r,ho,hz⟩:=I.lst hp
 obtain⟨h1,h2,h3,h4⟩:=Al hj
 have hl:=r.length
 have hn:=tm
 have I':Inv X pins σ (upd H p (.lst (xs.set j v))) { s with heap:=s.heap.update p (Obj.mapSeq (·.setIfInBounds j u)) }:=
  I.qX hp ho (MW aj n j u) (r.set rv j) (by rw[Zh];exact hz) s.toks
 by_cases h0:0<=k
 ·have hk:k.toNat=j:=by
   rw[seqIndex_of h0 h4]at h1
   exact QH h1
  exact PySem.W.ki_setAt ho h0 (by omega) (by rw[Qm,<- hl];exact h4) (by rw[hk];exact⟨_,I',q⟩)
 ·have hk:(k+(aj.toArray.size:Int)).toNat=j:=by
   rw[seqIndex_neg (by omega) h3]at h1
   rw[Qm,<- hl]
   exact QH h1
  exact PySem.W.ki_setBack ho (by omega) (by rw[Qm,<- hl];exact h3) (by omega) (by rw[hk];exact⟨_,I',q⟩)
theorem MY(lo hi:Option Int)(n:Nat):(sliceBounds lo hi none n).1=((HT.bp n 0 lo:Nat):Int)/\(sliceBounds lo hi none n).2.1=((HT.bp n n hi:Nat):Int)/\(sliceBounds lo hi none n).2.2=1:=by
 refine⟨?_,?_,rfl⟩
 ·cases lo with
  | none=>simp[sliceBounds,HT.bp]
  | some i=>
   simp only[sliceBounds,HT.bp,Option.getD_none,show(1:Int) > 0 by decide,Zz]
   by_cases h:i<0
   ·simp only[h,Zz]<;>omega
   ·simp only[h,Zl]<;>omega
 ·cases hi with
  | none=>simp[sliceBounds,HT.bp]
  | some i=>
   simp only[sliceBounds,HT.bp,Option.getD_none,show(1:Int) > 0 by decide,Zz]
   by_cases h:i<0
   ·simp only[h,Zz]<;>omega
   ·simp only[h,Zl]<;>omega
theorem MZ(aj:List Value)(lo hi:Option Int):slicePick aj.toArray lo hi none=((aj.drop (HT.bp aj.length 0 lo)).take (HT.bp aj.length aj.length hi-HT.bp aj.length 0 lo)).toArray:=by
 obtain⟨h1,h2,h3⟩:=MY lo hi aj.toArray.size
 unfold slicePick
 rw[h1,h2,h3]
 simp only[sliceRange_one,pick_run,Qm]<;>rfl
def M0 (K:PySem.W.Frag):V->Option Int->Option Int->Hp->VK->Prop:=fun x lo hi H Q=>∃ a xs,x=.ref a/\cH K H a xs/\∀ p,H p=none->Q (.ref p) (upd H p (.lst (pL xs lo hi)))
theorem j6l:pK X (M0 X.K):=by
 intro pins s σ H x v vl vu lo hi sl Q I rx hs pl pu h
 obtain⟨a,xs,rfl,hx,q⟩:=h
 cases rx
 obtain⟨aj,r,ht,hz⟩:=I.list hx
 have hlen:=r.length
 refine⟨"list",_,slot_list_getitem.lookup,ht.isList.typeIs,?_⟩
 refine wpAny_getItem_list_slice ht.isList hs pl pu .none (by simp) ?_ (by rw[Qm]<;>omega)
 rw[MZ,<- hlen]
 refine⟨.ref s.heap.objs.size,_,I.laid (t':=s.toks) (o:=.lst (pL xs lo hi)) (fun b ob q=>Qd _ q) (Qi _) ?_,rfl,q _ (I.aB.fresh (Qi _))⟩
 exact⟨QL (Eo xs lo hi) hz,_,0,(r.drop (HT.bp xs.length 0 lo)).take (HT.bp xs.length xs.length hi-HT.bp xs.length 0 lo),Qs _ rfl⟩
theorem An:jt X (.builtin "len") (fun xs H Q=>∃ p ys,xs=[.ref p]/\(cH X.K H p ys\/cR X.K H p ys)/\Q (.int ys.length) H):=by
 intro pins s σ H xs us Q I r h
 obtain⟨p,ys,rfl,hq,q⟩:=h
 obtain⟨u,rfl,rx⟩:=j4 r
 cases rx
 have hn:=tm
 rcases hq with hq|hq
 ·obtain⟨aj,r',pl,hz⟩:=I.list hq
  have hlen:=r'.length
  exact Calls.call_len_list pl.isList (by simp only[Qm]<;>omega) ⟨.int ys.length,H,I.tok _,⟨s.toks+1,by rw[Qm,hlen]⟩,q⟩
 ·obtain⟨aj,r',pl,hz⟩:=I.tuple hq
  have hlen:=r'.length
  exact len_tuple pl (by simp only[Qm]<;>omega) ⟨.int ys.length,H,I.tok _,⟨s.toks+1,by rw[Qm,hlen]⟩,q⟩
theorem Ew:jt X (.type "list") (fun xs H Q=>∃ p ys,xs=[.ref p]/\(cH X.K H p ys\/cR X.K H p ys)/\∀ l,H l=none->Q (.ref l) (upd H l (.lst ys))):=by
 intro pins s σ H xs us Q I r h
 obtain⟨p,ys,rfl,hq,q⟩:=h
 obtain⟨u,rfl,rx⟩:=j4 r
 cases rx
 have fin:∀ (aj:List Value),bc ys aj->ys.length<=sizeLine->∀ (h':Heap) (c':Nat),(∀ b o',s.heap.get? b=some o'->h'.get? b=some o')->
   h'.get? s.heap.objs.size=some { cls:=.type "list",dict:=none,data:=.seq aj.toArray c',slots:=#[] }->EP X pins σ Q (.ref s.heap.objs.size) { s with heap:=h' }:=fun aj r' hz h' c' kp e=>
  ⟨.ref s.heap.objs.size,_,I.laid (t':=s.toks) kp (Qi _) (show cZ X.prog X.w _ h' _ (.lst ys)from⟨hz,aj,c',r',e⟩),rfl,q _ (I.aB.fresh (Qi _))⟩
 rcases hq with hq|hq
 ·obtain⟨aj,r',pl,hz⟩:=I.list hq
  have hlen:=r'.length
  obtain⟨o,ho,hc,n,hd⟩:=pl.isList
  exact call_list_seq p (.inl rfl) ho hc hd (fun h' c' kp e=>fin aj r' hz h' c' kp e) (by simp only[Qm]<;>omega)
 ·obtain⟨aj,r',pl,hz⟩:=I.tuple hq
  have hlen:=r'.length
  obtain⟨o,ho,hc,n,hd⟩:=pl
  exact call_list_seq p (.inr rfl) ho hc hd (fun h' c' kp e=>fin aj r' hz h' c' kp e) (by simp only[Qm]<;>omega)
theorem M3:jt X (.type "tuple") (fun xs H Q=>∃ p ys,xs=[.ref p]/\((cH X.K H p ys/\∀ l,H l=none->Q (.ref l) (upd H l (.tup ys)))\/(cR X.K H p ys/\Q (.ref p) H))):=by
 intro pins s σ H xs us Q I r h
 obtain⟨p,ys,rfl,h⟩:=h
 obtain⟨u,rfl,rx⟩:=j4 r
 cases rx
 rcases h with⟨hq,q⟩|⟨hq,q⟩
 ·obtain⟨aj,r',pl,hz⟩:=I.list hq
  have hlen:=r'.length
  refine call_tuple_list pl.isList (fun h' kp=>?_) (by simp only[Qm]<;>omega)
  have I1:Inv X pins σ H { s with heap:=h' }:=I.kept (t':=s.toks) kp
  have I2:Inv X pins σ (upd H h'.objs.size (.tup ys)) { s with heap:=h'.push { cls:=.type "tuple",data:=.seq aj.toArray } }:=
   I1.laid (t':=s.toks) (fun b o e=>Qd _ e) (Qi _) (show cZ X.prog X.w _ _ _ (.tup ys)from⟨hz,aj,r',kH.new _ _⟩)
  exact⟨.ref h'.objs.size,_,I2,rfl,q _ (I1.aB.fresh (Qi _))⟩
 ·obtain⟨aj,r',pl,hz⟩:=I.tuple hq
  exact call_tuple_same pl ⟨.ref p,H,I,rfl,q⟩
def Ex (K:PySem.W.Frag)(T:String)(x:V)(H:Hp):Prop:=match x with
 | .str _=>T = "str"
 | .int _=>T = "int"
 | .ref p=>(T = "list" /\ ∃ xs,cH K H p xs)\/(T = "tuple" /\ ((∃ o,K.lookup p=some o/\o.cls=.type "tuple" /\ o.dict=none)\/∃ xs,H p=some (.tup xs))) \/
   (T = "dict" /\ ((∃ ah,H p=some (.dK ah))\/∃ ah,H p=some (.dT ah)))\/(T = "set" /\ ∃ S n,H p=some (.set S n))
 | _=>False
theorem M4{T:String}{x:V}{v:Value}(I:Inv X pins σ H s)(r:bw x v)(ty:Ex X.K T x H) :
  s.TypeIs v T/\∀ a,v=.ref a->∃ ob,s.heap.get? a=some ob/\ob.dict=none:=by
 cases x with
 | str z=>
  obtain⟨t,rfl⟩:=r
  cases (show T = "str" from ty)
  exact⟨typeIs_str s z t,fun _ e=>nomatch e⟩
 | int i=>
  obtain⟨t,rfl⟩:=r
  cases (show T = "int" from ty)
  exact⟨VD s i t,fun _ e=>nomatch e⟩
 | ref p=>
  cases r
  rcases ty with⟨rfl,xs,hq⟩|⟨rfl,⟨o,hk,hc,hd⟩|⟨xs,hk⟩⟩|⟨rfl,hk⟩|⟨rfl,S,n,hk⟩
  ·obtain⟨aj,_,pl,_⟩:=I.list hq
   refine⟨pl.isList.typeIs,fun a e=>?_⟩
   cases e
   obtain⟨o,n,e,c,hd,_⟩:=pl
   exact⟨o,e,hd⟩
  ·refine⟨⟨o,I.gP p o hk,hc⟩,fun a e=>?_⟩
   cases e
   exact⟨o,I.gP _ o hk,hd⟩
  ·obtain⟨_,aj,_,o,e,c,_,hd⟩:=(show cZ X.prog X.w H s.heap p (.tup xs)from I.aB p _ hk)
   refine⟨⟨o,e,c⟩,fun a e2=>?_⟩
   cases e2
   exact⟨o,e,hd⟩
  ·have z:∃ o,s.heap.get? p=some o/\o.ExactDict:=by
    rcases hk with⟨ah,hk⟩|⟨ah,hk⟩
    ·obtain⟨_,_,_,_,o,_,_,e,ex,_⟩:=I.aB p _ hk
     exact⟨o,e,ex⟩
    ·obtain⟨_,_,_,_,o,_,_,e,ex,_⟩:=I.aB p _ hk
     exact⟨o,e,ex⟩
   obtain⟨o,e,ex⟩:=z
   refine⟨⟨o,e,ex.1⟩,fun a e2=>?_⟩
   cases e2
   exact⟨o,e,ex.2.1⟩
  ·obtain⟨o,_,_,_,e,ex,_⟩:=I.aB p _ hk
   refine⟨⟨o,e,ex.1⟩,fun a e2=>?_⟩
   cases e2
   exact⟨o,e,ex.2.1⟩
 | _=>exact False.elim ty
def M5 (K:PySem.W.Frag)(T:String)(r:V->List V->Hp->VK->Prop)(to:TE)(t:TA):TE:=fun σ H Q=>to σ H fun x H1=>Ex K T x H1/\t σ H1 fun xs H2=>r x xs H2 Q
variable {o e:Expr}{es:List Expr}{to:TE}{t:TA}{name:Str}{apos az:Pos}{T id:String}{r:V->List V->Hp->VK->Prop}
theorem xH(pa:PlainAttrs T)(slot:Slot T name id)(uW:typeOf (.builtin id)=pure (.type "method_descriptor"))(hm:Ep X id r)(ho:PE X o to)(ha:PA X (e::es) t)
  (cA:attributeBase o name X.env (eval o X.env)=eval o X.env:=by rfl)
  (dY:((backTo az (starEach (e::es) X.env)).all (fun x=>!x.1)&&(backToKw az (keywordEach [] X.env)).all (fun x=>x.1.isSome)
    && decide ((e::es).length+([]:List Keyword).length+(if([]:List Keyword).isEmpty then 0 else 1)<30))=true:=by rfl)
  (cB:(apos.endLine==az.line)=true:=by rfl) (hs:starEach (e::es) X.env=(false,eval e X.env)::starEach es X.env:=by rfl) (cU:(backTo az (starEach es X.env)).any (·.1)=false:=by rfl) :
  PE X (.Call (.Attribute o name apos) (e::es) [] az) (M5 X.K T r to t):=by
 intro pins s σ H Q I h
 refine wpAny_Call_method_late cA dY cB rfl (aW (ho pins s σ H _ I h) fun v s1 ai=>?_)
 obtain⟨x,H1,I1,r1,ty,q1⟩:=ai
 obtain⟨h1,h2⟩:=M4 I1 r1 ty
 refine⟨T,id,pa,slot,uW,h1,h2,?_⟩
 have hA:=ha az pins s1 σ H1 _ I1 q1
 rw[hs]at hA ⊢
 refine Jy (by show(false||(backTo az (starEach es X.env)).any (·.1))=false;rw[cU]<;>rfl) (JI ?_)
 exact aW hA fun us s2 ⟨vs,H2,I2,r2,q2⟩=>hm pins s2 σ H2 x vs v us Q I2 r1 r2 q2
end
def Ao (X:Cx)(id:String)(r:V->List V->Hp->VK->Prop):Prop:=
 ∀ (pins:List (Addr×Obj)) (s:Shared) (σ:St) (H:Hp) (x:V) (xs:List V) (v:Value) (us:List Value) (Q:VK),Inv X pins σ H s->bw x v->bc xs us->r x xs H Q->
  wpAny (model X.prog X.w) X.A (call (.builtin id) (v::us)) (EP X pins σ Q) X.xe s
theorem bc.one:∀ {x:V} {us:List Value},bc [x] us->∃ u,us=[u]/\bw x u
 | _,_,.cons r .nil=>⟨_,rfl,r⟩
theorem bc.eraseIdx:∀ {xs:List V} {us:List Value} (i:Nat),bc xs us->bc (xs.eraseIdx i) (us.eraseIdx i)
 | _,_,_,.nil=>.nil
 | _,_,0,.cons _ t=>t
 | _,_,i+1,.cons r t=>.cons r (bc.eraseIdx i t)
theorem bc.rep(h:bc xs us):∀ k:Nat,bc (List.replicate k xs).flatten (List.replicate k us).flatten
 | 0=>.nil
 | k+1=>by
  rw[ZN,ZN,Ji,Ji]
  exact bc.append h (bc.rep h k)
theorem Ey{α:Type}:∀ (l:List α) (i:Nat),(l.eraseIdx i).length<=l.length
 | [],_=>Qi _
 | _::_,0=>Jw _
 | _::r,i+1=>Vv (Ey r i)
theorem Ap(aj:List Value):∀ (k:Nat) (acc:List Value),
  List.foldl (fun x1 x2=>x1++x2) acc.toArray (List.replicate k aj.toArray)=(acc++(List.replicate k aj).flatten).toArray
 | 0,acc=>by simp
 | k+1,acc=>by
  have e:acc.toArray++aj.toArray=(acc++aj).toArray:=by simp
  have e2:(acc++aj)++(List.replicate k aj).flatten=acc++(List.replicate (k+1) aj).flatten:=by
   rw[ZN,Ji,ZD]
  rw[<- e2,<- Ap aj k (acc++aj),<- e,ZN,List.foldl_cons]
section
variable {X:Cx}{pins:List (Addr×Obj)}{σ:St}{H:Hp}{s:Shared}{l b:Addr}{xs ys zs:List V}
theorem Inv.qY{aj its':List Value}{n:Nat}{f:Array Value->Array Value}{t':Nat}(I:Inv X pins σ H s)(hH:H l=some (.lst xs))
  (e:s.heap.get? l=some { cls:=.type "list",data:=.seq aj.toArray n }) (hf:f aj.toArray=its'.toArray) (hv:bc ys its') (hz:ys.length<=sizeLine) :
  Inv X pins σ (upd H l (.lst ys)) { s with heap:=s.heap.update l (Obj.mapSeq f),toks:=t' }:=by
 have q:=PySem.IsL.update e f
 rw[hf]at q
 refine I.write (x:=l) (e:=l) (by rw[hH];exact trivial) (.inl rfl) (fun b' u hb hu=>(ZA s.heap (Obj.mapSeq f) (Jt hb)).trans hu) ⟨_,q⟩ ?_
 exact⟨hz,its',_,hv,q⟩
theorem Inv.uX{aj:List Value}{t':Nat}(I:Inv X pins σ H s)(hv:bc ys aj)(hz:ys.length<=sizeLine) :
  Inv X pins σ (upd H s.heap.objs.size (.lst ys)) { s with heap:=s.heap.push { cls:=.type "list",data:=.seq aj.toArray },toks:=t' }:=
 I.laid (fun _ _ q=>Qd _ q) (Qi _) ⟨hz,aj,0,hv,Qs _ rfl⟩
theorem Inv.fresh(I:Inv X pins σ H s):H s.heap.objs.size=none:=I.aB.fresh (Qi _)
theorem Inv.lR(I:Inv X pins σ H s)(hH:H l=some (.lst xs)):xs.length<=sizeLine/\∃ (aj:List Value) (n:Nat),bc xs aj/\xs.length=aj.length/\s.heap.get? l=some { cls:=.type "list",data:=.seq aj.toArray n }:=by
 obtain⟨z,aj,n,r,e⟩:=I.aB l _ hH
 exact⟨z,aj,n,r,r.length,e⟩
theorem Ez(h:n<=sizeLine):Builtin.List.listTooLong n=false:=by
 unfold Builtin.List.listTooLong
 exact QZ (by omega)
end
section
variable {X:Cx}
def M6:V->List V->Hp->VK->Prop:=fun x vs H Q=>∃ l xs y,x=.ref l/\vs=[y]/\H l=some (.lst xs)/\xs.length<sizeLine/\Q .bo (upd H l (.lst (xs++[y])))
theorem M7:Ao X "list.append" M6:=by
 intro pins s σ H x vs v us Q I rx rv h
 obtain⟨l,xs,y,rfl,rfl,hH,hz,q⟩:=h
 cases rx
 obtain⟨u,rfl,ru⟩:=rv.one
 obtain⟨z,aj,n,r,hl,e⟩:=I.lR hH
 refine JJ F.slot_list_append ⟨_,e,rfl⟩ F.entry_list_append (F.args_list_append_2 _ _) (PySem.list_append l aj.toArray n u (by rw[Qm];omega)) ⟨e,?_⟩
 refine⟨.bo,_,I.qY (its':=aj++[u]) hH e (by simp) (r.append (.cons ru .nil)) ?_,rfl,q⟩
 rw[Qn,List.length_singleton]
 omega
def M8:V->List V->Hp->VK->Prop:=fun x vs H Q=>∃ l b xs zs,x=.ref l/\vs=[.ref b]/\H l=some (.lst xs)/\H b=some (.lst zs)/\xs.length+zs.length<=sizeLine/\Q .bo (upd H l (.lst (xs++zs)))
theorem M9:Ao X "list.extend" M8:=by
 intro pins s σ H x vs v us Q I rx rv h
 obtain⟨l,b,xs,zs,rfl,rfl,hH,hB,hz,q⟩:=h
 cases rx
 obtain⟨u,rfl,ru⟩:=rv.one
 cases ru
 obtain⟨z,aj,n,r,hl,e⟩:=I.lR hH
 obtain⟨z2,gR,n2,r2,qZ,e2⟩:=I.lR hB
 have hsz:aj.toArray.size+gR.toArray.size<=sizeLine:=by rw[Qm,Qm];omega
 have lS:¬ (!aj.toArray.isEmpty&&Builtin.List.listTooLong (aj.toArray.size+gR.toArray.size))=true:=by
  rw[Ez hsz,VX]
  exact Zi
 refine JJ F.slot_list_extend ⟨_,e,rfl⟩ F.entry_list_extend (F.args_list_extend_2 _ _)
  (AutoSeq1.list_extend_list_list_0 l aj.toArray n b gR.toArray n2 lS (by rw[Qm];omega) (by omega)) ⟨e,e2,?_⟩
 refine⟨.bo,_,I.qY (its':=aj++gR) hH e (by simp) (r.append r2) ?_,rfl,q⟩
 rw[Qn]
 omega
def M_:V->List V->Hp->VK->Prop:=fun x vs H Q=>∃ l xs i k y,x=.ref l/\vs=[.int i]/\H l=some (.lst xs) /\ -(2 ^ 63)<=i/\i<2 ^ 63/\seqIndex? i xs.length=some k/\xs[k]? = some y/\Q y (upd H l (.lst (xs.eraseIdx k)))
theorem Na:Ao X "list.pop" M_:=by
 intro pins s σ H x vs v us Q I rx rv h
 obtain⟨l,xs,i,k,y,rfl,rfl,hH,h1,h2,hk,hy,q⟩:=h
 cases rx
 obtain⟨u,rfl,ru⟩:=rv.one
 obtain⟨t,rfl⟩:=ru
 obtain⟨z,aj,n,r,hl,e⟩:=I.lR hH
 obtain⟨w,hw,kJ⟩:=r.get hy
 refine JJ F.slot_list_pop ⟨_,e,rfl⟩ F.entry_list_pop (F.args_list_pop_2 _ _)
  (MeetsSeq.list_pop_at l aj.toArray n i t k w (fitsIndex_both h1 h2) (by rw[Qm,<- hl];exact hk) (by rw[<- Q5];exact hw) (by rw[Qm];omega)) ⟨e,?_⟩
 refine⟨y,_,I.qY (its':=aj.eraseIdx k) hH e ?_ (r.eraseIdx k) ?_,kJ,q⟩
 ·show aj.toArray.eraseIdxIfInBounds k=(aj.eraseIdx k).toArray
  rw[List.eraseIdxIfInBounds_toArray]
 ·have:=Ey xs k
  omega
def Nb:R2:=fun x y H Q=>∃ l k xs,x=.ref l/\y=.int k/\H l=some (.lst xs) /\ -(2 ^ 63)<=k/\k<2 ^ 63/\xs.length*k.toNat<=sizeLine /\
 ∀ p,H p=none->Q (.ref p) (upd H p (.lst (List.replicate k.toNat xs).flatten))
theorem Aq{α:Type}(xs:List α)(k:Nat):(List.replicate k xs).flatten.length=k*xs.length:=by
 induction k with
 | zero=>simp
 | succ k ih=>rw[ZN,Ji,Qn,ih,V9,Nat.add_comm]
theorem Nc:df X (binaryOp .Mult) Nb:=by
 intro pins s σ H x y v u Q I rx ry h
 obtain⟨l,k,xs,rfl,rfl,hH,h1,h2,hz,q⟩:=h
 cases rx
 obtain⟨t,rfl⟩:=ry
 obtain⟨z,aj,n,r,hl,e⟩:=I.lR hH
 have hlen:aj.toArray.size*k.toNat<=sizeLine:=by rw[Qm,<- hl];exact hz
 have Ar:¬ aj.toArray.size*k.toNat > (2 ^ 63-1) / 8:=by
  have:(sizeLine:Nat)<=(2 ^ 63-1) / 8:=by decide
  omega
 have As:¬ (!Builtin.List.listFitsIndex k)=true:=by
  rw[fitsIndex_both h1 h2]
  exact Zi
 have lS:¬ Builtin.List.listTooLong (aj.toArray.size*k.toNat)=true:=by
  rw[Ez hlen]
  exact Zi
 have Au:List.foldl (fun x1 x2=>x1++x2) #[] (List.replicate (if aj.toArray.isEmpty=true then 0 else k.toNat) aj.toArray)=(List.replicate k.toNat aj).flatten.toArray:=by
  have f0:∀ m:Nat,List.foldl (fun x1 x2=>x1++x2) #[] (List.replicate m aj.toArray)=(List.replicate m aj).flatten.toArray:=fun m=>by
   have:=Ap aj m []
   rw[List.nil_append]at this
   exact this
  rw[f0]
  cases aj with
  | nil=>simp
  | cons a r'=>rw[Qk (by simp)]
 refine Ve (T:="list") (U:="int") (by decide) ⟨_,e,rfl⟩ (fun s'=>VD s' k t) noFill_list_mul F.fills_int_mul YJ repeat_list F.slot_int_index.lookup
  (JJ YJ (VD s k t) F.entry_int_rmul (F.args_int_rmul_2 _ _) (int___rmul___int_list k t l aj.toArray n)
    ⟨e,rfl,⟨_,e,rfl⟩,JJ F.slot_list_mul ⟨_,e,rfl⟩ F.entry_list_mul (F.args_list_mul_2 _ _) (AutoListH.list___mul___list_int_3 l aj.toArray n k t As Ar lS) ⟨e,?_⟩⟩)
 rw[Au]
 exact⟨.ref _,_,I.uX (t':=s.toks) (r.rep k.toNat) (by rw[Aq,YY];exact hz),rfl,q _ I.fresh⟩
end
end L2
namespace EA
open PySem PySem.W PySem.Calls PyProof.Rows
variable {P:Params}{h:Heap}{l:OpenLaw}{n:Nat}
theorem Nd:∀ (ns:List Int) (vs:List Value),WellAll P h vs (ns.map WData.int)->IntsAre vs ns:=by
 intro ns
 induction ns with
 | nil=>
  intro vs w
  rw[Ua]at w
  cases w
  exact .nil
 | cons n ns ih=>
  intro vs w
  rw[QG]at w
  cases w with
  | cons a b=>
   cases a
   exact .cons _ _ (ih _ b)
theorem Nf(hn:l.most=some n){args:List WData}{vals:List Value}
  (oa:l.row.toRowW.claim.pre args=true) (tE:WellAll P h vals args) :
  ∃ a vs ns,vals=[Value.ref a]/\args=[WData.list (ns.map WData.int)]/\h.get? a=some { cls:=.type "list",data:=.seq vs.toArray }/\IntsAre vs ns/\ns.length<=n:=by
 have Ng:WShape.hasAll [] args [.list .int]=true:=(pre_splitW oa).1
 have hc:l.pre.holds [] { args:=args }=true:=(pre_splitW oa).2
 obtain⟨d,r,rfl,h1,h2⟩:=hasAllW_cons Ng
 obtain rfl:=hasAllW_nil h2
 obtain⟨xs,rfl,h3⟩:=hasW_list h1
 obtain⟨ns,rfl⟩:=items_int h3
 have hlen:ns.length<=n:=by
  unfold OpenLaw.pre at hc
  have h4:(WTm.not (.lt (.lit (.int (n:Int))) (.len (.arg 0)))).holds [] { args:=[.list (ns.map .int)] }=true:=by
   have h4:=(holds_andW hc).1
   rw[hn]at h4
   exact h4
  have h5:=condW_of h4 (w_not (w_lt w_lit (w_len_list (w_arg rfl))))
  rw[Qc]at h5
  refine Nat.le_of_not_lt fun q=>?_
  have q':(n:Int)<((ns.length:Nat):Int):=by omega
  first
   | (rw[QA q']at h5;exact absurd h5 (by decide))
   | (simp at h5;omega)
 cases tE with
 | cons w1 w2=>
  cases w2
  cases w1 with
  | list ho eI=>exact⟨_,_,ns,rfl,rfl,ho,Nd ns _ eI,hlen⟩
theorem Nh(l:OpenLaw)(args:List WData):l.row.toRowW.claim.post args (.bool true) args=true:=
 postW_of (r:=l.row.toRowW) (X:=(true==true))
  (show WShape.has [] (.bool true) .bool=true by first|rfl|decide|simp[WShape.has,WShape.arms,WShape.armsAll])
  (show(WTm.eq .res (.lit (.bool true))).value [] { args:=args,res:=some (.bool true),after:=args }=some (.bool (true==true))from w_eq_bool (w_res rfl) w_lit) rfl
theorem Ni{q:Program}{loose:List Str}{XP:(Str->Option Value)->Heap->Prop}{YP:World->Heap->Prop}{d:DefRec}
  (hn:l.most=some n) (uY:d.params.defaults=[])
  (call:∀ (w:World) (cm aO:Shared) (mg mb:Str->Option Value) (fa:Addr) (o:Obj) (pm cd doc:Value) (a:Addr) (vs:List Value) (ns:List Int),
    Ground q loose [] XP w cm mg mb aO.heap->YP w aO.heap->
    aO.heap.get? fa=some o->o.data=.func (docDef d.name d.params d.body d.scope pm cd doc)->aO.heap.CodeRec cd d.name->mg d.name=some (.ref fa)->
    aO.heap.get? a=some { cls:=.type "list",data:=.seq vs.toArray }->IntsAre vs ns->ns.length<=n->aO.gens = #[]->
    codeAny (model l.prog w) callerA (.call (.ref fa) ⟨[.ref a],[]⟩) (fun r s'=>r=.ok (.ret (.bool true))/\OldK aO.heap s'.heap/\s'.os=aO.os/\AllBare s'.gens) aO) :
  WalkO q loose XP YP l.row.toRowW d [] (fun f vs=>PySem.call f vs):=by
 intro w cm aO mg mb G Y fa o pm cd doc dV kV ho hd iA hD hmg hg args vals as oa Nj hrd tE hlo
 obtain rfl:dV=.none:=Dflts.none hD uY
 obtain rfl:kV=.none:=Dflts.noKw hD
 obtain⟨a,vs,ns,rfl,rfl,q8,hints,hlen⟩:=Nf hn oa tE
 refine enter_call (Ye (call w cm aO mg mb fa o pm cd doc a vs ns G Y ho (fd_plain hd) iA hmg q8 hints hlen hg) fun r s' hq=>?_)
 obtain⟨rfl,h2,h3,h4⟩:=hq
 exact⟨.inl ⟨.bool true,.bool true,[],rfl,fun _=>rfl,.bool true,Nh l _,fun _=>⟨List.Pairwise.nil,fun _ hm=>(nomatch hm)⟩⟩,h2,h3,h4⟩
end EA
namespace L2
open PySem PySem.Spec PyProof.Rows
theorem xI:∀ {vs:List Value} {ns:List Int},IntsAre vs ns->bc (ns.map V.int) vs
 | _,_,.nil=>.nil
 | _,_,.cons n t h=>.cons ⟨t,rfl⟩ (xI h)
def Av (H:Hp):Prop:=∀ b,H b=none\/∃ o xs,H b=some (.fF o (.lst xs))
theorem Nk{P:Program}{w:World}{K:PySem.W.Frag}{mg mb:Str->Option Value}{CX:nj}{k:Nat}{fa a:Addr}{fd:FuncData}{x:Str}{sp:Sp}{aO:Shared}{vs:List Value}{ns:List Int}
  (KX:K.In aO.heap) (EB:aO.heap.Ns mainGlobals mg) (hb:aO.heap.Ns builtinsNs mb) (Nl:∀ x:Str,x ≠ "__name__"->mb x=bootBuiltins x) (Aw:aO.heap.NoLimit) (hg:aO.gens = #[])
  (ha:aO.heap.get? a=some { cls:=.type "list",data:=.seq vs.toArray }) (hi:IntsAre vs ns) (hl:ns.length<=sizeLine) (hr:a_ k callerA)
  (F:∀ base:Heap,K.In base->base.Ns mainGlobals mg->eG P w K mg base CX k fa fd [x] sp) (uZ:∀ (s:Shared) (u:Value),BindsTo s fd ⟨[u],[]⟩ [(x,u)])
  (lg:∀ H:Hp,Av H->cH K H a (ns.map V.int)->sp [.ref a] H (fun v _=>v=.bl true) fun _ _ _=>False)
  (Nm:∀ H e s',CX [] H aO (fun _ _ _=>False) e s'->False) :
  codeAny (model P w) callerA (.call (.ref fa) ⟨[.ref a],[]⟩) (fun r s'=>r=.ok (.ret (.bool true))/\OldK aO.heap s'.heap/\s'.os=aO.os/\AllBare s'.gens) aO:=by
 have rv:=xI hi
 have Ax:=hi.length
 have core:∀ H:Hp,Av H->cH K H a (ns.map V.int)->de P w H aO.heap->(∀ b,H b≠none->b=a)->(H a≠none->K.lookup a=none)->
   codeAny (model P w) callerA (.call (.ref fa) ⟨[.ref a],[]⟩) (fun r s'=>r=.ok (.ret (.bool true))/\OldK aO.heap s'.heap/\s'.os=aO.os/\AllBare s'.gens) aO:=by
  intro H hO hS aB hA hK
  have j7:∀ {b:Addr} {o:Obj},aO.heap.get? b=some o->H b=none->(nW aO.heap H).get? b=some o:=fun e n=>K5 e n
  have uR:∀ {b:Addr} {o:Obj} {es:Array DictEntry} {ep:Nat},aO.heap.get? b=some o->o.data=.dict es ep->H b=none:=fun {b o es ep} e d=>by
   cases q:H b with
   | none=>rfl
   | some u=>
    have e':b=a:=hA b (by rw[q];simp)
    subst e'
    rw[ha]at e;cases e
    have d':Data.seq vs.toArray _=Data.dict es ep:=d
    cases d'
  have xJ:∀ {b:Addr} {m:Str->Option Value},aO.heap.Ns b m->(nW aO.heap H).Ns b m:=fun {b m} ⟨o,es,ep,e,d,r⟩=>⟨o,es,ep,j7 e (uR e d),d,r⟩
  have EC:K.In (nW aO.heap H):=fun b o e=>j7 (KX b o e) (by
   cases q:H b with
   | none=>rfl
   | some u=>
    have e':b=a:=hA b (by rw[q];simp)
    subst e'
    rw[hK (by rw[q];simp)]at e;cases e)
  have hM:Mod K mg (nW aO.heap H):=⟨EC,xJ EB,⟨mb,xJ hb,Nl⟩,let ⟨mc,h1,h2⟩:=Aw;⟨mc,xJ h1,h2⟩⟩
  have e0:n6 P w K mg (nW aO.heap H) callerA [] aO H:=⟨rfl,hM,fun b o e=>K6 e,Nat.le_of_eq (K4 _ _),trivial,fun b hb=>absurd (show b∈([]:List Addr)from hb) (by simp),aB,.of_eq hg⟩
  refine Ye ((F _ EC (xJ EB)).run callerA [] aO H ⟨[.ref a],[]⟩ [.ref a] [.ref a] _ _ hr e0 (uZ aO (.ref a)) (.cons rfl .nil) (lg H hO hS)) fun r s' h=>?_
  cases r with
  | error e=>exact(Nm H e s' h).elim
  | ok fl=>
   cases fl with
   | next=>exact False.elim h
   | brk=>exact False.elim h
   | cont=>exact False.elim h
   | ret u=>
    obtain⟨v,H',os,bare,un,lT,r',q⟩:=h
    have q':v=.bl true:=q
    subst q'
    obtain rfl:u=Value.bool true:=r'
    refine⟨rfl,OldK.of_keep fun b o e=>?_,os,bare⟩
    cases q:H b with
    | none=>exact un.keep b o e q (by intro z;exact absurd (show b∈([]:List Addr)from z) (by simp)) (by simp)
    | some u=>
     rcases hO b with z|⟨ob,xs,z⟩
     ·rw[q]at z;cases z
     ·have z2:=un.gO b ob _ z
      obtain⟨e1,_⟩:=aB b _ z
      obtain⟨e2,_⟩:=lT b _ z2
      rw[e]at e1;cases e1
      exact e2
 cases hk:K.lookup a with
 | some o=>
  have e:=KX a o hk
  rw[ha]at e
  cases e
  refine core (fun _=>none) (fun _=>.inl rfl) (.inr ⟨_,vs.toArray,_,hk,rfl,rfl,rfl,by rw[Qm,Ax];exact hl,by simpa using rv⟩) (fun b u z=>by have z':(none:Option HO)=some u:=z;cases z') (fun b z=>absurd rfl z) fun z=>absurd rfl z
 | none=>
  refine core (fun b=>if b=a then some (.fF { cls:=.type "list",data:=.seq vs.toArray } (.lst (ns.map V.int)))else none) (fun b=>?_) (.inl (.inr ⟨{ cls:=.type "list",data:=.seq vs.toArray },Qj rfl⟩)) (fun b u z=>?_) (fun b z=>?_) fun _=>hk
  ·by_cases hb:b=a
   ·exact .inr ⟨_,_,Qj hb⟩
   ·exact .inl (Qk hb)
  ·by_cases hb:b=a
   ·have z':=(Qj hb).symm.trans z
    cases z'
    subst hb
    exact⟨ha,by rw[Qc];exact hl,vs,_,rv,ha⟩
   ·have z':=(Qk hb).symm.trans z
    cases z'
  ·by_cases hb:b=a
   ·exact hb
   ·exact absurd (Qk hb) z
end L2
namespace L2
open PySem PySem.Spec PyProof.Rows
end L2
namespace L2
open PySem PySem.Spec PyProof.Rows
variable {A:Around}{C a b c f:Addr}{H H':Hp}{N' ps:List Str}{P prog:Program}{Q:Value->Shared->Prop}{X:Cx}{cells:List (Str×Addr)}{elt iter:Expr}{env:Env}{fd:FuncData}{h h':Heap}{i lo n:Nat}{ifs:List Expr}{ah:List (List Key×V)}{o:Option V}{pins:List (Addr×Obj)}{pos:Pos}{qual x y:Str}{s:Shared}{scope:Scope}{st:Stmt}{pM:List (TE×TE)}{u:Value}{v:V}{w:World}{xs:List (List Key×Addr×Value)}{σ:St}
def pN (s:Stmt):Arguments:=match s with
 | .FunctionDef _ a _ _ _ _ _ _ _ _=>a
 | _=>{ posonlyargs:=[],args:=[],vararg:=none,kwonlyargs:=[],kw_defaults:=[],kwarg:=none,defaults:=[] }
def j8 (s:Stmt):List Stmt:=match s with
 | .FunctionDef _ _ b _ _ _ _ _ _ _=>b
 | _=>[]
def bu (s:Stmt):Scope:=match s with
 | .FunctionDef _ _ _ _ _ _ sc _ _ _=>sc
 | _=>{ kind:=.function,names:=[],isGenerator:=false,isCoroutine:=false }
abbrev ju:nj:=fun _ _ _ _ _ _=>False
abbrev E0:XK:=fun _ _ _=>False
theorem ED:xD ju X E0:=fun _ _ _ _ _ _ _ h=>h.elim
structure lU (K:PySem.W.Frag) (x qual:Str) (st:Stmt) (f:Addr) (fd:FuncData):Prop where
 ex:∃ (oc:Value) (od:Option Addr) (kV doc pm:Value) (an:Option Addr) (cz ct:Value) (n8:Array (Option Value)),
  fd=PySem.W.fnOf x qual (pN st) (j8 st) (bu st) .none kV doc pm an cz ct/\K.lookup f=some ⟨oc,od,.func fd,n8⟩/\PySem.W.codeIn K cz qual=true
 kp:PySem.W.keepIn K (.ref f)=true
section
variable {P:Program}{w:World}{K:PySem.W.Frag}{mg:Str->Option Value}{base:Heap}
theorem lU.ok{N:List Str}{k:Nat}{sp:Sp}(F:lU K x qual st f fd)(S:af N ps (bu st))(len:∀ vs H Q E,sp vs H Q E->vs.length=ps.length)
  (lQ:∀ (cz:Value) (A:Around) (outer:List Env) (s:Shared) (H:Hp) (vs:List V) (Q:VK) (E:XK),a_ k (A.deeper (envOfC qual (bu st) s.heap.objs.size f cz))->sp vs H Q E->
    ∃ t,iz (lP ju P w K mg base N qual (bu st) f cz A outer s H E).nh (j8 st) t/\t { nx:=fun _ H'=>Q .bo H',rt:=Q } (start N vs) H):eG P w K mg base ju (k+1) f fd ps sp:=by
 obtain⟨oc,od,kV,doc,pm,an,cz,ct,n8,rfl,lk,iA⟩:=F.ex
 refine Mz lk iA S len fun A outer s H vs Q E hr lg=>?_
 obtain⟨t,h,q⟩:=lQ cz A outer s H vs Q E hr lg
 exact⟨t,h.nh,q⟩
theorem lU.binds(F:lU K x qual st f fd)
  (h:∀ (kV doc pm:Value) (an:Option Addr) (cz ct:Value) (us:List Value),us.length=ps.length->bindArgs (PySem.W.fnOf x qual (pN st) (j8 st) (bu st) .none kV doc pm an cz ct) ⟨us,[]⟩=pure (ps.zip us)):pH K fd ps []:=by
 obtain⟨oc,od,kV,doc,pm,an,cz,ct,n8,rfl,lk,iA⟩:=F.ex
 exact .all (h kV doc pm an cz ct)
theorem EE{oc:Value}{od an:Option Addr}{n8:Array (Option Value)}{kV doc pm cz ct:Value}(l:K.lookup f=some ⟨oc,od,.func (PySem.W.fnOf x qual (pN st) (j8 st) (bu st) .none kV doc pm an cz ct),n8⟩)
  (c:PySem.W.codeIn K cz qual=true) (k:PySem.W.keepIn K (.ref f)=true):lU K x qual st f (PySem.W.fnOf x qual (pN st) (j8 st) (bu st) .none kV doc pm an cz ct):=⟨⟨oc,od,kV,doc,pm,an,cz,ct,n8,rfl,l,c⟩,k⟩
end
theorem tF{k:Nat}(hr:a_ k A):A.units+1<cLine:=Z8 (Nat.add_le_add_left (by decide:1<=64) _) hr.units
theorem lh(h:n<=1000):n<sizeLine:=Z8 h (by decide)
section
variable {X:Cx}
theorem pv(i:Nat){pos:Pos}(hN:X.N[i]? = some x:=by rfl)(hv:s9 X.env.scope x:=by first|exact Or.inl rfl|exact Or.inr (Or.inl rfl)|exact Or.inr (Or.inr rfl))(hd:(x==("__debug__":Str))=false:=by decide)
  (iA:(x==("__classdict__":Str))=false:=by decide):PE X (.Name x pos) (eV i):=K_ hN hv hd iA
end
section
variable {κ:Type}[DecidableEq κ]
def fx (ah:List (κ×V))(k:κ):Option V:=(ah.find? fun kv=>decide (kv.1=k)).map (·.2)
def eX (ah:List (κ×V))(k:κ)(v:V):List (κ×V):=
 if(ah.any fun kv=>decide (kv.1=k))=true then ah.map (fun kv=>if kv.1=k then(kv.1,v)else kv)else ah++[(k,v)]
theorem u0{p:κ×V}{r:List (κ×V)}{k:κ}(e:p.1=k):fx (p::r) k=some p.2:=by simp[fx,JD,e]
theorem u4{p:κ×V}{r:List (κ×V)}{k:κ}(e:¬ p.1=k):fx (p::r) k=fx r k:=by simp[fx,JD,e]
theorem Ay(k:κ):∀ ah:List (κ×V),(ah.any fun kv=>decide (kv.1=k))=(fx ah k).isSome
 | []=>rfl
 | p::r=>by
  rw[YB]
  by_cases e:p.1=k
  ·simp only[u0 e,QA e,Bool.true_or,Option.isSome_some]
  ·rw[u4 e,QZ e,Bool.false_or];exact Ay k r
theorem xK(ah:List (κ×V))(k:κ)(v:V):(eX ah k v).length<=ah.length+1:=by
 unfold eX
 split
 ·rw[Qc];omega
 ·rw[Qn,QO,Jf];omega
theorem Nn{ah:List (κ×V)}{k:κ}(v:V)(h:fx ah k=none):eX ah k v=ah++[(k,v)]:=by
 unfold eX
 rw[Ay,h]
 exact Qk (by decide)
theorem kG.eY{u:Option Value}(r:kG o u):o.isSome=u.isSome:=by
 cases o with
 | none=>cases u with
  | none=>rfl
  | some _=>exact(show False from r).elim
 | some _=>cases u with
  | none=>exact(show False from r).elim
  | some _=>rfl
theorem kG.getD{u:Option Value}{d:V}{d':Value}(r:kG o u)(rd:bw d d'):bw (o.getD d) (u.getD d'):=by
 cases o with
 | none=>cases u with
  | none=>exact rd
  | some _=>exact(show False from r).elim
 | some _=>cases u with
  | none=>exact(show False from r).elim
  | some _=>exact r
theorem KV.val{ah:List (κ×V)}{vs:List (κ×Value)}(r:KV ah vs)(k:κ):kG (fx ah k) (valueAt vs k):=by
 unfold KV at r
 induction r with
 | nil=>exact True.intro
 | @cons p q ps qs h t ih=>
  obtain⟨h1,h2⟩:=h
  by_cases e:p.1=k
  ·have e':q.1=k:=h1.symm.trans e
   have b:valueAt (q::qs) k=some q.2:=by simp[valueAt,JD,e']
   rw[u0 e,b];exact h2
  ·have e':¬ q.1=k:=fun z=>e (h1.trans z)
   have b:valueAt (q::qs) k=valueAt qs k:=by simp[valueAt,JD,e']
   rw[u4 e,b];exact ih
theorem KV.any{ah:List (κ×V)}{vs:List (κ×Value)}(r:KV ah vs)(k:κ):(ah.any fun kv=>decide (kv.1=k))=vs.any fun kv=>decide (kv.1=k):=by
 unfold KV at r
 induction r with
 | nil=>rfl
 | cons h t ih=>rw[YB,YB,ih,h.1]
theorem KV.q9{ah:List (κ×V)}{vs:List (κ×Value)}(r:KV ah vs)(k:κ){y:V}(ry:bw y u) :
  KV (ah.map fun kv=>if kv.1=k then(kv.1,y)else kv) (vs.map fun kv=>if kv.1=k then(kv.1,u)else kv):=by
 unfold KV at r ⊢
 induction r with
 | nil=>exact .nil
 | @cons p q ps qs h t ih=>
  rw[QG,QG]
  refine .cons ?_ ih
  obtain⟨h1,h2⟩:=h
  by_cases e:p.1=k
  ·rw[Qj e,Qj (h1.symm.trans e)];exact⟨h1,ry⟩
  ·rw[Qk e,Qk (fun z=>e (h1.trans z))];exact⟨h1,h2⟩
theorem KV.put{ah:List (κ×V)}{vs:List (κ×Value)}(r:KV ah vs)(k:κ){y:V}(ry:bw y u):KV (eX ah k y) (stored vs k u):=by
 unfold eX stored
 rw[r.any k]
 by_cases e:(vs.any fun kv=>decide (kv.1=k))=true
 ·rw[Qj e,Qj e];exact r.q9 k ry
 ·rw[Qk e,Qk e];exact Paired.snoc r ⟨rfl,ry⟩
theorem KV.length{ah:List (κ×V)}{vs:List (κ×Value)}(r:KV ah vs):ah.length=vs.length:=Jo r
end
theorem tG{k:Key}(r:bw (kV k) u):(hZ P w).is k u=true:=by
 cases k with
 | inl i=>obtain⟨t,e⟩:=(show ∃ t,u=Value.int i t from r);subst e;exact K0 P w i t
 | inr x=>obtain⟨t,e⟩:=(show ∃ t,u=Value.str x t from r);subst e;exact K1 P w x t
theorem EF:∀ {ks:List Key} {us:List Value},bc (ks.map kV) us->ItemsAre (hZ P w) ks us
 | [],_,r=>by rw[Ua]at r;cases r;exact .nil
 | k::ks,_,r=>by
  rw[QG]at r
  cases r with
  | cons h t=>exact .cons (tG h) (EF t)
abbrev KT (H:Hp):List (List Key×V)->List (List Key×Addr×Value)->Prop:=Paired fun p q=>p.1=q.1/\H q.2.1=some (.tup (p.1.map kV))/\bw p.2 q.2.2
theorem KT.val(r:KT H ah xs)(k:List Key):kG (fx ah k) ((atKey xs k).map (·.2)):=by
 induction r with
 | nil=>exact True.intro
 | @cons p q ps qs h t ih=>
  obtain⟨h1,_,h2⟩:=h
  by_cases e:p.1=k
  ·have e':q.1=k:=h1.symm.trans e
   have b:atKey (q::qs) k=some q.2:=by simp[atKey,JD,e']
   rw[u0 e,b];exact h2
  ·have e':¬ q.1=k:=fun z=>e (h1.trans z)
   have b:atKey (q::qs) k=atKey qs k:=by simp[atKey,JD,e']
   rw[u4 e,b];exact ih
theorem KT.q9(r:KT H ah xs)(k:List Key){y:V}(ry:bw y u) :
  KT H (ah.map fun kv=>if kv.1=k then(kv.1,y)else kv) (xs.map (putAt k u)):=by
 induction r with
 | nil=>exact .nil
 | @cons p q ps qs h t ih=>
  rw[QG,QG]
  refine .cons ?_ ih
  obtain⟨h1,h2,h3⟩:=h
  unfold putAt
  by_cases e:p.1=k
  ·rw[Qj e,Qj (h1.symm.trans e)];exact⟨h1,h2,ry⟩
  ·rw[Qk e,Qk (fun z=>e (h1.trans z))];exact⟨h1,h2,h3⟩
theorem KT.put(r:KT H ah xs)(k:List Key){y:V}(hb:H b=some (.tup (k.map kV)))(ry:bw y u) :
  KT H (eX ah k y) (storedH xs k b u):=by
 have e:(ah.any fun kv=>decide (kv.1=k))=(atKey xs k).isSome:=by
  rw[Ay,(r.val k).eY,Option.isSome_map]
 unfold eX storedH
 rw[e]
 by_cases q:(atKey xs k).isSome=true
 ·rw[Qj q,Qj q];exact r.q9 k ry
 ·rw[Qk q,Qk q];exact Paired.snoc r ⟨rfl,hb,ry⟩
theorem KT.keeps(r:KT H ah xs)(ht:∀ b ys,H b=some (.tup ys)->H' b=some (.tup ys)):KT H' ah xs:=
 Paired.qM r fun _ _ z=>⟨z.1,ht _ _ z.2.1,z.2.2⟩
section
variable {P:Program}{w:World}{H:Hp}{h:Heap}{a:Addr}
theorem EG{u:HO}(ok:de P w H h)(e:Rd H a u):cZ P w H h a u:=e.ok ok
theorem tH{ah:List (Key×V)}(ok:de P w H h)(e:Rd H a (.dK ah)):ah.length<=sizeLine/\(a==sysModules)=false/\∃ vs,KV ah vs/\h.DictOf (hZ P w) a vs:=
 show cZ P w H h a (.dK ah)from EG ok e
theorem EH{ah:List (Key×V)}(ok:de P w H h)(e:H a=some (.dK ah)):ah.length<=sizeLine/\(a==sysModules)=false/\∃ vs,KV ah vs/\h.DictOf (hZ P w) a vs:=tH ok (.inl e)
theorem tI{ks:List Key}(ok:de P w H h)(e:H a=some (.tup (ks.map kV))):(tupleKind (hZ P w)).is h ks a:=by
 obtain⟨_,aj,r,o,h1,h2,⟨n,h3⟩,_⟩:=(show cZ P w H h a (.tup (ks.map kV))from ok a _ e)
 exact⟨o,aj.toArray,n,h1,h2,h3,by simpa using EF r⟩
theorem tJ(ok:de P w H h)(e:Rd H a (.dT ah)):ah.length<=sizeLine/\(a==sysModules)=false /\
  ∃ xs,KT H ah xs/\h.DictOfH (tupleKind (hZ P w)) a xs:=by
 obtain⟨z,y,xs,r,o,es,ep,h1,h2,h3,h4,h5⟩:=(show cZ P w H h a (.dT ah)from EG ok e)
 refine⟨z,y,xs,r,o,es,ep,h1,h2,h3,h4,fun x hx=>?_,h5⟩
 have all:∀ {l:List (List Key×V)} {m:List (List Key×Addr×Value)},KT H l m->∀ x∈m,(tupleKind (hZ P w)).is h x.1 x.2.1:=by
  intro l m q
  induction q with
  | nil=>intro x hx;exact nomatch hx
  | @cons p q ps qs hq t ih=>
   intro x hx
   rcases Qw.mp hx with e|hx
   ·subst e
    exact tI ok (by rw[<- hq.1];exact hq.2.1)
   ·exact ih x hx
 exact all r x hx
theorem tK(ok:de P w H h)(e:H a=some (.dT ah)):ah.length<=sizeLine/\(a==sysModules)=false /\
  ∃ xs,KT H ah xs/\h.DictOfH (tupleKind (hZ P w)) a xs:=tJ ok (.inl e)
end
def jL (H:Hp)(a:Addr)(y:V)(r:Option V):Prop:=
 (∃ ah k,Rd H a (.dK ah)/\y=kV k/\r=fx ah k)\/∃ ah k b,Rd H a (.dT ah)/\y=.ref b/\H b=some (.tup (k.map kV))/\r=fx ah k
def oe (H:Hp)(a:Addr)(y v:V)(H':Hp):Prop:=
 (∃ ah k,H a=some (.dK ah)/\y=kV k/\ah.length<sizeLine/\H'=upd H a (.dK (eX ah k v))) \/
 ∃ ah k b,H a=some (.dT ah)/\y=.ref b/\H b=some (.tup (k.map kV))/\ah.length<sizeLine/\H'=upd H a (.dT (eX ah k v))
theorem jL.k{ah:List (Key×V)}{k:Key}(e:H a=some (.dK ah)):jL H a (kV k) (fx ah k):=.inl ⟨ah,k,.inl e,rfl,rfl⟩
theorem jL.t{k:List Key}(e:H a=some (.dT ah))(eb:H b=some (.tup (k.map kV))):jL H a (.ref b) (fx ah k):=.inr ⟨ah,k,b,.inl e,rfl,eb,rfl⟩
theorem oe.k{ah:List (Key×V)}{k:Key}(e:H a=some (.dK ah))(hl:ah.length<sizeLine):oe H a (kV k) v (upd H a (.dK (eX ah k v))):=.inl ⟨ah,k,e,rfl,hl,rfl⟩
theorem oe.t{k:List Key}(e:H a=some (.dT ah))(eb:H b=some (.tup (k.map kV)))(hl:ah.length<sizeLine) :
  oe H a (.ref b) v (upd H a (.dT (eX ah k v))):=.inr ⟨ah,k,b,e,rfl,eb,hl,rfl⟩
section
variable {X:Cx}{pins:List (Addr×Obj)}{σ:St}{H:Hp}{s:Shared}{a:Addr}{y v:V}{u r:Value}{o:Option V}{A:Around}{E:Value->Shared->Prop}
theorem Inv.EI(I:Inv X pins σ H s):sysModules<s.heap.objs.size:=by
 have h:mainGlobals<s.heap.objs.size:=(I.mod.glob.keeps I.bk).lt
 exact JQ (by decide) h
theorem Np(hu:A.units+1<cLine)(I:Inv X pins σ H s)(g:jL H a y (some v))(ry:bw y u)(h:∀ w' s',Inv X pins σ H s'->bw v w'->Q w' s') :
  wpAny (model X.prog X.w) A (getItem (.ref a) u) Q E s:=by
 rcases g with⟨ah,k,e,ey,l⟩|⟨ah,k,b,e,ey,eb,l⟩
 ·subst ey
  obtain⟨z,hd,vs,rel,dd⟩:=tH I.aB e
  obtain⟨w',hw,kJ⟩:=kG.some_of (v:=v) (o:=valueAt vs k) (by rw[l];exact rel.val k)
  exact wpAny_getItem_of (tG ry) dd.mapOf hw (h w' _ (I.tok _) kJ)
 ·subst ey
  cases (show u=Value.ref b from ry)
  obtain⟨z,hd,xs,rel,dd⟩:=tJ I.aB e
  obtain⟨w',hw,kJ⟩:=kG.some_of (v:=v) (o:=(atKey xs k).map (·.2)) (by rw[l];exact rel.val k)
  obtain⟨p,hp,Nq⟩:=Qv.mp hw
  refine wpAny_getItem_heap (Z9 hu) (tI I.aB eb) dd hp ?_
  rw[Nq]
  exact h w' _ (I.tok _) kJ
theorem Nr(hu:A.units+1<cLine)(I:Inv X pins σ H s)(g:jL H a y o)(ry:bw y u)(h:∀ s',Inv X pins σ H s'->Q (.bool (!o.isSome)) s') :
  wpAny (model X.prog X.w) A (compareOp .NotIn u (.ref a)) Q E s:=by
 rcases g with⟨ah,k,e,ey,l⟩|⟨ah,k,b,e,ey,eb,l⟩
 ·subst ey
  obtain⟨z,hd,vs,rel,dd⟩:=tH I.aB e
  refine wpAny_notIn_of (tG ry) hd dd.mapOf ?_
  rw[<- (rel.val k).eY,<- l]
  exact h _ (I.tok _)
 ·subst ey
  cases (show u=Value.ref b from ry)
  obtain⟨z,hd,xs,rel,dd⟩:=tJ I.aB e
  refine wpAny_notIn_heap (Z9 hu) (tI I.aB eb) hd dd ?_
  have q:=(rel.val k).eY
  rw[Option.isSome_map]at q
  rw[<- q,<- l]
  exact h _ (I.tok _)
theorem u5{t':Nat}{ob:HO}(I:Inv X pins σ H s)(mu:uF (H a))(hs:Heap.SameBut a s.heap h')(he:∃ q,h'.get? a=some q)(new:cZ X.prog X.w (upd H a ob) h' a ob) :
  Inv X pins σ (upd H a ob) { s with heap:=h',toks:=t' }:=
 I.write (x:=a) (e:=a) mu (.inl rfl) (fun b q hb z=>(hs.2 b hb).trans z) he new
theorem EJ{ah:List (Key×V)}{vs:List (Key×Value)}(z:ah.length<=sizeLine)(hd:(a==sysModules)=false)(rel:KV ah vs)(dd:h'.DictOf (hZ P w) a vs) :
  cZ P w H' h' a (.dK ah):=⟨z,hd,vs,rel,dd⟩
theorem Nt{Q:Unit->Shared->Prop}(hu:A.units+1<cLine)(I:Inv X pins σ H s)(g:oe H a y v H')(ry:bw y u)(rv:bw v r)(h:∀ s',Inv X pins σ H' s'->Q () s') :
  wpAny (model X.prog X.w) A (setItem (.ref a) u r) Q E s:=by
 rcases g with⟨ah,k,e,ey,l,eH⟩|⟨ah,k,b,e,ey,eb,l,eH⟩
 ·subst ey eH
  obtain⟨z,hd,vs,rel,dd⟩:=EH I.aB e
  have hz:vs.length<=sizeLine:=by rw[<- rel.length];exact z
  have hl:(eX ah k v).length<=sizeLine:=by have:=xK ah k v;omega
  refine wpAny_setItem_pairs (hsz:=hz) (tG ry) dd fun h' lV hs=>h _ ?_
  have he:∃ q,h'.get? a=some q:=let ⟨q,_,_,hq,_⟩:=lV;⟨q,hq⟩
  exact u5 I (by rw[e];exact True.intro) hs he (EJ hl hd (rel.put k rv) lV)
 ·subst ey eH
  cases (show u=Value.ref b from ry)
  obtain⟨z,hd,xs,rel,dd⟩:=tK I.aB e
  have hz:xs.length<=sizeLine:=by rw[<- Jo rel];exact z
  have hl:(eX ah k v).length<=sizeLine:=by have:=xK ah k v;omega
  refine wpAny_setItem_heap (hsz:=hz) (Z9 hu) (tI I.aB eb) dd fun h' lV hs=>h _ ?_
  obtain⟨q,es,ep,hq,h2,h3,h4,_,h5⟩:=lV
  refine u5 I (by rw[e];exact True.intro) hs ⟨q,hq⟩ ⟨hl,hd,_,(rel.put k eb rv).keeps fun c ys ec=>?_,q,es,ep,hq,h2,h3,h4,h5⟩
  rw[aZ (zK ec e (fun z=>nomatch z))]
  exact ec
end
def Az (i:Expr):Prop:=∀ ov iv,subscripted i false ov iv=operate [ov,iv] (getItem ov iv)
theorem Nu{E:Value->Shared->Prop}{value slice:Expr}{T id:String}
  (hl:typeLookup (.type T) "__getitem__" = pure (some (.builtin id))) (hs:Az slice)
  (h:wpAny (model prog w) A (eval value env) (fun o aO=>wpAny (model prog w) A (eval slice env) (fun i fZ=>fZ.TypeIs o T/\wpAny (model prog w) A (getItem o i) Q E fZ) E aO) E s) :
  wpAny (model prog w) A (eval (.Subscript value slice pos) env) Q E s:=by
 refine Subscript_ (ZJ h (fun o aO og=>ZJ og (fun i fZ lX=>?_) fun _ _ x=>x) fun _ _ x=>x)
 obtain⟨hT,lX⟩:=lX
 unfold subscriptTail
 refine Qa ?_
 rw[getitemInPython_of_ne hT.not_modules]
 refine Qa (YK hT hl ?_)
 have fin:wpAny (model prog w) A (subscripted slice false o i) (fun r i_=>wpAny (model prog w) A (letTemporaryGo value o r >>= fun _=>pure r) Q E i_) E fZ:=by
  rw[hs o i]
  exact wpAny_operating (ZJ lX (fun r i_ oh=>Qa (wpAny_letTemporaryGo (Qe oh))) fun _ _ x=>x)
 first
  | exact Qe (Qa fin)
  | exact Qa (Qe (Qa fin))
  | exact Qa fin
theorem Nv{y:V}(I:Inv X pins σ H s)(g:jL H a y o):s.TypeIs (.ref a) "dict":=by
 rcases g with⟨ah,k,e,_,_⟩|⟨ah,k,b,e,_,_,_⟩
 ·obtain⟨_,_,vs,_,dd⟩:=tH I.aB e
  exact dd.typeIs
 ·obtain⟨_,_,xs,_,dd⟩:=tJ I.aB e
  exact dd.typeIs
def Nw (td ty:TE):TE:=fun σ H Q=>td σ H fun x H1=>ty σ H1 fun y H2=>∃ a v,x=.ref a/\jL H2 a y (some v)/\Q v H2
def Nx (ty td:TE):TE:=fun σ H Q=>ty σ H fun y H1=>td σ H1 fun x H2=>∃ a o,x=.ref a/\jL H2 a y o/\Q (.bl (!o.isSome)) H2
def Ny (td ty tv:TE):TS:=fun D σ H=>tv σ H fun v H1=>td σ H1 fun x H2=>ty σ H2 fun y H3=>∃ a H4,x=.ref a/\oe H3 a y v H4/\D.nx σ H4
section
variable {X:Cx}{o i e value:Expr}{pos pos' Nz:Pos}{td ty tv:TE}
theorem NA(hu:X.A.units+1<cLine)(ho:PE X o td)(hi:PE X i ty)(hs:Az i):PE X (.Subscript o i pos) (Nw td ty):=by
 intro pins s σ H Q I h
 refine Nu PySem.F.slot_dict_getitem.lookup hs (aW (ho pins s σ H _ I h) fun u s1 ⟨x,H1,I1,rx,q1⟩=>aW (hi pins s1 σ H1 _ I1 q1) fun iv s2 ai=>?_)
 obtain⟨y,H2,I2,ry,a,v,ex,g,q2⟩:=ai
 subst ex
 obtain rfl:u=Value.ref a:=rx
 exact⟨Nv I2 g,Np hu I2 g ry fun w' s3 I3 kJ=>⟨v,H2,I3,kJ,q2⟩⟩
theorem NB(hu:X.A.units+1<cLine)(hi:PE X i ty)(ho:PE X o td):PC X .NotIn i o (Nx ty td):=by
 intro pins s σ H Q I h
 refine aW (hi pins s σ H _ I h) fun iv s1 ⟨y,H1,I1,ry,q1⟩=>aW (ho pins s1 σ H1 _ I1 q1) fun u s2 ai=>?_
 obtain⟨x,H2,I2,rx,a,ov,ex,g,q2⟩:=ai
 subst ex
 obtain rfl:u=Value.ref a:=rx
 exact Nr hu I2 g ry fun s3 I3=>⟨.bl (!ov.isSome),H2,I3,rfl,q2⟩
theorem NC(hu:X.A.units+1<cLine)(ho:PE X o td)(hi:PE X i ty)(hv:PE X value tv)(hs:swapsWith value (some (.Subscript o i pos')) pos.line X.env=pure false) :
  PS X (.Assign [.Subscript o i pos'] value pos) (Ny td ty tv):=by
 intro pins s σ H D I h
 refine wpAny_Assign_Subscript (aW (hv pins s σ H _ I h) fun r s1 ⟨v,H1,I1,rv,q1⟩=>aW (ho pins s1 σ H1 _ I1 q1) fun u s2 ⟨x,H2,I2,rx,q2⟩=>aW (hi pins s2 σ H2 _ I2 q2) fun iv s3 ⟨y,H3,I3,ry,a,H4,ex,g,q3⟩=>?_) hs
 subst ex
 obtain rfl:u=Value.ref a:=rx
 exact Nt hu I3 g ry rv fun s4 I4=>⟨σ,H4,I4,q3⟩
end
theorem ND(h:Heap)(hb:sysModules<h.objs.size):cZ P w H (h.push { cls:=.type "dict",data:=.dict #[] }) h.objs.size (.dK []):=
 ⟨QS _,Z0.mpr (Jt (QP hb)),[],.nil,Heap.DictOf.new h⟩
theorem NF(h:Heap)(hb:sysModules<h.objs.size):cZ P w H (h.push { cls:=.type "dict",data:=.dict #[] }) h.objs.size (.dT []):=
 ⟨QS _,Z0.mpr (Jt (QP hb)),[],.nil,_,#[],0,Qs _ rfl,⟨rfl,rfl,rfl⟩,rfl,rfl,JK⟩
def NH:TE:=fun _ H Q=>∀ p,H p=none->Q (.ref p) (upd H p (.dT []))
section
variable {X:Cx}{pos:Pos}
theorem NI:PE X (.Dict [] [] pos) NH:=fun pins s σ H Q I h=>
 wpAny_Dict_empty ⟨.ref s.heap.objs.size,_,I.laid (a:=s.heap.objs.size) (o:=.dT []) (t':=s.toks) (fun _ _ q=>Qd _ q) (Qi _) (NF s.heap I.EI),rfl,h _ (I.aB.fresh (Qi _))⟩
end
def AA:List (TE×TE)->St->Hp->(List (V×V)->Hp->Prop)->Prop
 | [],_,H,Q=>Q [] H
 | (tk,tv)::r,σ,H,Q=>tk σ H fun x H1=>tv σ H1 fun y H2=>AA r σ H2 fun ps H3=>Q ((x,y)::ps) H3
abbrev VV:List (V×V)->List (Value×Value)->Prop:=Paired fun p q=>bw p.1 q.1/\bw p.2 q.2
def xM (X:Cx)(pos:Pos)(keys:List (Option Expr))(values:List Expr)(pM:List (TE×TE)):Prop:=
 ∀ (pins:List (Addr×Obj)) (s:Shared) (σ:St) (H:Hp) (Q:List (V×V)->Hp->Prop),Inv X pins σ H s->AA pM σ H Q->
  wpAny (model X.prog X.w) X.A (evalPairs (pairTrees keys values X.env pos)) (fun vs s'=>∃ ps H',Inv X pins σ H' s'/\VV ps vs/\Q ps H') X.xe s
theorem NJ:xM X pos [] [] []:=fun pins s σ H Q I h=>pairTrees_nil_walk ⟨[],H,I,.nil,h⟩
theorem EK{k v:Expr}{ks:List (Option Expr)}{vs:List Expr}{tk tv:TE}(hk:PE X k tk)(hv:PE X v tv)(hr:xM X pos ks vs pM) :
  xM X pos (some k::ks) (v::vs) ((tk,tv)::pM):=fun pins s σ H Q I h=>
 pairTrees_cons_walk (aW (hk pins s σ H _ I h) fun u s1 ⟨x,H1,I1,rx,q1⟩=>aW (hv pins s1 σ H1 _ I1 q1) fun w2 s2 ⟨y,H2,I2,ry,q2⟩=>
  aW (hr pins s2 σ H2 _ I2 q2) fun ws s3 ⟨ps,H3,I3,rel,q3⟩=>⟨(x,y)::ps,H3,I3,.cons ⟨rx,ry⟩ rel,q3⟩)
def q_ (ah more:List (Key×V)):List (Key×V):=more.foldl (fun acc kv=>eX acc kv.1 kv.2) ah
theorem KV.merge:∀ {more:List (Key×V)} {rs:List (Key×Value)} {ah:List (Key×V)} {vs:List (Key×Value)},KV more rs->KV ah vs->KV (q_ ah more) (merged vs rs):=by
 intro more rs ah vs r
 unfold KV at r
 induction r generalizing ah vs with
 | nil=>intro q;exact q
 | @cons p q ps qs h t ih=>
  intro r0
  have e:KV (eX ah p.1 p.2) (stored vs q.1 q.2):=by
   have:=r0.put p.1 h.2
   rw[<- h.1];exact this
  exact ih e
theorem EL:∀ (more ah:List (Key×V)),(q_ ah more).length<=ah.length+more.length
 | [],ah=>by show ah.length<=ah.length+0;omega
 | p::r,ah=>by
  have h1:=EL r (eX ah p.1 p.2)
  have h2:=xK ah p.1 p.2
  show(q_ (eX ah p.1 p.2) r).length<=_
  rw[QO];omega
theorem EM{P:Program}{w:World}:∀ {ah:List (Key×V)} {ws:List (Value×Value)},VV (ah.map fun kv=>(kV kv.1,kv.2)) ws->∃ rs,Carries (hZ P w) ws rs/\KV ah rs
 | [],_,r=>by rw[Ua]at r;cases r;exact⟨[],True.intro,.nil⟩
 | p::ah,_,r=>by
  rw[QG]at r
  cases r with
  | @cons a b as bs h t=>
   obtain⟨rs,c,q⟩:=EM (P:=P) (w:=w) t
   obtain⟨b1,b2⟩:=b
   exact⟨(p.1,b2)::rs,⟨tG h.1,rfl,c⟩,.cons ⟨rfl,h.2⟩ q⟩
def NK (pM:List (TE×TE)):TE:=fun σ H Q=>∀ p,H p=none->AA pM σ (upd H p (.dK [])) fun ps H2=>H2 p=some (.dK [])/\∃ ah:List (Key×V),ps=ah.map (fun kv=>(kV kv.1,kv.2))/\ah.length<=15/\Q (.ref p) (upd H2 p (.dK (q_ [] ah)))
theorem NL{keys:List (Option Expr)}{values:List Expr}(h:xM X pos keys values pM)(eI:keys.all (·.isSome)=true)(hl:keys.length=values.length)(h0:keys ≠ [])
  (NM:keys.length<=15):PE X (.Dict keys values pos) (NK pM):=by
 intro pins s σ H Q I q
 have hn:=I.aB.fresh (Qi s.heap.objs.size)
 have I1:=I.laid (a:=s.heap.objs.size) (o:=.dK []) (h':=s.heap.push { cls:=.type "dict",data:=.dict #[] }) (t':=s.toks) (fun _ _ q=>Qd _ q) (Qi _) (ND s.heap I.EI)
 refine wpAny_Dict_walk (knd:=hZ X.prog X.w) eI hl h0 NM (aW (h pins _ σ _ _ I1 (q _ hn)) fun ws s2 ai=>?_)
 obtain⟨ps,H2,I2,rel,e,ah,ep,lk,q2⟩:=ai
 subst ep
 obtain⟨rs,c,rk⟩:=EM (P:=X.prog) (w:=X.w) rel
 obtain⟨z,hd,NN,r0,dd⟩:=EH I2.aB e
 cases r0
 refine⟨rs,c,dd,fun h' lV hs=>⟨.ref s.heap.objs.size,_,?_,rfl,q2⟩⟩
 have hz:(q_ [] ah).length<=sizeLine:=by
  have h1:=EL ah []
  rw[Jf]at h1
  rw[ZR];omega
 have he:∃ q,h'.get? s.heap.objs.size=some q:=let ⟨q,_,_,hq,_⟩:=lV;⟨q,hq⟩
 exact u5 I2 (by rw[e];exact True.intro) hs he (EJ hz hd (rk.merge .nil) lV)
structure M1 (X:Cx) (o:Expr) (m:Str) (apos:Pos) (e:Expr) (az:Pos):Prop where
 base:attributeBase o m X.env (eval o X.env)=eval o X.env
 dM:((backTo az (starEach [e] X.env)).all (fun x=>!x.1)&&(backToKw az (keywordEach [] X.env)).all (fun x=>x.1.isSome)
  && decide (([e]:List Expr).length+([]:List Keyword).length+(if([]:List Keyword).isEmpty then 0 else 1)<30))=true
 line:(apos.endLine==az.line)=true
 trees:backTo az (starEach [e] X.env)=[(false,eval e X.env)]
structure M2 (X:Cx) (o:Expr) (m:Str) (apos:Pos) (e f:Expr) (az:Pos):Prop where
 base:attributeBase o m X.env (eval o X.env)=eval o X.env
 dM:((backTo az (starEach [e,f] X.env)).all (fun x=>!x.1)&&(backToKw az (keywordEach [] X.env)).all (fun x=>x.1.isSome)
  && decide (([e,f]:List Expr).length+([]:List Keyword).length+(if([]:List Keyword).isEmpty then 0 else 1)<30))=true
 line:(apos.endLine==az.line)=true
 trees:backTo az (starEach [e,f] X.env)=[(false,eval e X.env),(false,eval f X.env)]
def tL (H:Hp)(a:Addr):Prop:=(∃ ah,Rd H a (.dK ah))\/∃ ah,Rd H a (.dT ah)
theorem AB(I:Inv X pins σ H s)(d:tL H a) :
  s.TypeIs (.ref a) "dict" /\ (∀ b,Value.ref a=.ref b->∃ ob,s.heap.get? b=some ob/\ob.dict=none)/\(a==sysModules)=false:=by
 rcases d with⟨ah,e⟩|⟨ah,e⟩
 ·obtain⟨_,hd,vs,_,dd⟩:=tH I.aB e
  refine⟨dd.typeIs,fun b q=>?_,hd⟩
  cases q
  obtain⟨ob,_,_,h1,h2,_⟩:=dd
  exact⟨ob,h1,h2.2.1⟩
 ·obtain⟨_,hd,xs,_,dd⟩:=tJ I.aB e
  refine⟨dd.typeIs,fun b q=>?_,hd⟩
  cases q
  obtain⟨ob,_,_,h1,h2,_⟩:=dd
  exact⟨ob,h1,h2.2.1⟩
section
variable {X:Cx}{pins:List (Addr×Obj)}{σ:St}{H:Hp}{s:Shared}{a:Addr}{y d:V}{u r:Value}{o:Option V}{A:Around}{E:Value->Shared->Prop}
theorem NO(hu:A.units+1<cLine)(I:Inv X pins σ H s)(g:jL H a y o)(ry:bw y u)(rd:bw d r)(h:∀ w' s',Inv X pins σ H s'->bw (o.getD d) w'->Q w' s') :
  wpAny (model X.prog X.w) A (call (.builtin "dict.get") [.ref a,u,r]) Q E s:=by
 rcases g with⟨ah,k,e,ey,l⟩|⟨ah,k,b,e,ey,eb,l⟩
 ·subst ey
  obtain⟨z,hd,vs,rel,dd⟩:=tH I.aB e
  refine VE Yp dd.typeIs VF (Vw _ _ _) (meets_dict_get_default (hZ X.prog X.w) a (tG ry) hd r) ⟨_,dd.mapOf,h _ _ (I.tok _) ?_⟩
  rw[l]
  exact(rel.val k).getD rd
 ·subst ey
  cases (show u=Value.ref b from ry)
  obtain⟨z,hd,xs,rel,dd⟩:=tJ I.aB e
  refine VE Yp dd.typeIs VF (Vw _ _ _) (meetsH_dict_get_default (tupleKind (hZ X.prog X.w)) a b hd r) ⟨Z9 hu,k,xs,tI I.aB eb,dd,h _ _ (I.tok _) ?_⟩
  rw[l]
  exact(rel.val k).getD rd
end
def NP (td ty tx:TE):TE:=fun σ H Q=>td σ H fun x H1=>∃ a,x=.ref a/\tL H1 a/\ty σ H1 fun y H2=>tx σ H2 fun z H3=>∃ o,jL H3 a y o/\Q (o.getD z) H3
section
variable {X:Cx}{o e f:Expr}{apos az:Pos}{td ty tx:TE}
theorem NQ(hu:X.A.units+1<cLine)(ho:PE X o td)(he:PE X e ty)(hf:PE X f tx)(m:M2 X o "get" apos e f az):PE X (.Call (.Attribute o "get" apos) [e,f] [] az) (NP td ty tx):=by
 intro pins s σ H Q I h
 refine Vi m.base m.dM m.line J9 Yp PySem.F.type_dict_get (aW (ho pins s σ H _ I h) fun u s1 ai=>?_)
 obtain⟨x,H1,I1,rx,a,ex,d,q1⟩:=ai
 subst ex
 obtain rfl:u=Value.ref a:=rx
 obtain⟨t1,t2,_⟩:=AB I1 d
 refine⟨t1,t2,?_⟩
 rw[m.trees]
 refine Jy rfl (JI (Z7 (aW (he pins s1 σ H1 _ I1 q1) fun iv s2 ⟨y,H2,I2,ry,q2⟩=>
  Z7 (aW (hf pins s2 σ H2 _ I2 q2) fun fv s3 ⟨z,H3,I3,rz,ov,g,q3⟩=>Yd ?_))))
 exact NO hu I3 g ry rz fun w' s4 I4 kJ=>⟨_,H3,I4,kJ,q3⟩
end
theorem NR{R:Result->Shared->Prop}{target:Expr}{it acc:Value}(I:Nat->Shared->Prop)
  (turn:∀ n s,I n s->wpAny (model prog w) A (pyNext it) (fun r aO=>match r with
    | none=>R (.ok .next) aO
    | some v=>wpAny (model prog w) A (letOwnedTupleGo target it v) (fun _ pO=>wpAny (model prog w) A (assign target env v) (fun _ fZ=>
      wpAny (model prog w) A (forIn ifs true fun c r=>if r=true then do let ok <- isTrue c env (eval c env);pure (ForInStep.yield ok)else pure (ForInStep.yield r)) (fun ok i_=>
       if ok=true then wpAny (model prog w) A (eval elt env) (fun x oi=>
        wpAny (model prog w) A (call (.builtin "list.append") [acc,x]) (fun _ u6=>∃ m,m<n/\I m u6) (fun _ _=>False) oi) (fun _ _=>False) i_
       else ∃ m,m<n/\I m i_) (fun _ _=>False) fZ) (fun _ _=>False) pO) (fun _ _=>False) aO) (fun _ _=>False) s)
  (n:Nat) (h:I n s):codeAny (model prog w) A (.compLoop (.ListComp elt [⟨target,iter,ifs,0⟩] scope pos) 0 it acc env) R s:=by
 refine codeAny_loop rfl I (fun n s hI=>?_) n h
 show wpAny _ A ((compTurn (.ListComp elt [⟨target,iter,ifs,0⟩] scope pos) 0 it acc env).onRaise (fun x=>do noteFrame x env;theTreesLotGoes x)) _ _ s
 refine wpAny_noted ?_
 rw[compTurn_list]
 refine Qa (wpAny_standAt (Qa (ZJ (turn n s hI) (fun r aO og=>?_) fun _ _ h'=>h'.elim)))
 cases r with
 | none=>exact Qe og
 | some v=>
  refine Qa (ZJ og (fun _ pO u7=>?_) fun _ _ h'=>h'.elim)
  refine Qa (ZJ u7 (fun _ fZ lX=>Qa (ZJ lX (fun ok i_ oh=>?_) fun _ _ h'=>h'.elim)) fun _ _ h'=>h'.elim)
  cases ok with
  | false=>exact Qe ⟨rfl,oh⟩
  | true=>
   exact Qa (Qa (ZJ oh (fun x oi AD=>Qa (ZJ AD (fun _ u6 AE=>Qe (Qe ⟨rfl,AE⟩)) fun _ _ h'=>h'.elim)) fun _ _ h'=>h'.elim))
theorem NS{M:Model}{A:Around}{E:Value->Shared->Prop}{globals:Addr}{cl:List (Str×Addr)}{outer:Env}{Q:Env->Shared->Prop}
  (hQ:Q (newEnv scope s.heap.objs.size globals (cellsFrom (s.heap.objs.size+1) scope.names cl) qual none .none (some outer) builtinsNs)
    { s with heap:=pushCells (s.heap.push { cls:=.type "dict",data:=.dict #[] }) scope.names }) :
  wpAny M A (newFunctionEnv scope globals cl [] qual none .none (some outer)) Q E s:=by
 simp only[newFunctionEnv,Option.isSome_some,Zz]
 refine Qa (wpAny_alloc ?_)
 refine Qa (wpAny_layCells _ (fun name kind cells=>by cases NT:kind==NameKind.cell<;>simp[NT]) _ _ _ _ ?_)
 rw[show({ s with heap:=s.heap.push { cls:=.type "dict",data:=.dict #[] } }:Shared).heap.objs.size=s.heap.objs.size+1 from ZK ..]
 refine Qa ?_
 rw[List.forIn_nil]
 exact Qe (Qe hQ)
def ic (cells:List (Str×Addr)):List (Str×NameKind)->List (Str×Addr)->List (Str×Addr)
 | [],acc=>acc
 | (n,k)::r,acc=>if k == .free then(match cells.lookup n with
   | some c=>ic cells r ((n,c)::acc)
   | none=>ic cells r acc)else ic cells r acc
theorem EN(h:∀ y∈scope.names,y.2=.free->∃ c,env.cells.lookup y.1=some c):closureFor scope env=pure (ic env.cells scope.names []):=by
 unfold closureFor
 have key:∀ (names:List (Str×NameKind)) (acc:List (Str×Addr)),(∀ y∈names,y.2=.free->∃ c,env.cells.lookup y.1=some c)->
   (forIn names acc (fun(x:Str×NameKind) (r:List (Str×Addr))=>(match x with
     | (name,kind)=>if(kind==NameKind.free)=true then do
       let c <- cellOf env name
       pure (ForInStep.yield ((name,c)::r))
      else pure (ForInStep.yield r):Sem (ForInStep (List (Str×Addr))))))=(pure (ic env.cells names acc):Sem (List (Str×Addr))):=by
  intro names
  induction names with
  | nil=>intro acc _;rfl
  | cons y r ih=>
   intro acc hh
   obtain⟨n,kd⟩:=y
   rw[List.forIn_cons]
   unfold ic
   by_cases hk:(kd==NameKind.free)=true
   ·obtain⟨c,hc⟩:=hh (n,kd) Qh (by simpa using hk)
    have ng:env.cells.lookup n=some c:=hc
    simp only[hk,Zz,ng]
    have e:cellOf env n=pure c:=by unfold cellOf;rw[ng]
    rw[e]
    exact ih ((n,c)::acc) fun z hz=>hh z (Qg _ hz)
   ·simp only[hk]
    exact ih acc fun z hz=>hh z (Qg _ hz)
 exact(ZQ (fun m=>m >>= fun cs=>(pure cs:Sem (List (Str×Addr)))) (key scope.names [] h)).trans rfl
theorem xN:∀ {names:List (Str×NameKind)} {acc:List (Str×Addr)},(∀ y c,(y,c)∈acc->cells.lookup y=some c)->∀ y c,(y,c)∈ic cells names acc->cells.lookup y=some c
 | [],_,h,y,c,m=>h y c m
 | (n,k)::r,acc,h,y,c,m=>by
  unfold ic at m
  split at m
  ·split at m
   next c' e=>
    refine xN (acc:=(n,c')::acc) (fun z d hz=>?_) y c m
    rcases Qw.mp hz with q|q
    ·cases q;exact e
    ·exact h z d q
   ·exact xN h y c m
  ·exact xN h y c m
theorem xO:∀ {names:List (Str×NameKind)} {acc:List (Str×Addr)} {y:Str},(acc.lookup y).isSome=true->((ic cells names acc).lookup y).isSome=true
 | [],_,_,h=>h
 | (n,k)::r,acc,y,h=>by
  unfold ic
  split
  ·split
   ·refine xO ?_
    rw[Zr]
    split
    ·rfl
    ·exact h
   ·exact xO h
  ·exact xO h
theorem u9(hc:cells.lookup y=some c):∀ {names:List (Str×NameKind)} {acc:List (Str×Addr)},(y,NameKind.free)∈names->((ic cells names acc).lookup y).isSome=true
 | (n,k)::r,acc,h=>by
  unfold ic
  rcases Qw.mp h with q|q
  ·cases q
   simp only[hc]
   rw[Qj (by rfl)]
   refine xO ?_
   rw[Zr,Z6]
   rfl
  ·split
   ·split
    ·exact u9 hc q
    ·exact u9 hc q
   ·exact u9 hc q
theorem AF:∀ {names:List (Str×NameKind)} {h:Heap} {acc:List (Str×Addr)} {y:Str} {c:Addr},(y,c)∈cellsFrom h.objs.size names acc->(y,c)∈acc\/(h.objs.size<=c/\(pushCells h names).IsCell c none)
 | [],_,_,_,_,m=>.inl m
 | (n,k)::r,h,acc,y,c,m=>by
  unfold cellsFrom at m
  unfold pushCells
  split at m
  next hk=>
   rw[Qj hk]
   have m':(y,c)∈cellsFrom (h.push { cls:=.type "cell",data:=.cell none }).objs.size r ((n,h.objs.size)::acc):=by rw[ZK];exact m
   rcases AF m' with q|⟨q1,q2⟩
   ·rcases Qw.mp q with e|q
    ·cases e
     refine .inr ⟨Qi _,_,J2 _ _ _ _ (Qs _ rfl),rfl⟩
    ·exact .inl q
   ·rw[ZK]at q1
    exact .inr ⟨by omega,q2⟩
  next hk=>
   rw[Qk hk]
   exact AF m
theorem AG:∀ {names:List (Str×NameKind)} {n:Nat} {acc:List (Str×Addr)},(∀ y c,(y,c)∈acc->c<n)->(∀ x y c,(x,c)∈acc->(y,c)∈acc->x=y)->∀ x y c,(x,c)∈cellsFrom n names acc->(y,c)∈cellsFrom n names acc->x=y
 | [],_,_,_,h=>h
 | (nm,k)::r,n,acc,bX,h=>by
  unfold cellsFrom
  split
  ·refine AG (n:=n+1) (acc:=(nm,n)::acc) (fun y c m=>?_) (fun x y c m1 m2=>?_)
   ·rcases Qw.mp m with e|m
    ·cases e;exact Zv _
    ·exact Zk (bX y c m)
   ·rcases Qw.mp m1 with e1|m1<;>rcases Qw.mp m2 with e2|m2
    ·cases e1;cases e2;rfl
    ·cases e1;exact absurd (bX y _ m2) (Q0 _)
    ·cases e2;exact absurd (bX x _ m1) (Q0 _)
    ·exact h x y c m1 m2
  ·exact AG bX h
theorem AH:∀ {names:List (Str×NameKind)} {n:Nat} {acc:List (Str×Addr)},lo<=n->(∀ c,acc.lookup y=some c->lo<=c)->∀ c,(cellsFrom n names acc).lookup y=some c->lo<=c
 | [],_,_,_,h=>h
 | (nm,k)::r,n,acc,hn,h=>by
  unfold cellsFrom
  split
  ·refine AH (n:=n+1) (by omega) fun c e=>?_
   rw[Zr]at e
   split at e
   ·cases e;exact hn
   ·exact h c e
  ·exact AH hn h
theorem AI:∀ {names:List (Str×NameKind)} {n:Nat} {acc:List (Str×Addr)},lo<=n->(y,NameKind.cell)∈names->∀ c,(cellsFrom n names acc).lookup y=some c->lo<=c
 | (nm,k)::r,n,acc,hn,h=>by
  unfold cellsFrom
  rcases Qw.mp h with q|q
  ·cases q
   rw[Qj (by rfl)]
   refine AH (n:=n+1) (by omega) fun c e=>?_
   rw[Zr,Z6]at e
   cases e;exact hn
  ·split
   ·exact AI (n:=n+1) (by omega) q
   ·exact AI hn q
theorem AJ:∀ {names:List (Str×NameKind)} {n:Nat} {acc:List (Str×Addr)},(y,NameKind.cell) ∉ names->(cellsFrom n names acc).lookup y=acc.lookup y
 | [],_,_,_=>rfl
 | (nm,k)::r,n,acc,h=>by
  unfold cellsFrom
  split
  next hk=>
   rw[AJ (fun z=>h (Qg _ z)),Zr]
   have cC:(y==nm)=false:=by
    cases e:y==nm with
    | false=>rfl
    | true=>
     have e1:y=nm:=Jq.mp e
     have e2:k=NameKind.cell:=by simpa using hk
     exact absurd (by rw[e1,<- e2];exact Qh) h
   rw[cC]
  ·exact AJ fun z=>h (Qg _ z)
def pP (env:Env)(y:Str)(k:NameKind):NameKind:=if(k==NameKind.free&&env.scope.kind == .function&&env.kindOf y==some .cell)then .cell else k
theorem AK{env:Env}{y:Str}:∀ (names:List (Str×NameKind)),(names.map fun(n,k)=>if(k==NameKind.free&&env.scope.kind == .function&&env.kindOf n==some .cell)then(n,NameKind.cell)else(n,k)).lookup y=(names.lookup y).map (pP env y)
 | []=>rfl
 | (n,k)::r=>by
  have ih:=AK (env:=env) (y:=y) r
  show List.lookup y ((if(k==NameKind.free&&env.scope.kind == .function&&env.kindOf n==some .cell)=true then(n,NameKind.cell)else(n,k))::_)=_
  cases hx:y==n with
  | true=>
   have e:=Jq.mp hx
   subst e
   rw[Zr,Zr]
   by_cases hc:(k==NameKind.free&&env.scope.kind == .function&&env.kindOf y==some .cell)=true
   ·simp only[pP,hc,Zz,Z6,Jg]
   ·simp only[pP,hc,Z6,Jg]
    simp
  | false=>
   by_cases hc:(k==NameKind.free&&env.scope.kind == .function&&env.kindOf n==some .cell)=true
   ·rw[Qj hc,Zr,Zr];simp only[hx];exact ih
   ·rw[Qk hc,Zr,Zr];simp only[hx];exact ih
theorem EO{l:List (Str×NameKind)}(hn:(l.map (·.1)).Nodup){k:NameKind}(h:(y,k)∈l):l.lookup y=some k:=by
 induction l with
 | nil=>cases h
 | cons p r ih=>
  rw[Zr]
  rcases Qw.mp h with e|h
  ·rw[<- e,Z6]
  ·have cC:y≠p.1:=fun e=>by
    have:=(Q7.mp hn).1
    exact this (by show p.1∈_;rw[<- e];exact Qr.mpr ⟨(y,k),h,rfl⟩)
   have:(y==p.1)=false:=by simpa using cC
   rw[this]
   exact ih (Q7.mp hn).2 h
def ER (scope:Scope)(env:Env)(C:Addr):Env:=
 { newEnv scope C env.globals (cellsFrom (C+1) scope.names (ic env.cells scope.names [])) env.qual none .none (some env) builtinsNs with scope:=relabel scope env }
def f9 (X:Cx)(N':List Str)(scope:Scope)(C:Addr)(s:Shared)(H:Hp)(fp:List Addr):Cx where
 prog:=X.prog
 w:=X.w
 K:=X.K
 mg:=X.mg
 base:=X.base
 A:=X.A
 N:=N'
 cm:=s
 iu:=H
 env:=ER scope X.env C
 outer:=X.stack
 stack:=X.stack
 ex:=fp
 fn:=fun y=>scope.names.lookup y==some .cell
 calm:=X.calm
 pn:=[]
 xe:=fun _ _=>False
structure cb (X:Cx) (k:Nat) (N':List Str) (scope:Scope):Prop where
 kind:scope.kind=.function
 names:(scope.names.map (·.1)).Nodup
 len:N'.length=X.N.length+k
 frees:(scope.names.all fun y=>y.2 != .free||X.env.kindOf y.1==some .cell||X.env.kindOf y.1==some .free)=true
 outs:((N'.zip X.N).all fun p=>(p.1==p.2&&scope.names.lookup p.1==some .free)||scope.names.lookup p.1==none||scope.names.lookup p.1==some .globalImplicit)=true
theorem cb.free{k:Nat}(S:cb X k N' scope)(h:(y,NameKind.free)∈scope.names):X.env.kindOf y=some .cell\/X.env.kindOf y=some .free:=by
 have:=Ju.mp S.frees (y,NameKind.free) h
 simp only[Bool.or_eq_true,bne_iff_ne,ne_eq,Jq]at this
 rcases this with(h1|h1)|h1
 ·exact absurd trivial h1
 ·exact .inl h1
 ·exact .inr h1
theorem cb.out{k:Nat}(S:cb X k N' scope)(cD:i<X.N.length)(h:N'[i]? = some y)(hv:s9 (relabel scope X.env) y):X.N[i]? = some y/\scope.names.lookup y=some .free:=by
 have e2:X.N[i]? = some X.N[i]:=by simp[cD]
 have m:(y,X.N[i])∈N'.zip X.N:=QC (i:=i) (by rw[List.getElem?_zip_eq_some];exact⟨h,e2⟩)
 have:=Ju.mp S.outs _ m
 simp only[Bool.or_eq_true,Yt,Jq]at this
 have hl:(relabel scope X.env).names.lookup y=(scope.names.lookup y).map (pP X.env y):=AK _
 rcases this with(⟨h1,h2⟩|h1)|h1
 ·exact⟨by rw[e2,<- h1],h2⟩
 ·rw[h1]at hl
  rcases hv with z|z|z<;>(rw[hl]at z;cases z)
 ·rw[h1]at hl
  have hr:pP X.env y .globalImplicit=.globalImplicit:=rfl
  rw[Jg,hr]at hl
  rcases hv with z|z|z<;>(rw[hl]at z;cases z)
theorem Un.rf{fs ex:List Addr}{D:Addr}{o:HO}(u:Un fs ex H H' h h')(aB:de P w H h)(hD:h.objs.size<=D):Un fs ex H (upd H' D o) h h':=by
 have ne:∀ b ob,h.get? b=some ob->b≠D:=fun b ob e z=>absurd (QB (Qp e) hD) (by rw[z];exact Q0 _)
 have ne':∀ b x,H b=some x->b≠D:=fun b x e z=>absurd (QB (aB.lt e) hD) (by rw[z];exact Q0 _)
 refine⟨u.keep,u.slot,fun b ob e n hx=>?_,u.there,fun b xs e=>?_,fun b ob x e=>?_,fun b ps e=>?_⟩
 ·rw[aZ (ne b ob e)];exact u.free b ob e n hx
 ·rw[aZ (ne' b _ e)];exact u.iq b xs e
 ·rw[aZ (ne' b _ e)];exact u.gO b ob x e
 ·rw[aZ (ne' b _ e)];exact u.ir b ps e
theorem de.add{D:Addr}{o:HO}(x:de P w H h)(hn:H D=none)(new:cZ P w (upd H D o) h D o):de P w (upd H D o) h:=fun b u e=>by
 by_cases hb:b=D
 ·subst hb;rw[fO]at e;cases e;exact new
 ·rw[aZ hb]at e
  exact(x b u e).ip (fun c v _ q=>q) (fun c q=>by rw[aZ (h_ q hn)];exact q) fun c xs q=>by rw[aZ (h_ q hn)];exact q
def tM (X:Cx)(ifs:List Expr)(t:TT):Prop:=
 ∀ (pins:List (Addr×Obj)) (s:Shared) (σ:St) (H:Hp) (Q:Bool->Hp->Prop),Inv X pins σ H s->t σ H Q->
  wpAny (model X.prog X.w) X.A (forIn ifs true fun c r=>if r=true then do let ok <- isTrue c X.env (eval c X.env);pure (ForInStep.yield ok)else pure (ForInStep.yield r)) (TP X pins σ Q) X.xe s
def NU:TT:=fun _ H Q=>Q true H
theorem NV:tM X [] NU:=fun pins s σ H Q I h=>wpAny_tests_nil ⟨H,I,h⟩
theorem NW{c:Expr}{t:TT}(h:PT X c t):tM X [c] t:=fun pins s σ H Q I q=>wpAny_tests_one (h pins s σ H Q I q)
def ES (k:Nat)(g:TG)(tt:TT)(te:TE)(σ:St)(J:It)(H:Hp)(Fin:List V->Hp->Prop):Prop:=
 ∃ W:Nat->Nat->List V->Hp->Prop,(∃ m,W 0 m [] H)/\∀ i m ys H2,W i m ys H2->ys.length<=sizeLine /\
  ((J.stop i H2/\Fin ys H2)\/(J.go i H2/\ys.length<sizeLine/\∀ x H3,J.qQ i H2 x H3->g x (σ++List.replicate k none) H3 fun tN H4=>(∃ τ,tN=σ++τ/\τ.length=k) /\
    tt tN H4 fun b H5=>if b=true then te tN H5 fun v H6=>∃ m',m'<m/\W (i+1) m' (ys++[v]) H6 else ∃ m',m'<m/\W (i+1) m' ys H5))
def xP (k:Nat)(wi:TI)(g:TG)(tt:TT)(te:TE):TE:=fun σ H Q=>wi σ H fun J H1=>ES k g tt te σ J H1 fun ys H2=>∀ p,H2 p=none->Q (.ref p) (upd H2 p (.lst ys))
def gS (us:List Value)(n:Nat):Obj:={ cls:=.type "list",data:=.seq us.toArray n }
theorem ET{τ:St}(I:Inv X pins (σ++τ) H s):Inv X pins (σ++List.replicate τ.length none) H s:=
 I.weak (by simp) fun i v e=>by
  by_cases hi:i<σ.length
  ·rw[QW hi]at e ⊢
   exact e
  ·rw[Zp (by omega),ZU]at e
   split at e<;>cases e
section
variable {X:Cx}{k:Nat}{N':List Str}{scope:Scope}{pins:List (Addr×Obj)}{σ:St}{H2:Hp}{s2:Shared}{fp:List Addr}
abbrev u_ (scope:Scope)(s2:Shared):Heap:=pushCells ((s2.heap.push (gS [] 0)).push { cls:=.type "dict",data:=.dict #[] }) scope.names
theorem NX(S:cb X k N' scope)(I2:Inv X pins σ H2 s2)(f2:∀ b∈fp,lL X pins H2 b)(rg:∀ b∈fp,b<s2.heap.objs.size) :
  Inv (f9 X N' scope (s2.heap.objs.size+1) s2 H2 fp) [(s2.heap.objs.size,gS [] 0)] (σ++List.replicate k none) H2 { s2 with heap:=u_ scope s2 }:=by
 have e1:(s2.heap.push (gS [] 0)).objs.size=s2.heap.objs.size+1:=ZK ..
 have e2:((s2.heap.push (gS [] 0)).push { cls:=.type "dict",data:=.dict #[] }).objs.size=s2.heap.objs.size+1+1:=by rw[ZK,e1]
 have keep:∀ b o,s2.heap.get? b=some o->(u_ scope s2).get? b=some o:=fun b o e=>J2 _ _ b o (Qd _ (Qd _ e))
 have du:∀ y c,(y,c)∈ic X.env.cells scope.names []->X.env.cells.lookup y=some c:=xN (fun _ _ m=>nomatch m)
 have rh:∀ y c,(y,c)∈cellsFrom (s2.heap.objs.size+1+1) scope.names (ic X.env.cells scope.names [])->X.env.cells.lookup y=some c\/(s2.heap.objs.size+1+1<=c/\(u_ scope s2).IsCell c none):=fun y c m=>by
  have m':(y,c)∈cellsFrom ((s2.heap.push (gS [] 0)).push { cls:=.type "dict",data:=.dict #[] }).objs.size scope.names (ic X.env.cells scope.names []):=by rw[e2];exact m
  rcases AF m' with q|⟨q1,q2⟩
  ·exact .inl (du y c q)
  ·rw[e2]at q1;exact .inr ⟨q1,q2⟩
 have NY:∀ y c,X.env.cells.lookup y=some c->c<s2.heap.objs.size:=fun y c e=>by obtain⟨v,z⟩:=I2.cell y c e;exact z.lt
 have hl:∀ y,(relabel scope X.env).names.lookup y=(scope.names.lookup y).map (pP X.env y):=fun y=>AK _
 have ok:(f9 X N' scope (s2.heap.objs.size+1) s2 H2 fp).Ok:=by
  refine⟨I2.ok.mod,S.kind,I2.ok.glob,I2.ok.blt,Jw _,fun x y c h1 h2=>?_,fun x hx=>?_,fun x c hf h=>?_,I2.ok.hd,I2.ok.frames,.inl rfl,fun b hb=>⟨?_,fun x c h z=>?_⟩,I2.bs,QL I2.ok.m_ I2.sz,fun b o e hb=>?_,fun b hb z=>?_,I2.stack,I2.jZ⟩
  ·refine AG (n:=s2.heap.objs.size+1+1) (names:=scope.names) (acc:=ic X.env.cells scope.names []) (fun y c m=>?_) (fun x y c m1 m2=>?_) x y c (QU h1) (QU h2)
   ·exact QB (NY y c (du y c m)) (by omega)
   ·exact I2.ok.inj x y c (du x c m1) (du y c m2)
  ·have iC:(relabel scope X.env).names.lookup x=some .cell\/(relabel scope X.env).names.lookup x=some .free:=hx
   rw[hl x]at iC
   have:scope.names.lookup x=some .cell\/scope.names.lookup x=some .free:=by
    cases e:scope.names.lookup x with
    | none=>rw[e]at iC;rcases iC with z|z<;>cases z
    | some kd=>
     rw[e,Jg]at iC
     cases kd<;>first
      | exact .inl rfl
      | exact .inr rfl
      | (rcases iC with z|z<;>(have z':=QH z;unfold pP at z';simp at z'))
   rcases this with q|q
   ·exact Jp.mp (Jx scope.names (s2.heap.objs.size+1+1) _ (.inl q))
   ·have qm:=QU q
    have hk:=S.free qm
    obtain⟨c,hc⟩:=I2.ok.has x hk
    exact Jp.mp (Jx scope.names (s2.heap.objs.size+1+1) _ (.inr (u9 hc qm)))
  ·have NZ:(scope.names.lookup x==some .cell)=true:=hf
   have:=AI (lo:=s2.heap.objs.size) (n:=s2.heap.objs.size+1+1) (acc:=ic X.env.cells scope.names []) (by omega) (QU (Jq.mp NZ)) c h
   exact this
  ·have:=rg b hb
   show b≠s2.heap.objs.size+1
   exact QP (QB this (Jw _))
  ·have q:=rg b hb
   rcases rh x c (QU h)with w|⟨w,_⟩
   ·exact(f2 b hb).2.2.2.2.1 x c w z
   ·subst z;exact absurd (QB q (QL (by omega) w)) (Q0 _)
  ·rcases(f2 b hb).2.2.2.1 with z|z
   ·exact I2.ok.lI b o e z
   ·have:=Qp e
    have:=I2.ok.m_
    exact absurd (QB (Qp e) (QL I2.ok.m_ z)) (Q0 _)
  ·rcases Qw.mp (I2.ix b z)with q|q
   ·exact(f2 b hb).2.1 q
   ·exact(f2 b hb).2.2.1 q
 obtain⟨m,hn,AL⟩:=id I2.loc
 refine⟨ok,rfl,I2.bare,Un.kept keep,⟨fun _=>none,?_,fun i y v h1 h2 h3=>?_⟩,fun y c h=>?_,I2.aB.fresh (Jw _),fun y c h=>?_,fun p hp=>?_,I2.aB.kept keep,?_⟩
 ·have:=(Heap.Ns.new (s2.heap.push (gS [] 0)) (.type "dict")).keeps (J2 scope.names _)
  rw[e1]at this
  exact this
 ·by_cases hi:i<σ.length
  ·have N0:s9 (relabel scope X.env) y:=h3
   obtain⟨o1,o2⟩:=S.out (by rw[<- I2.len];exact hi) h1 N0
   have hk:=S.free (QU o2)
   have hs:σ[i]? = some (some v):=by
    rw[QW hi]at h2
    exact h2
   obtain⟨u,r,l⟩:=AL i y v o1 hs (.inr hk)
   refine⟨u,r,?_⟩
   rcases l with⟨l,_⟩|⟨_,c,hc,j0⟩
   ·rcases hk with z|z<;>(rw[l]at z;cases z)
   ·refine .inr ⟨?_,c,?_,j0.keeps keep⟩
    ·show(relabel scope X.env).names.lookup y=some .cell\/(relabel scope X.env).names.lookup y=some .free
     rw[hl y,o2,Jg]
     unfold pP
     split
     ·exact .inl rfl
     ·exact .inr rfl
    ·show(cellsFrom (s2.heap.objs.size+1+1) scope.names (ic X.env.cells scope.names [])).lookup y=some c
     rw[AJ (fun z=>by have:=EO S.names z;rw[o2]at this;cases this)]
     obtain⟨c',ng⟩:=Jp.mp (u9 (acc:=[]) hc (QU o2))
     have:=du y c' (QU ng)
     rw[hc]at this;cases this
     exact ng
  ·rw[Zp (by omega),ZU]at h2
   split at h2<;>cases h2
 ·rcases rh y c (QU h)with w|⟨_,w⟩
  ·obtain⟨v,z⟩:=I2.cell y c w
   exact⟨v,z.keeps keep⟩
  ·exact⟨_,w⟩
 ·rcases rh y c (QU h)with w|⟨w,_⟩
  ·exact I2.dk y c w
  ·exact I2.aB.fresh (by omega)
 ·have e:p=(s2.heap.objs.size,gS [] 0):=by
   have:p ∈ [(s2.heap.objs.size,gS [] 0)]:=hp
   simpa using this
  subst e
  refine⟨J2 _ _ _ _ (Qd _ (Qs _ rfl)),I2.aB.fresh (Qi _),?_,fun z=>?_,fun v z=>nomatch z⟩
  ·show s2.heap.objs.size≠s2.heap.objs.size+1
   omega
  ·have z':s2.heap.objs.size∈jo X.stack:=z
   rcases Qw.mp (I2.ix _ z')with q|q
   ·exact absurd I2.lt (by rw[<- q];exact Q0 _)
   ·exact I2.uJ (Qi _) q
 ·rw[Qn,ZE,I2.len]
  exact S.len.symm
theorem N1{us:List Value}{ys:List V}{s':Shared}{aK:St}(I2:Inv X pins σ H2 s2)(f2:∀ b∈fp,lL X pins H2 b)
  (I3:Inv (f9 X N' scope C s2 H2 fp) [(s2.heap.objs.size,gS us n)] aK H' s') (r:bc ys us) (hz:ys.length<=sizeLine):Inv X pins σ (upd H' s2.heap.objs.size (.lst ys)) s':=by
 obtain⟨e,hn,_⟩:=I3.pin (s2.heap.objs.size,gS us n) (Qo _ (Qq.mpr rfl))
 have u:Un (jo X.stack) fp H2 H' s2.heap s'.heap:=I3.base
 exact I2.uO (ch:=fp) I3.os (u.rf I2.aB (Qi _)) (I3.aB.add hn ⟨hz,us,n,r,e⟩) I3.bare fun b hb=>⟨(f2 b hb).2.2.2.1,(f2 b hb).2.1,(f2 b hb).2.2.2.2⟩
end
theorem EU{k:Nat}{H2:Hp}{s2:Shared}{fp:List Addr}{tg:Expr}{it:Addr}{tn:Nat->Heap->Prop}{J:It}{g:TG}{tt:TT}{te:TE}{Fin:List V->Hp->Prop}{E:Value->Shared->Prop}{RR:Value->Addr->Result->Shared->Prop}
  (hc:X.calm=true) (S:cb X k N' scope) (hg:∀ C s H fp,PG (f9 X N' scope C s H fp) tg g) (ht:∀ C s H fp,tM (f9 X N' scope C s H fp) ifs tt) (he:∀ C s H fp,PE (f9 X N' scope C s H fp) elt te)
  (I2:Inv X pins σ H2 s2) (T:Turn X.prog X.w X.K tg J fp it tn) (pE:tn 0 s2.heap) (f2:∀ b∈fp,lL X pins H2 b) (R:ES k g tt te σ J H2 Fin)
  (N2:∀ C ys H' s' m',Inv X pins σ (upd H' s2.heap.objs.size (.lst ys)) s'->s'.heap.Ns C m'->H' s2.heap.objs.size=none->upd H' s2.heap.objs.size (.lst ys) C=none->C≠X.env.locals->X.cm.heap.objs.size<=C->s2.heap.objs.size<C->
    Fin ys H'->RR (.ref s2.heap.objs.size) C (.ok .next) s') :
  wpAny (model X.prog X.w) X.A (newList []) (fun acc i_=>wpAny (model X.prog X.w) X.A (newFunctionEnv scope X.env.globals (ic X.env.cells scope.names []) [] X.env.qual none .none (some X.env)) (fun va oi=>
   codeAny (model X.prog X.w) X.A (.compStart (.ListComp elt [⟨tg,iter,ifs,0⟩] scope pos) 0 (.ref it) acc { va with scope:=relabel scope X.env }) (RR acc va.locals) oi) E i_) E s2:=by
 refine Q6 (NS ?_)
 have e1:(s2.heap.push (gS [] 0)).objs.size=s2.heap.objs.size+1:=ZK ..
 have rg:∀ b∈fp,b<s2.heap.objs.size:=fun b hb=>by obtain⟨o,e,_⟩:=T.obj _ _ pE b hb;exact Qp e
 obtain⟨W,⟨m0,w0⟩,turn⟩:=R
 have I3:=NX S I2 f2 rg
 have uP:tn 0 (u_ scope s2):=T.keep _ _ _ pE fun b hb o e=>J2 _ _ b o (Qd _ (Qd _ e))
 have N3:s2.heap.objs.size≠s2.heap.objs.size+1:=by omega
 have jJ:∀ {H':Hp} {us:List Value} {n:Nat},(∀ b∈fp,H' b=none)->∀ b∈fp,lL (f9 X N' scope (s2.heap.objs.size+1) s2 H2 fp) [(s2.heap.objs.size,gS us n)] H' b:=fun {H' us n} hn b hb=>by
  have q:=I3.ok.zN b hb
  refine⟨hn b hb,q.1,I3.ok.lJ b hb,.inl hb,q.2,fun p hp z=>?_⟩
  have j9:p ∈ [(s2.heap.objs.size,gS us n)]:=hp
  have e:p=(s2.heap.objs.size,gS us n):=by simpa using j9
  subst e
  have:=rg b hb
  have z':s2.heap.objs.size=b:=z
  exact absurd this (by rw[z'];exact Q0 _)
 have loop:∀ EV,EV=Value.ref it->codeAny (model X.prog X.w) X.A (.compLoop (.ListComp elt [⟨tg,iter,ifs,0⟩] scope pos) 0 EV (.ref s2.heap.objs.size) (ER scope X.env (s2.heap.objs.size+1))) (RR (.ref s2.heap.objs.size) (s2.heap.objs.size+1)) { s2 with heap:=u_ scope s2 }:=by
  rintro _ rfl
  refine NR (fun n s'=>∃ i ys us cnt H',Inv (f9 X N' scope (s2.heap.objs.size+1) s2 H2 fp) [(s2.heap.objs.size,gS us cnt)] (σ++List.replicate k none) H' s'/\tn i s'.heap/\(∀ b∈fp,H' b=none)/\bc ys us/\W i n ys H') ?_ m0
   ⟨0,[],[],0,H2,I3,uP,fun b hb=>(f2 b hb).1,.nil,w0⟩
  rintro n s3 ⟨i,ys,us,cnt,H3,J3,st,fr,r3,w3⟩
  obtain⟨hz,hw⟩:=turn i n ys H3 w3
  rcases hw with⟨stop,fin⟩|⟨go,bX,step⟩
  ·refine aW (T.done (f9 X N' scope (s2.heap.objs.size+1) s2 H2 fp) rfl rfl rfl hc i _ s3 _ H3 _ J3 (jJ fr) st stop) fun rr s4 ⟨hr,I4⟩=>?_
   subst hr
   obtain⟨m',zQ,_⟩:=id I4.loc
   obtain⟨eD,nD,_⟩:=I4.pin (s2.heap.objs.size,gS us cnt) (Qo _ (Qq.mpr rfl))
   refine N2 (s2.heap.objs.size+1) ys H3 s4 m' (N1 I2 f2 I4 r3 hz) zQ nD ?_ ?_ ?_ (Zv _) fin
   ·rw[aZ (Jt N3)];exact I4.free
   ·exact Jt (QP (QB I2.lt (Jw _)))
   ·have:=I2.sz;omega
  ·refine aW (T.item (f9 X N' scope (s2.heap.objs.size+1) s2 H2 fp) rfl rfl rfl hc i _ s3 _ H3 _ J3 (jJ fr) st go) fun rr s4 ⟨u,hr,h4⟩=>?_
   subst hr
   refine aW h4 fun _ s5 ai=>?_
   obtain⟨x,H5,I5,r5,y5,qR,Ab⟩:=ai
   have Ac:=I5.pinned (jJ Ab) (T.obj _ _ qR)
   refine aW (hg _ _ _ _ _ s5 _ H5 x u _ Ac r5 (step x H5 y5)) fun _ s6 ⟨D5,H6,I6,⟨τ,e6,l6⟩,q6⟩=>?_
   subst e6
   refine aW (ht _ _ _ _ _ s6 _ H6 _ I6 q6) fun ok s7 ai=>?_
   obtain⟨H7,I7,q7⟩:=ai
   have kept:∀ {s':Shared} {H':Hp} {aK:St},Inv (f9 X N' scope (s2.heap.objs.size+1) s2 H2 fp) ([(s2.heap.objs.size,gS us cnt)]++pD fp s5.heap) aK H' s'->tn (i+1) s'.heap/\∀ b∈fp,H' b=none:=fun {s' H' aK} I'=>by
    refine⟨T.keep _ _ _ qR fun b hb o e=>(I'.pin (b,o) (Qo _ (Qo _ (xA hb e)))).1,fun b hb=>?_⟩
    obtain⟨o,e,d⟩:=T.obj _ _ qR b hb
    exact(I'.pin (b,o) (Qo _ (Qo _ (xA hb e)))).2.1
   cases ok with
   | false=>
    rw[Qk (by decide)]at q7 ⊢
    obtain⟨m',hm,w7⟩:=q7
    have:=ET I7.eF
    rw[l6]at this
    exact⟨m',hm,i+1,ys,us,cnt,H7,this,(kept I7).1,(kept I7).2,r3,w7⟩
   | true=>
    rw[Qj rfl]at q7 ⊢
    refine aW (he _ _ _ _ _ s7 _ H7 _ I7 q7) fun u8 s8 ai=>?_
    obtain⟨v,H8,I8,r8,m',hm,w8⟩:=ai
    obtain⟨eD,nD,EW,N4,dD⟩:=I8.pin (s2.heap.objs.size,gS us cnt) (Qo _ (Qu _ (Qq.mpr rfl)))
    refine append_at eD (fun h9 xQ N5=>?_) (hsz:=by rw[Qm,<- r3.length];exact ZI bX)
    have Ia:=I8.fP (pins':=pD fp s5.heap) fun p hp=>I8.pin p (Qo _ (Qo _ hp))
    have N6:∀ p∈pD fp s5.heap,p.1≠s2.heap.objs.size:=fun p hp z=>by
     have:=rg p.1 (D3 hp).1
     exact absurd this (by rw[z];exact Q0 _)
    have Ib:=Ia.turned (h':=h9) (t':=s8.toks) (it:=s2.heap.objs.size) (fun b o hb e=>xQ.extBut b o hb e) nD EW (.inr (Qi _)) (fun y c h z=>by
      obtain⟨vv,o,ho,hd⟩:=I8.cell y c h
      rw[z,eD]at ho
      cases ho
      cases hd) (fun p hp=>N6 p (by
      have j9:p ∈ []++pD fp s5.heap:=hp
      simpa using j9))
    have Ic:=Ib.fP (pins':=[(s2.heap.objs.size,gS (us++[u8]) (cnt+1))]) fun p hp=>by
     have e:p=(s2.heap.objs.size,gS (us++[u8]) (cnt+1)):=by simpa using hp
     subst e
     refine⟨?_,nD,EW,N4,fun v z=>nomatch z⟩
     show h9.get? s2.heap.objs.size=_
     rw[N5]
     unfold gS
     simp
    have Id:=ET Ic
    rw[l6]at Id
    have kp:=kept I8
    refine⟨m',hm,i+1,ys++[v],us++[u8],cnt+1,H8,Id,T.keep _ _ _ kp.1 fun b hb o e=>xQ.extBut b o (fun z=>by
     have:=rg b hb
     have z':b=s2.heap.objs.size:=z
     exact absurd this (by rw[z'];exact Q0 _)) e,kp.2,bc.append r3 (.cons r8 .nil),w8⟩
 have hC:(s2.heap.push { cls:=.type "list",dict:=none,data:=.seq ([]:List Value).toArray }).objs.size=s2.heap.objs.size+1:=ZK ..
 have fin:=codeAny_compStart_list (loop _ rfl) (T.self X.A 0 _ _ _ uP (loop _ rfl))
 dsimp only at fin ⊢
 rw[hC]
 exact fin
theorem cb.locs{k:Nat}(S:cb X k N' scope):∀ y∈scope.names,y.2=.local->scope.names.lookup y.1=some .local:=fun y hy e=>by
 obtain⟨n,kd⟩:=y
 have e':kd=.local:=e
 subst e'
 exact EO S.names hy
theorem AM{m:Str->Option Value}{v:Option Value}(hn:h.Ns C m)(hc:h.IsCell c v):c≠C:=fun z=>by
 obtain⟨o,es,ep,ho,hd,_⟩:=hn
 obtain⟨o',iw,jq⟩:=hc
 rw[z,ho]at iw
 cases iw
 rw[hd]at jq
 cases jq
section
variable {X:Cx}{k:Nat}{N':List Str}{scope:Scope}{elt tg iter:Expr}{ifs:List Expr}{pos:Pos}{wi:TI}{g:TG}{tt:TT}{te:TE}
theorem N7(hc:X.calm=true)(S:cb X k N' scope)(hi:PI X tg iter wi)(hg:∀ C s H fp,PG (f9 X N' scope C s H fp) tg g)(ht:∀ C s H fp,tM (f9 X N' scope C s H fp) ifs tt)(he:∀ C s H fp,PE (f9 X N' scope C s H fp) elt te)
  (hs:∀ x,foldedSetIterable iter X.env x=pure x:=by intro _;rfl):PE X (.ListComp elt [⟨tg,iter,ifs,0⟩] scope pos) (xP k wi g tt te):=by
 intro pins s σ H Q I h
 rw[eval_ListComp]
 refine wpAny_comprehension_free (use:=none) rfl hs (EN fun y hy e=>?_) S.kind S.locs (aW (hi pins s σ H _ I h) fun v s1 h1=>aW h1 fun xx s2 h2=>?_)
 ·obtain⟨n,kd⟩:=y
  have e':kd=.free:=e
  subst e'
  exact I.ok.has n (S.free hy)
 ·obtain⟨it,fp,tn,J,H2,e,I2,T,pE,f2,R⟩:=h2
  subst e
  refine EU hc S hg ht he I2 T pE f2 R ?_
  intro C ys H' s' m' I' hn hD AN xR AO AQ fin
  refine⟨m',hn,fun h' jv=>⟨.ref s2.heap.objs.size,_,I'.turned (h':=h') (t':=s'.toks) (it:=C) (fun b o hb e=>jv.extBut b o hb e) AN xR (.inr AO) (fun x c h=>?_) (fun p hp z=>?_),rfl,fin _ hD⟩⟩
  ·obtain⟨v,q⟩:=I'.cell x c h
   exact AM hn q
  ·have:=Qp (I2.pin p hp).1
   exact absurd (JQ this AQ) (by rw[z];exact Q0 _)
theorem N8{py lY:Pos}(hN:X.N.Nodup)(hy:X.N[i]? = some y)(hx:Loc X.env.scope y)(AR:swapsWith (.ListComp elt [⟨tg,iter,ifs,0⟩] scope pos) (some (.Name y py)) lY.line X.env=pure true)
  (hc:X.calm=true) (S:cb X k N' scope) (hi:PI X tg iter wi) (hg:∀ C s H fp,PG (f9 X N' scope C s H fp) tg g) (ht:∀ C s H fp,tM (f9 X N' scope C s H fp) ifs tt) (he:∀ C s H fp,PE (f9 X N' scope C s H fp) elt te)
  (hs:∀ x,foldedSetIterable iter X.env x=pure x:=by intro _;rfl) (hf:X.fn y=true\/X.env.scope.names.lookup y=some .local:=by first|exact .inl rfl|exact .inr rfl|assumption) :
  PS X (.Assign [.Name y py] (.ListComp elt [⟨tg,iter,ifs,0⟩] scope pos) lY) (zW (xP k wi g tt te) (zV i)):=by
 intro pins s σ H D I h
 rw[exec_Assign_Name_used _ _ _ _ AR]
 refine Qa (wpAny_standAt (Qa ?_))
 show wpAny _ X.A (do let _ <- comprehension (.ListComp elt [⟨tg,iter,ifs,0⟩] scope pos) scope X.env _ (newList []) false (eval iter X.env) (some (assign (.Name y py) X.env))) _ _ s
 refine Qa (ZJ (wpAny_comprehension_free (use:=some (assign (.Name y py) X.env)) (Q:=fun _ s'=>SP X pins D .next s') rfl hs (EN fun z hz e=>?_) S.kind S.locs
  (aW (hi pins s σ H _ I h) fun v s1 h1=>aW h1 fun xx s2 h2=>?_)) (fun _ s' hq=>Qe (Qe hq)) fun _ _ e=>e)
 ·obtain⟨n,kd⟩:=z
  have e':kd=.free:=e
  subst e'
  exact I.ok.has n (S.free hz)
 ·obtain⟨it,fp,tn,J,H2,e,I2,T,pE,f2,R⟩:=h2
  subst e
  refine EU hc S hg ht he I2 T pE f2 R ?_
  intro C ys H' s' m' I' hn hD AN xR AO AQ fin
  show wpAny _ X.A (assign (.Name y py) X.env (.ref s2.heap.objs.size)) _ _ _
  refine wpAny_assign_Name (DV I' hN hy hx (v:=.ref s2.heap.objs.size) rfl (fun pI EX ⟨a,sb,ha⟩=>?_) hf)
  have N9:C≠a:=fun z=>by
   rcases ha with q|q
   ·exact xR (z.trans q)
   ·obtain⟨v,w⟩:=I'.cell y a q
    exact AM hn w z.symm
  have xS:=hn.sameBut sb N9
  refine⟨m',xS,fun h' jv=>⟨_,_,EX.turned (h':=h') (t':=pI.toks) (it:=C) (fun b o hb e=>jv.extBut b o hb e) AN xR (.inr AO) (fun x c h=>?_) (fun p hp z=>?_),fin _ hD⟩⟩
  ·obtain⟨v,q⟩:=EX.cell x c h
   exact AM xS q
  ·have:=Qp (I2.pin p hp).1
   exact absurd (JQ this AQ) (by rw[z];exact Q0 _)
end
end L2
namespace L3
open PySem PySem.Spec PyProof.Rows PySem.W L2
variable {M:Model}{R:Result->Shared->Prop}{h:Heap}
section
variable {prog:Program}{w:World}{A:Around}{E:Value->Shared->Prop}{s:Shared}{K:Frag}{x C:Addr}{ox:Obj}
structure nr (h:Heap) (x:Addr) (ox:Obj) (C:Addr):Prop where
 at_:h.get? x=some ox
 cls:ox.cls=.ref C
theorem nr.type(I:nr h x ox C):Looks M h (typeOf (.ref x)) (.ref C):=I.cls ▸ (Looks.ld I.at_).andThen .now
structure jM (K:Frag) (C:Addr):Prop where
 ci:(clsIn K C).isSome=true
 ga:findIn K (.ref C) "__getattribute__" = some (some (.builtin "BaseException.__getattribute__"))
 gt:findIn K (.ref C) "__getattr__" = some none
 cl:findIn K (.ref C) "__class__" = some (some (.builtin "object.__class__"))
 cg:specialIn K (.builtin "object.__class__") "__get__" = some (some (.builtin "getset_descriptor.__get__"))
 ct:takesIn K (.builtin "object.__class__")=some true
 mo:mroIn K C (.type "object")=some true
 mb:mroIn K C (.type "BaseException")=some true
theorem N_(X:K.In h)(I:nr h x ox C)(XC:jM K C):Looks M h (Builtin.ObjectAttr.find (.ref x) (.ref C) "__class__") (.bind (.builtin "getset_descriptor.__get__") (.builtin "object.__class__")):=by
 have L1:=looks_findIn (M:=M) X XC.cl
 have L2:Looks M h (Builtin.ObjectAttr.getOf (some (.builtin "object.__class__"))) _:=looks_specialIn (M:=M) X XC.cg
 have L3:=looks_takesIn (M:=M) X XC.ct
 exact L1.andThen (L2.andThen ((show Looks M h (Builtin.ObjectAttr.dataDescriptor? (some (.builtin "object.__class__")) (some (.builtin "getset_descriptor.__get__"))) (some ((.builtin "getset_descriptor.__get__"),(.builtin "object.__class__")))from L3.andThen .now).andThen (Looks.tag .now)))
theorem Oa{tp:Value}(X:K.In s.heap)(I:nr s.heap x ox C)(hm:mroIn K C (.type "object")=some true)
  (h:R (.ok (.ret (.ref C))) s):codeAny (model prog w) A (.call (.builtin "getset_descriptor.__get__") ⟨[.builtin "object.__class__",.ref x,tp],[]⟩) R s:=by
 obtain⟨hh,g,dr,t,os⟩:=s
 have L0:=I.type (M:=model prog w)
 have L1:=looks_mroIn (M:=model prog w) X hm
 refine Jj KF.slot_gs.plain KF.entry_gs (KF.slot_gs.check _ _ _ _ _ _ _ _ KF.type_class (KF.args_gs _ _ _) ?_)
 unfold Builtin.«getset_descriptor.__get__» Builtin.Getset_descriptor.descrGet
 rw[dga_obj]
 refine Qa (Qe ?_)
 unfold Builtin.Getset_descriptor.descrGetter Builtin.Getset_descriptor.descrCheckInstance Builtin.Getset_descriptor.descrNameAndClass isInstance
 simp only[KF.owner_class]
 repeat lk
 refine⟨Y4 _ (by decide +kernel),ZY KF.entry_class ?_⟩
 unfold Builtin.«object.__class__» shownTypeOf
 repeat lk
 exact h
theorem Ob{pQ:Value}{Q:Unit->Shared->Prop}(X:K.In s.heap)(I:nr s.heap x ox C)(XC:jM K C)(hq:Q () s):wpAny M A (checkBuiltinCall "BaseException.__getattribute__" ⟨[.ref x,pQ],[]⟩) Q E s:=by
 obtain⟨hh,g,d,t,os⟩:=s
 have L0:=I.type (M:=M)
 have L1:=looks_mroIn (M:=M) X XC.mb
 have hk:builtinKind "BaseException.__getattribute__" = some .slot:=by decide +kernel
 have rj:splitId "BaseException.__getattribute__" = some ("BaseException","__getattribute__"):=by decide +kernel
 have ha:=PySem.F.args_bexc_ga (.ref x) pQ
 simp only[checkBuiltinCall,hk,rj]
 unfold isInstance
 repeat lk
 exact hq
theorem Oc{tk:Tok}(X:K.In s.heap)(I:nr s.heap x ox C)(XC:jM K C)(h:R (.ok (.ret (.ref C))) s) :
  codeAny (model prog w) A (.call (.builtin "BaseException.__getattribute__") ⟨[.ref x,.str "__class__" tk],[]⟩) R s:=by
 refine Jj Y5.ga.plain PySem.F.entry_bexc_ga (Ob X I XC ?_)
 obtain⟨hh,g,d,t,os⟩:=s
 have L0:=I.type (M:=model prog w)
 have L1:=N_ (M:=model prog w) X I XC
 show wpAny _ _ (Builtin.«object.__getattribute__» ⟨[.ref x,.str "__class__" tk],[]⟩) _ _ _
 refine Qa (Qe ?_)
 refine Qa (Qe ?_)
 refine Qa (L0.at (Qa (L1.at ?_)))
 show wpAny _ _ (holding [.builtin "object.__class__"] (call (.builtin "getset_descriptor.__get__") [.builtin "object.__class__",.ref x,.ref C]) >>= ret) _ _ _
 exact Qa (Q4 (wpAny_call (Oa X I XC.mo (Qe h))))
theorem Od{Q:Option Value->Shared->Prop}(X:K.In s.heap)(I:nr s.heap x ox C)(XC:jM K C)(h:Q (some (.ref C)) { s with toks:=s.toks+1 }):wpAny (model prog w) A (getAttr? (.ref x) "__class__") Q E s:=by
 obtain⟨hh,g,d,t,os⟩:=s
 have L0:=I.type (M:=model prog w)
 have L1:=looks_findIn (M:=model prog w) X XC.ga
 have L2:=looks_findIn (M:=model prog w) X XC.gt
 have f3:=Y5.ga.bind (.ref x)
 unfold getAttr? getAttrBy? getAttrBy
 refine Qa (wpAny_mkText (Qa (JX (Q4 (Qa (L0.at (Qa (L1.at ?_))))))))
 show wpAny _ _ (getAttrByItsOwn _ _ _ _ _ _) _ _ _
 unfold getAttrByItsOwn
 refine Qa (L2.at ?_)
 refine Qa (JX (Q4 ?_))
 show wpAny _ _ (boundAndCalled _ _ _) _ _ _
 unfold boundAndCalled
 rw[f3]
 refine Qa (Qe ?_)
 show wpAny _ _ (call (.builtin "BaseException.__getattribute__") [.ref x,.str "__class__" t]) _ _ _
 refine wpAny_call (Oc (s:=⟨hh,g,d,t+1,os⟩) X I XC ?_)
 exact handed_on rfl (Qe h)
theorem Oe{D:Addr}(X:K.In h)(e:(clsIn K D).isSome=true):Looks M h (isType (.ref D)) true:=by
 unfold clsIn at e
 split at e
 next c' d' cd' DT ho=>
  intro A' Q' E' s' k q
  unfold isType loadHead
  exact Qa (wpAny_loadPart (k _ _ (X _ _ ho)) (Qe q))
 ·cases e
theorem Of{c:Value}{jw:Int}{tk:Tok}{Q:Fin->Shared->Prop}(X:K.In s.heap)(I:nr s.heap x ox C)(XC:jM K C)(uW:Looks (model prog w) s.heap (typeOf c) (.type "type"))(gT:Looks (model prog w) s.heap (isType c) true)
  (cC:(Value.ref C==c)=false) (du:Looks (model prog w) s.heap (isSubtype (.ref C) c) false) (h:Q (.done (.ret (.bool false))) { s with toks:=s.toks+1 }) :
  wpAny (model prog w) A (Builtin.«isinstance.nested» ⟨[.ref x,c,.int jw tk],[]⟩) Q E s:=by
 have AS:=Oe (M:=model prog w) X XC.ci
 obtain⟨h0,g,d,tt,os⟩:=s
 have L0:=I.type (M:=model prog w)
 have LI:Looks (model prog w) h0 (isInstance (.ref x) c) false:=L0.andThen du
 unfold Builtin.«isinstance.nested»
 refine Qa (L0.at ?_)
 rw[Qk (fun q=>by rw[cC]at q;exact Bool.noConfusion q)]
 refine Qa (uW.at ?_)
 rw[Qj (by decide)]
 k_delta "plainIsInstance"
 refine Qa (Qa (gT.at ?_))
 simp only[Z5,Qt,Zl]
 refine Qa (LI.at ?_)
 simp only[Qt,Zl]
 refine Qa (Od X I XC ?_)
 refine Qa (AS.at ?_)
 simp only[Z5,Qt,Zl]
 refine Qa (Yu ?_)
 refine du.at ?_
 first
  | exact Qe h
  | exact Qe (Qe h)
  | exact Qa (Qe (Qe h))
theorem Og{T:String}{Q:Value->Shared->Prop}(X:K.In s.heap)(I:nr s.heap x ox C)(XC:jM K C)(uW:typeOf (.type T)=pure (.type "type"))(e:subIn K (.ref C) (.type T)=some false)(h:Q (.bool false) { s with toks:=s.toks+1 }):wpAny (model prog w) A (call (.builtin "isinstance") [.ref x,.type T]) Q E s:=
 call_isinstance (S:=fun _ R s=>(K.In s.heap/\nr s.heap x ox C)/\R (.ok (.ret (.bool false))) { s with toks:=s.toks+1 })
  (fun _ _ _ _ _ hs=>isinstance_outer (Of hs.1.1 hs.1.2 XC (Looks.of_pure uW) (Looks.of_pure rfl) (Bool.eq_false_iff.mpr fun q=>by cases Jq.mp q) (looks_subIn hs.1.1 e) hs.2) (by intro q;cases q)) ⟨⟨X,I⟩,h⟩
end
def Oh:List Value:=[.type "ValueError",.type "Exception",.type "BaseException",.type "object"]
structure AU (K:Frag) (nm:Str) (C:Addr):Prop where
 ns:nsIn K mainGlobals nm=some (some (.ref C))
 xc:jM K C
 ex:excIn K C Oh "ValueError.__new__" = true
 ve:subIn K (.ref C) (.type "ValueError")=some true
 no:∀ T ∈ ["int","bool","tuple","list","str"],subIn K (.ref C) (.type T)=some false
def XO (K:Frag)(nm:Str)(ob:Obj):Prop:=∃ C,ob.cls=.ref C/\AU K nm C
end L3
namespace L3
open PySem PySem.Spec PyProof.Rows L2
variable {A:Around}{E:XK}{F:List Addr}{H H' H1 H2:Hp}{K:PySem.W.Frag}{N ps:List Str}{X:Cx}{a p:Addr}{b c:Int}{deep:Bool}{e tg:Expr}{es:List Expr}{fd:FuncData}{h:Int->Int->V}{i n t':Nat}{op:CmpOp}{r:R2}{te:TE}{u:Tok}{v:V}{vs xs:List V}{x:HO}{y:Option HO}
theorem xT:Slot "function" "__getattribute__" "object.__getattribute__" :=
 .of (owner:="object") (n:="__getattribute__") (by rw[YL,JE];kernel_rfl) (by decide +kernel) (by decide +kernel) (by decide +kernel)
  (by first|exact .inl (by decide +kernel)|exact .inr (by decide +kernel)) (by rw[Yg];kernel_rfl)
theorem Oi:typeLookup (.type "function") "__class__" = pure (some (.builtin "object.__class__")):=by rw[YL,JE];kernel_rfl
theorem Oj:isSubtype (.type "function") (.type (".".intercalate ("object.__class__".cutAt '.').dropLast))=pure true:=by
 rw[PySem.F.owner_object_class,Yg];kernel_rfl
theorem Ol:entryFor table "object.__getattribute__" = some Builtin.«object.__getattribute__»:=entryFor_of_tree (by kernel_rfl)
theorem Om(a b:Value):argsOk "object.__getattribute__" ⟨[a,b],[]⟩:=by unfold argsOk;kernel_rfl
section
variable {prog:Program}{w:World}{A:Around}{E:Value->Shared->Prop}{s:Shared}{a:Addr}
theorem Oo{R:Result->Shared->Prop}(hT:s.TypeIs (.ref a) "function")(hq:R (.ok (.ret (.type "function"))) s) :
  codeAny (model prog w) A (.call (.builtin "getset_descriptor.__get__") ⟨[.builtin "object.__class__",.ref a,.type "function"],[]⟩) R s:=by
 obtain⟨h,g,d,t,os⟩:=s
 have h5:(⟨h,g,d,t,os⟩:Shared).TypeIs (.builtin "object.__class__") "getset_descriptor":=JF
 have f8:=Oj
 refine Jj YU.plain PySem.F.entry_gs_get (YU.check _ _ _ _ _ _ _ _ h5 (PySem.F.args_gs_get _ _ _) ?_)
 repeat (any_goals (first|assumption|wp_step))
 refine⟨Y4 _ (by decide +kernel),ZY PySem.F.entry_object_class ?_⟩
 repeat (any_goals (first|assumption|wp_step))
theorem Oq{Q:Option Value->Shared->Prop}(hT:s.TypeIs (.ref a) "function")(hq:Q (some (.type "function")) { s with toks:=s.toks+1 }):wpAny (model prog w) A (getAttr? (.ref a) "__class__") Q E s:=by
 obtain⟨h,g,d,t,os⟩:=s
 have EY:∀ t',(⟨h,g,d,t',os⟩:Shared).TypeIs (.ref a) "function":=fun _=>hT
 have en:∀ {tk:Tok} {t':Nat} {Q:Fin->Shared->Prop} {E:Value->Shared->Prop} {A:Around},Q (.done (.ret (.type "function"))) ⟨h,g,d,t',os⟩->
   wpAny (model prog w) A (Builtin.«object.__getattribute__» ⟨[.ref a,.str "__class__" tk],[]⟩) Q E ⟨h,g,d,t',os⟩:=by
  intro tk t' Q E A hq
  have hT:=EY t'
  have h5:(⟨h,g,d,t',os⟩:Shared).TypeIs (.builtin "object.__class__") "getset_descriptor":=JF
  have f4:=Oi
  have f5:=JF
  have f6:=YU.lookup
  have f7:=PySem.F.slot_gs_set.lookup
  repeat (any_goals (first|assumption|wp_step))
  refine Oo hT ?_
  repeat (any_goals (first|assumption|wp_step))
 have Ot:∀ {tk:Tok} {t':Nat} {Q:Value->Shared->Prop} {E:Value->Shared->Prop} {A:Around},Q (.type "function") ⟨h,g,d,t',os⟩->wpAny (model prog w) A (getAttrBy (.ref a) (.str "__class__" tk) false) Q E ⟨h,g,d,t',os⟩:=by
  intro tk t' Q E A hq
  have hT:=EY t'
  have f2:=xT.lookup
  have f3:=xT.bind (.ref a)
  repeat (any_goals (first|assumption|wp_step))
  refine Jj xT.plain Ol (xT.check _ _ _ _ _ _ _ _ hT (Om _ _) (en ?_))
  repeat (any_goals (first|assumption|wp_step))
 unfold getAttr? getAttrBy?
 repeat (any_goals (first|assumption|with_reducible apply Ot | wp_step))
theorem Ou:PySem.W.KitX K (.ref a) (.type "function") (PySem.W.KitAt a "function"):=PySem.W.kitx_of PySem.W.kitAt_ty (fun {_ _ _ _ _ s} p k=>Oq (by obtain⟨o,h1,h2⟩:=p;exact⟨o,h1,h2⟩) k)
end
theorem nM{α:Type}{P:α->Prop}(a:α)(z:a∈([]:List α)):P a:=nomatch z
inductive MK where
 | t (ks:List (List Key))
 | k (ks:List Key)
 | i (C:Addr) (fs:List Str)
def MK.len:MK->Nat
 | .t ks=>ks.length
 | .k ks=>ks.length
 | .i _ fs=>fs.length
inductive D where
 | bo|bl (b:Bool)|int (i:Int)|str (x:Str)|tup (ds:List D)|lst (ds:List D)
 | gH (ks:List Str) (ds:List D)
 | exc (nm:Str)
 | ob (f:Addr) (fo:Obj) (vs:List V) (ds:List D)
 | mp (k:MK) (ds:List D)
abbrev St:=L2.St
inductive Ow where
 | s (i:Nat)|t (i:Nat)|f
 deriving DecidableEq
abbrev Wn:=Addr->Option Ow
def KL (K:PySem.W.Frag)(a:Addr)(xs:List V):Prop:=
 ∃ (o:Obj) (aj:Array Value) (n:Nat),K.lookup a=some o/\o.cls=.type "list" /\ o.dict=none/\o.data=.seq aj n/\aj.size<=sizeLine/\bc xs aj.toList
theorem cH.cases(h:cH K H a xs):Rd H a (.lst xs)\/KL K a xs:=h
theorem KL.sq(h:KL K a xs):cH K H a xs:=.inr h
def lZ (ks:List Str)(vs:List V):List (Key×V):=(ks.map fun x=>(Sum.inr x:Key)).zip vs
def Ov (fo:Obj)(c:Addr)(oc:Obj):Prop:=fo.cls=.type "function" /\ (∃ fd,fo.data=.func fd/\fd.code=.ref c)/\∃ fs q t,oc.data=.fields fs/\fs[1]? = some (.str q t)
structure AV (K:PySem.W.Frag) (C:Addr):Prop where
 cl:L2.xC K C
 ha:PySem.W.findIn K (.ref C) "__class__" = some (some (.builtin "object.__class__"))
 hn:PySem.W.specialIn K (.builtin "object.__class__") "__get__" = some (some (.builtin "getset_descriptor.__get__"))
 uQ:PySem.W.takesIn K (.builtin "object.__class__")=some true
 hm:PySem.W.mroIn K C (.type "object")=some true
 no:∀ t∈(["bool","int","tuple","list","str"]:List String),PySem.W.kitOne K (.ref C) (.type t)=some false
def MK.Is (K:PySem.W.Frag):MK->List V->HO->Prop
 | .t ks,vs,x=>x=.dT (ks.zip vs)
 | .k ks,vs,x=>x=.dK (ks.zip vs)
 | .i C fs,vs,x=>∃ dx,x=.ins C dx (fs.zip vs)/\AV K C
mutual
inductive Rep (K:PySem.W.Frag) (H:Hp) (w:Wn) (o:Ow):Nat->D->V->List Addr->Prop
 | bo {q}:Rep K H w o q .bo .bo []
 | bl {q} (b:Bool):Rep K H w o q (.bl b) (.bl b) []
 | int {q} (i:Int):Rep K H w o q (.int i) (.int i) []
 | str {q} (x:Str):Rep K H w o q (.str x) (.str x) []
 | tup {q} {a:Addr} {vs:List V} {ds:List D}:H a=some (.tup vs)->ae K H w o 0 ds vs []->Rep K H w o q (.tup ds) (.ref a) []
 | gH {q} {a:Addr} {ks:List Str} {vs:List V} {ds:List D}:H a=some (.dK (lZ ks vs))->w a=none->ae K H w o 0 ds vs []->Rep K H w o q (.gH ks ds) (.ref a) []
 | exc {q} {a:Addr} {nm:Str} {ob:Obj} {u:HO}:H a=some (.fF ob u)->XO K nm ob->(∀ xs,u ≠ .lst xs)->Rep K H w o q (.exc nm) (.ref a) []
 | ob {q} {f c:Addr} {fo oc:Obj} {u u':HO} {vs:List V} {ds:List D}:H f=some (.fF fo u)->H c=some (.fF oc u')->Ov fo c oc->ae K H w o 0 ds vs []->Rep K H w o q (.ob f fo vs ds) (.ref f) []
 | kl {a:Addr} {vs:List V} {ds:List D}:KL K a vs->ae K H w o 0 ds vs []->Rep K H w o 0 (.lst ds) (.ref a) []
 | shr {a:Addr} {vs:List V} {ds:List D}:Rd H a (.lst vs)->w a=none->ae K H w o 0 ds vs []->Rep K H w o 0 (.lst ds) (.ref a) []
 | own {q} {a:Addr} {vs:List V} {ds:List D} {F:List Addr}:H a=some (.lst vs)->w a=some o->ae K H w o q ds vs F->a ∉ F->Rep K H w o (q+1) (.lst ds) (.ref a) (a::F)
 | nu {a:Addr} {vs:List V} {ds:List D} {k:MK} {x:HO}:H a=some x->k.Is K vs x->w a=none->k.len=ds.length->ae K H w o 0 ds vs []->Rep K H w o 0 (.mp k ds) (.ref a) []
 | kK {q} {a:Addr} {vs:List V} {ds:List D} {k:MK} {x:HO}:H a=some x->k.Is K vs x->w a=some o->k.len=ds.length->ae K H w o 0 ds vs []->Rep K H w o (q+1) (.mp k ds) (.ref a) [a]
inductive ae (K:PySem.W.Frag) (H:Hp) (w:Wn) (o:Ow):Nat->List D->List V->List Addr->Prop
 | nil {q}:ae K H w o q [] [] []
 | cons {q} {d:D} {v:V} {ds:List D} {vs:List V} {F G:List Addr}:Rep K H w o q d v F->ae K H w o q ds vs G->(∀ a∈F,a ∉ G)->ae K H w o q (d::ds) (v::vs) (F++G)
end
def AW:HO->Bool
 | .lst _=>true
 | .dK _=>true
 | .dT _=>true
 | .ins _ _ _=>true
 | _=>false
inductive OX where
 | l (vs:List V)|t (ah:List (List Key×V))|k (ah:List (Key×V))|i (C dx:Addr) (fs:List (Str×V))
def OX.ho:OX->HO
 | .l vs=>.lst vs
 | .t ah=>.dT ah
 | .k ah=>.dK ah
 | .i C dx fs=>.ins C dx fs
theorem OX.is(v:OX):AW v.ho=true:=by cases v<;>rfl
theorem MK.ox{k:MK}(h:k.Is K vs x):∃ v:OX,x=v.ho:=by
 cases k with
 | t ks=>exact⟨.t _,h⟩
 | k ks=>exact⟨.k _,h⟩
 | i C fs=>obtain⟨dx,h,_⟩:=h;exact⟨.i _ _ _,h⟩
def oq:HO->Bool
 | .jI _=>true
 | _=>false
def Sm (x:HO)(y:Option HO):Prop:=match x with
 | .jI _=>∃ ps,y=some (.jI ps)
 | x=>y=some x
theorem sm(h:y=some x):Sm x y:=by cases x<;>first|exact h|exact⟨_,h⟩
theorem Sm.is(h:Sm x y):∃ z,y=some z/\oq z=oq x:=by
 cases x<;>first|exact⟨_,h,rfl⟩|(obtain⟨ps,e⟩:=h;exact⟨_,e,rfl⟩)
theorem Sm.eq(h:Sm x y)(n:oq x=false):y=some x:=by cases x<;>first|exact h|cases n
def tO:List Str:=["turned","chain_ladder","flat_ladder","paired","height_of","_law_high"]
structure TB (K:PySem.W.Frag) (H:Hp):Prop where
 tr:∀ P ps,H P=some (.jI ps)->PySem.TriplesOk ps.toList
 cd:∀ P ps,H P=some (.jI ps)->∀ pos cv,PySem.codeAmong pos ps.toList=some cv->∃ c oc u vs q t,cv=.ref c/\H c=some (.fF oc u)/\oc.data=.fields vs/\vs[1]? = some (.str q t)/\∀ xs,u ≠ .lst xs
 is:∀ x∈tO,∀ c P,PySem.W.tabIn K x=some (c,P)->∃ ps,H P=some (.jI ps)
structure WL (K:PySem.W.Frag) (w:Wn) (H:Hp):Prop where
 own:∀ a o,w a=some o->∃ vs:OX,H a=some vs.ho
 tb:TB K H
instance {K:PySem.W.Frag} {w:Wn} {H:Hp}:CoeFun (WL K w H) (fun _=>∀ a o,w a=some o->∃ vs:OX,H a=some vs.ho):=⟨WL.own⟩
theorem TB.upd(t:TB K H)(hx:oq x=false)(hp:H p=none\/∃ vs:OX,H p=some vs.ho):TB K (L2.upd H p x):=by
 have ne:∀ a y,H a=some y->AW y=false->a≠p:=fun a y e h z=>by
  subst z
  rcases hp with q|⟨vs,q⟩
  ·rw[e]at q;cases q
  ·rw[e]at q
   rw[QH q,vs.is]at h
   cases h
 refine⟨fun P ps e=>?_,fun P ps e pos cv hc=>?_,fun x hx c P hP=>by
  obtain⟨ps,e⟩:=t.is x hx c P hP
  exact⟨ps,by rw[aZ (ne P _ e rfl)];exact e⟩⟩
 ·by_cases hP:P=p
  ·subst hP;rw[fO]at e;cases e;cases hx
  ·rw[aZ hP]at e;exact t.tr P ps e
 ·by_cases hP:P=p
  ·subst hP;rw[fO]at e;cases e;cases hx
  ·rw[aZ hP]at e
   obtain⟨c,oc,u,vs,q,tt,h1,h2,h3,h4,h5⟩:=t.cd P ps e pos cv hc
   exact⟨c,oc,u,vs,q,tt,h1,by rw[aZ (ne c _ h2 rfl)];exact h2,h3,h4,h5⟩
def dh (H:Hp)(w:Wn)(H':Hp)(w':Wn):Prop:=∀ a x,H a=some x->w a=none->Sm x (H' a)/\w' a=none
theorem dh.trans{w w1 w2:Wn}(a:dh H w H1 w1)(b:dh H1 w1 H2 w2):dh H w H2 w2:=fun c x h n=>by
 obtain⟨s1,n1⟩:=a c x h n
 cases ht:oq x with
 | false=>exact b c x (s1.eq ht) n1
 | true=>
  obtain⟨y,e,hy⟩:=s1.is
  obtain⟨s2,n2⟩:=b c y e n1
  refine⟨?_,n2⟩
  rw[ht]at hy
  cases x with
  | jI ps=>
   cases y with
   | jI ps'=>exact s2
   | _=>cases hy
  | _=>cases ht
theorem WL.tP{w:Wn}(wl:WL K w H)(e:H a=some x)(h:AW x=false):w a=none:=by
 cases q:w a with
 | none=>rfl
 | some o=>
  obtain⟨vs,e'⟩:=wl a o q
  rw[e]at e'
  rw[QH e',vs.is]at h
  cases h
theorem cR.go{w w':Wn}(wl:WL K w H)(st:dh H w H' w')(h:cR K H a vs):cR K H' a vs:=by
 rcases h with(h|⟨o,h⟩)|h
 ·exact .inl (.inl (st a _ h (wl.tP h rfl)).1)
 ·exact .inl (.inr ⟨o,(st a _ h (wl.tP h rfl)).1⟩)
 ·exact .inr h
theorem xU.go{w w':Wn}(st:dh H w H' w')(n:w a=none)(h:Rd H a (.lst vs)):Rd H' a (.lst vs)/\w' a=none:=by
 rcases h with h|⟨o,h⟩
 ·exact⟨.inl (st a _ h n).1,(st a _ h n).2⟩
 ·exact⟨.inr ⟨o,(st a _ h n).1⟩,(st a _ h n).2⟩
theorem Rep.go{w w':Wn}{o o':Ow}(wl:WL K w H)(st:dh H w H' w'):∀ {q:Nat} {d:D} {v:V} {F:List Addr},Rep K H w o q d v F->(∀ a∈F,H' a=H a/\w' a=some o')->Rep K H' w' o' q d v F:=by
 intro q d v F r
 refine Rep.rec (motive_1:=fun q d v F _=>(∀ a∈F,H' a=H a/\w' a=some o')->Rep K H' w' o' q d v F) (motive_2:=fun q ds vs F _=>(∀ a∈F,H' a=H a/\w' a=some o')->ae K H' w' o' q ds vs F) ?_ ?_ ?_ ?_ ?_ ?_ ?_ ?_ ?_ ?_ ?_ ?_ ?_ ?_ ?_ r
 ·intro q _;exact .bo
 ·intro q b _;exact .bl b
 ·intro q i _;exact .int i
 ·intro q x _;exact .str x
 ·intro q a vs ds h r ih _;exact .tup (st _ _ h (wl.tP h rfl)).1 (ih nM)
 ·intro q a ks vs ds h n r ih _;exact .gH (st _ _ h n).1 (st _ _ h n).2 (ih nM)
 ·intro q a nm ob u h x n _;exact .exc (st _ _ h (wl.tP h rfl)).1 x n
 ·intro q f c fo oc u u' vs ds h1 h2 x r ih _;exact .ob (st _ _ h1 (wl.tP h1 rfl)).1 (st _ _ h2 (wl.tP h2 rfl)).1 x (ih nM)
 ·intro a vs ds h r ih _;exact .kl h (ih nM)
 ·intro a vs ds h n r ih _;exact .shr (xU.go st n h).1 (xU.go st n h).2 (ih nM)
 ·intro q a vs ds F h e r ne ih k;exact .own ((k _ Qh).1.trans h) (k _ Qh).2 (ih fun a m=>k a (Qg _ m)) ne
 ·intro a vs ds k x h i n l r ih _
  have nt:oq x=false:=by
   obtain⟨v,rfl⟩:=MK.ox i
   cases v<;>rfl
  exact .nu ((st _ _ h n).1.eq nt) i (st _ _ h n).2 l (ih nM)
 ·intro q a vs ds k x h i e l r ih kk;exact .kK ((kk _ Qh).1.trans h) i (kk _ Qh).2 l (ih nM)
 ·intro q _;exact .nil
 ·intro q d v ds vs F G r s ne l0 l3 k;exact .cons (l0 fun a m=>k a (Qu _ m)) (l3 fun a m=>k a (Qo _ m)) ne
theorem ae.go{w w':Wn}{o o':Ow}(wl:WL K w H)(st:dh H w H' w'):∀ {q:Nat} {ds:List D} {vs:List V} {F:List Addr},ae K H w o q ds vs F->(∀ a∈F,H' a=H a/\w' a=some o')->ae K H' w' o' q ds vs F
 | _,_,_,_,.nil,_=>.nil
 | _,_,_,_,.cons r s ne,k=>.cons (Rep.go wl st r fun a m=>k a (Qu _ m)) (ae.go wl st s fun a m=>k a (Qo _ m)) ne
theorem Rep.freeze{w w':Wn}{o o':Ow}(n:∀ a,w a=none->w' a=none):∀ {q:Nat} {d:D} {v:V} {F:List Addr},Rep K H w o q d v F->(∀ a∈F,w' a=none)->Rep K H w' o' 0 d v []:=by
 intro q d v F r
 refine Rep.rec (motive_1:=fun q d v F _=>(∀ a∈F,w' a=none)->Rep K H w' o' 0 d v []) (motive_2:=fun q ds vs F _=>(∀ a∈F,w' a=none)->ae K H w' o' 0 ds vs []) ?_ ?_ ?_ ?_ ?_ ?_ ?_ ?_ ?_ ?_ ?_ ?_ ?_ ?_ ?_ r
 ·intro q _;exact .bo
 ·intro q b _;exact .bl b
 ·intro q i _;exact .int i
 ·intro q x _;exact .str x
 ·intro q a vs ds h r ih _;exact .tup h (ih nM)
 ·intro q a ks vs ds h e r ih _;exact .gH h (n _ e) (ih nM)
 ·intro q a nm ob u h x n _;exact .exc h x n
 ·intro q f c fo oc u u' vs ds h1 h2 x r ih _;exact .ob h1 h2 x (ih nM)
 ·intro a vs ds h r ih _;exact .kl h (ih nM)
 ·intro a vs ds h e r ih _;exact .shr h (n _ e) (ih nM)
 ·intro q a vs ds F h e r ne ih k;exact .shr (Rd.of h) (k _ Qh) (ih fun a m=>k a (Qg _ m))
 ·intro a vs ds k x h i e l r ih _;exact .nu h i (n _ e) l (ih nM)
 ·intro q a vs ds k x h i e l r ih kk;exact .nu h i (kk _ Qh) l (ih nM)
 ·intro q _;exact .nil
 ·intro q d v ds vs F G r s ne l0 l3 k;exact .cons (F:=[]) (G:=[]) (l0 fun a m=>k a (Qu _ m)) (l3 fun a m=>k a (Qo _ m)) nM
theorem ae.freeze{w w':Wn}{o o':Ow}(n:∀ a,w a=none->w' a=none):∀ {q:Nat} {ds:List D} {vs:List V} {F:List Addr},ae K H w o q ds vs F->(∀ a∈F,w' a=none)->ae K H w' o' 0 ds vs []
 | _,_,_,_,.nil,_=>.nil
 | _,_,_,_,.cons r s ne,k=>.cons (F:=[]) (G:=[]) (Rep.freeze n r fun a m=>k a (Qu _ m)) (ae.freeze n s fun a m=>k a (Qo _ m)) nM
theorem Rep.aE{w:Wn}{o:Ow}:∀ {q:Nat} {d:D} {v:V} {F:List Addr},Rep K H w o q d v F->∀ a∈F,w a=some o:=by
 intro q d v F r
 refine Rep.rec (motive_1:=fun q d v F _=>∀ a∈F,w a=some o) (motive_2:=fun q ds vs F _=>∀ a∈F,w a=some o) ?_ ?_ ?_ ?_ ?_ ?_ ?_ ?_ ?_ ?_ ?_ ?_ ?_ ?_ ?_ r
 ·intro q a m;exact(QI m).elim
 ·intro q b a m;exact(QI m).elim
 ·intro q i a m;exact(QI m).elim
 ·intro q x a m;exact(QI m).elim
 ·intro q a vs ds h r ih b m;exact(QI m).elim
 ·intro q a ks vs ds h e r ih b m;exact(QI m).elim
 ·intro q a nm ob u h x n b m;exact(QI m).elim
 ·intro q f c fo oc u u' vs ds h1 h2 x r ih b m;exact(QI m).elim
 ·intro a vs ds h r ih b m;exact(QI m).elim
 ·intro a vs ds h e r ih b m;exact(QI m).elim
 ·intro q a vs ds F h e r ne ih b m
  rcases Qw.mp m with z|z
  ·rw[z];exact e
  ·exact ih b z
 ·intro a vs ds k x h i e l r ih b m;exact(QI m).elim
 ·intro q a vs ds k x h i e l r ih b m
  rw[Qq.mp m];exact e
 ·intro q a m;exact(QI m).elim
 ·intro q d v ds vs F G r s ne l0 l3 a m
  rcases Qx.mp m with z|z
  ·exact l0 a z
  ·exact l3 a z
theorem ae.aE{w:Wn}{o:Ow}:∀ {q:Nat} {ds:List D} {vs:List V} {F:List Addr},ae K H w o q ds vs F->∀ a∈F,w a=some o
 | _,_,_,_,.nil,a,m=>(QI m).elim
 | _,_,_,_,.cons r s ne,a,m=>(Qx.mp m).elim (r.aE a) (s.aE a)
def D.cJ:D->Bool
 | .lst _=>true
 | .mp _ _=>true
 | _=>false
@[simp] theorem D.xV:D.cJ .bo=false:=rfl
@[simp] theorem D.AX(b:Bool):D.cJ (.bl b)=false:=rfl
@[simp] theorem D.ot(i:Int):D.cJ (.int i)=false:=rfl
@[simp] theorem D.xW(x:Str):D.cJ (.str x)=false:=rfl
@[simp] theorem D.xX(ds:List D):D.cJ (.tup ds)=false:=rfl
@[simp] theorem D.xY(ks:List Str)(ds:List D):D.cJ (.gH ks ds)=false:=rfl
@[simp] theorem D.xZ(nm:Str):D.cJ (.exc nm)=false:=rfl
@[simp] theorem D.AY(f:Addr)(fo:Obj)(vs:List V)(ds:List D):D.cJ (.ob f fo vs ds)=false:=rfl
@[simp] theorem D.AZ(k:MK)(ds:List D):D.cJ (.mp k ds)=true:=rfl
@[simp] theorem D.x9(ds:List D):D.cJ (.lst ds)=true:=rfl
theorem Rep.cV{w:Wn}{o:Ow}{q:Nat}{d:D}(r:Rep K H w o q d v F)(h:d.cJ=false):F=[]/\∀ q',Rep K H w o q' d v []:=by
 cases r with
 | bo=>exact⟨rfl,fun _=>.bo⟩
 | bl b=>exact⟨rfl,fun _=>.bl b⟩
 | int i=>exact⟨rfl,fun _=>.int i⟩
 | str x=>exact⟨rfl,fun _=>.str x⟩
 | tup h' r'=>exact⟨rfl,fun _=>.tup h' r'⟩
 | gH h' e' r'=>exact⟨rfl,fun _=>.gH h' e' r'⟩
 | exc h' x n=>exact⟨rfl,fun _=>.exc h' x n⟩
 | ob h1 h2 x r=>exact⟨rfl,fun _=>.ob h1 h2 x r⟩
 | kl=>cases h
 | shr=>cases h
 | own=>cases h
 | nu=>cases h
 | kK=>cases h
theorem Rep.zero{w:Wn}{o:Ow}{d:D}(r:Rep K H w o 0 d v F):F=[]:=by
 cases r<;>rfl
theorem ae.zero{w:Wn}{o:Ow}:∀ {ds:List D} {vs:List V} {F:List Addr},ae K H w o 0 ds vs F->F=[]
 | _,_,_,.nil=>rfl
 | _,_,_,.cons r s _=>by rw[r.zero,s.zero];rfl
theorem ae.length{w:Wn}{o:Ow}{q:Nat}:∀ {ds:List D} {vs:List V} {F:List Addr},ae K H w o q ds vs F->ds.length=vs.length
 | _,_,_,.nil=>rfl
 | _,_,_,.cons _ s _=>by simp[s.length]
theorem Rep.any{w:Wn}{o o':Ow}{q:Nat}{d:D}(r:Rep K H w o q d v [])(wl:WL K w H):Rep K H w o' q d v []:=
 Rep.go wl (fun a x h n=>⟨sm h,n⟩) r nM
theorem ae.any{w:Wn}{o o':Ow}{q:Nat}{d:List D}{v:List V}(r:ae K H w o q d v [])(wl:WL K w H):ae K H w o' q d v []:=
 ae.go wl (fun a x h n=>⟨sm h,n⟩) r nM
theorem ae.get{w:Wn}{o:Ow}:∀ {ds:List D} {vs:List V} {i:Nat} {d:D},ae K H w o 0 ds vs []->ds[i]? = some d->∃ v,vs[i]? = some v/\Rep K H w o 0 d v []
 | ds,vs,i,d,r,e=>by
  generalize hF:([]:List Addr)=F at r
  cases r with
  | nil=>simp at e
  | @cons _ d' v' ck eS F' G' r s _=>
   have h1:F'=[]:=r.zero
   have h2:G'=[]:=s.zero
   subst h1 h2
   cases i with
   | zero=>simp at e;subst e;exact⟨v',rfl,r⟩
   | succ j=>
    obtain⟨v,h1,h2⟩:=ae.get (i:=j) (d:=d) s (by simpa using e)
    exact⟨v,by simpa using h1,h2⟩
theorem ae.snoc{w:Wn}{o:Ow}{q:Nat}{d:D}{G:List Addr}(r':Rep K H w o q d v G):∀ {ds:List D} {vs:List V} {F:List Addr},ae K H w o q ds vs F->(∀ a∈F,a ∉ G)->ae K H w o q (ds++[d]) (vs++[v]) (F++G)
 | _,_,_,.nil,_=>by
  have:ae K H w o q [d] [v] (G++[]):=.cons r' .nil (fun a _ z=>nomatch z)
  simpa using this
 | _,_,_,.cons (F:=F) (G:=F') r s ne,k=>by
  rw[ZD]
  refine .cons r (ae.snoc r' s fun a m=>k a (Qo _ m)) fun a m z=>?_
  rcases Qx.mp z with z|z
  ·exact ne a m z
  ·exact k a (Qu _ m) z
abbrev OD:=Option (D×Nat)
abbrev aQ:=List (OD)
structure Good (K:PySem.W.Frag) (ρ:aQ) (σ:St) (H:Hp) (w:Wn) (t:Nat):Prop where
 wl:WL K w H
 ws:∀ a i,w a=some (.s i)->i<σ.length
 wt:∀ a i,w a=some (.t i)->i<t
 len:ρ.length=σ.length
 slot:∀ (i:Nat) d q,ρ[i]? = some (some (d,q))->∃ v F,σ[i]? = some (some v)/\Rep K H w (.s i) q d v F
structure Go (H:Hp) (w:Wn) (H':Hp) (w':Wn):Prop where
 bJ:dh H w H' w'
 keep:∀ a o,w a=some o->(∀ i,o ≠ .s i)->H' a=H a/\w' a=some o
theorem Go.refl{w:Wn}:Go H w H w:=⟨fun a x h n=>⟨sm h,n⟩,fun a o e _=>⟨rfl,e⟩⟩
theorem Go.trans{w w1 w2:Wn}(a:Go H w H1 w1)(b:Go H1 w1 H2 w2):Go H w H2 w2:=
 ⟨a.bJ.trans b.bJ,fun c o e h=>by
   obtain⟨h1,w1⟩:=a.keep c o e h
   obtain⟨h2,w2⟩:=b.keep c o w1 h
   exact⟨h2.trans h1,w2⟩⟩
theorem Rep.gone{w w':Wn}{q:Nat}{d:D}(r:Rep K H w (.t i) q d v F)(wl:WL K w H)(g:Go H w H' w'):Rep K H' w' (.t i) q d v F:=
 Rep.go wl g.bJ r fun a m=>g.keep a _ (r.aE a m) (fun _ z=>nomatch z)
theorem ae.gone{w w':Wn}{q:Nat}{d:List D}{v:List V}(r:ae K H w (.t i) q d v F)(wl:WL K w H)(g:Go H w H' w'):ae K H' w' (.t i) q d v F:=
 ae.go wl g.bJ r fun a m=>g.keep a _ (r.aE a m) (fun _ z=>nomatch z)
def bU (t:Nat)(w:Wn):Wn:=fun a=>match w a with
 | some (.t i)=>if t<=i then none else some (.t i)
 | x=>x
theorem x_{t:Nat}{w:Wn}(h:w a=none):bU t w a=none:=by unfold bU;rw[h]
theorem Ox{t:Nat}{w:Wn}(h:w a=some (.s i)):bU t w a=some (.s i):=by unfold bU;rw[h]
theorem Oy{t:Nat}{w:Wn}(h:w a=some .f):bU t w a=some .f:=by unfold bU;rw[h]
theorem Oz{t:Nat}{w:Wn}(h:w a=some (.t i))(hi:i<t):bU t w a=some (.t i):=by unfold bU;rw[h];exact Qk (by omega)
theorem OA{t:Nat}{w:Wn}(h:w a=some (.t i))(hi:t<=i):bU t w a=none:=by unfold bU;rw[h];exact Qj hi
theorem A_{t:Nat}{w:Wn}{o:Ow}(h:bU t w a=some o):w a=some o/\∀ i,o=.t i->i<t:=by
 unfold bU at h
 cases e:w a with
 | none=>rw[e]at h;cases h
 | some o'=>
  rw[e]at h
  cases o' with
  | s i=>cases h;exact⟨rfl,fun i z=>nomatch z⟩
  | f=>cases h;exact⟨rfl,fun i z=>nomatch z⟩
  | t i=>
   dsimp only at h
   split at h
   ·cases h
   ·cases h;exact⟨rfl,fun j z=>by cases z;omega⟩
theorem Good.drop{ρ:aQ}{σ:St}{w:Wn}{t:Nat}(g:Good K ρ σ H w t):Good K ρ σ H (bU t' w) t':=by
 refine⟨⟨fun a o e=>g.wl a o (A_ e).1,g.wl.tb⟩,fun a i e=>g.ws a i (A_ e).1,fun a i e=>(A_ e).2 i rfl,g.len,fun i d q e=>?_⟩
 obtain⟨v,F,h1,h2⟩:=g.slot i d q e
 exact⟨v,F,h1,Rep.go g.wl (fun a x h n=>⟨sm h,x_ n⟩) h2 fun a m=>⟨rfl,Ox (h2.aE a m)⟩⟩
theorem Go.drop{w w':Wn}{t:Nat}(g:Go H w H' w')(wt:∀ a i,w a=some (.t i)->i<t):Go H w H' (bU t w'):=
 ⟨fun a x h n=>⟨(g.bJ a x h n).1,x_ (g.bJ a x h n).2⟩,fun a o e h=>by
   obtain⟨h1,h2⟩:=g.keep a o e h
   refine⟨h1,?_⟩
   cases o with
   | s i=>exact absurd rfl (h i)
   | f=>exact Oy h2
   | t i=>exact Oz h2 (wt a i e)⟩
theorem Rep.drop{w:Wn}{q:Nat}{d:D}{t:Nat}{o:Ow}(r:Rep K H w (.t t) q d v F)(h:t'<=t):Rep K H (bU t' w) o 0 d v []:=
 Rep.freeze (fun a n=>x_ n) r fun a m=>OA (r.aE a m) h
abbrev aA:=aQ->Option (D×Nat×aQ)
def tD (K:PySem.W.Frag)(f:aA):TE:=fun σ H Q=>∃ ρ w t r q ρ',Good K ρ σ H w t/\f ρ=some (r,q,ρ')/\∀ v H' w' F,Good K ρ' σ H' w' (t+1)->Go H w H' w'->Rep K H' w' (.t t) q r v F->Q v H'
theorem PE.imp{t t':TE}(h:PE X e t)(i:∀ σ H Q,t' σ H Q->t σ H Q):PE X e t':=fun pins s σ H Q I q=>h pins s σ H Q I (i σ H Q q)
abbrev PD (X:Cx)(e:Expr)(f:aA):Prop:=PE X e (tD X.K f)
structure QD (X:Cx) (e:Expr) (f:aA):Prop where mk::o:PD X e f
theorem Good.up{ρ:aQ}{σ:St}{w:Wn}{t:Nat}(g:Good K ρ σ H w t):Good K ρ σ H w (t+1):=⟨g.wl,g.ws,fun a i e=>Zk (g.wt a i e),g.len,g.slot⟩
@[simp] def fy (d:D):Nat:=if d.cJ then 0 else 9
theorem Rep.jw{w:Wn}{o:Ow}{d:D}(r:Rep K H w o 0 d v []):Rep K H w o (fy d) d v []:=by
 unfold fy
 cases e:d.cJ with
 | true=>exact r
 | false=>exact(r.cV e).2 9
section
variable {K:PySem.W.Frag}{σ:St}{H:Hp}{ρ ρ' ρ1 ρ2:aQ}{w:Wn}{t:Nat}{Q:VK}
theorem rl{fa fb:aA}{R:V->V->Hp->Prop}(g:Good K ρ σ H w t){d1 d2:D}{q1 q2:Nat}(e1:fa ρ=some (d1,q1,ρ1))(e2:fb ρ1=some (d2,q2,ρ2))
  (k:∀ x y H2 w2 F1 F2,Good K ρ2 σ H2 w2 (t+2)->Go H w H2 w2->Rep K H2 w2 (.t t) q1 d1 x F1->Rep K H2 w2 (.t (t+1)) q2 d2 y F2->R x y H2) :
  tD K fa σ H fun x H1=>tD K fb σ H1 fun y H2=>R x y H2:=
 ⟨ρ,w,t,d1,q1,ρ1,g,e1,fun x H1 w1 F1 g1 aJ r1=>⟨ρ1,w1,t+1,d2,q2,ρ2,g1,e2,fun y H2 w2 F2 g2 bY r2=>k x y H2 w2 F1 F2 g2 (aJ.trans bY) (r1.gone g1.wl bY) r2⟩⟩
theorem ou{r:D}{q:Nat}{w2:Wn}{t2:Nat}(k:∀ v H' w' F,Good K ρ' σ H' w' (t+1)->Go H w H' w'->Rep K H' w' (.t t) q r v F->Q v H')(g:Good K ρ σ H w t)(g2:Good K ρ' σ H2 w2 t2)(go:Go H w H2 w2)
  (rr:Rep K H2 (bU t w2) (.t t) q r v []):Q v H2:=k v H2 (bU t w2) [] g2.drop.up (go.drop g.wt) rr
def j_ (p:Addr)(o:Ow)(w:Wn):Wn:=fun a=>if a=p then some o else w a
theorem oy{o:Ow}{w:Wn}:j_ p o w p=some o:=Qj rfl
theorem iE{o:Ow}{w:Wn}(h:a≠p):j_ p o w a=w a:=Qk h
theorem lj{ds:List D}{w1:Wn}(g:Good K ρ σ H1 w1 t)(hp:H1 p=none)(r:ae K H1 w1 .f 0 ds vs []) :
  Good K ρ σ (upd H1 p (.lst vs)) (j_ p (.t t) w1) (t+1)/\Go H1 w1 (upd H1 p (.lst vs)) (j_ p (.t t) w1)/\Rep K (upd H1 p (.lst vs)) (j_ p (.t t) w1) (.t t) 1 (.lst ds) (.ref p) [p]:=by
 have ne:∀ a x,H1 a=some x->a≠p:=fun a x e=>h_ e hp
 have nw:∀ a o,w1 a=some o->a≠p:=fun a o e=>by obtain⟨vs,q⟩:=g.wl a o e;exact ne a _ q
 have st:dh H1 w1 (upd H1 p (.lst vs)) (j_ p (.t t) w1):=fun a x e n=>⟨sm (by rw[aZ (ne a x e)];exact e),by rw[iE (ne a x e)];exact n⟩
 refine⟨⟨⟨fun a o e=>?_,g.wl.tb.upd rfl (.inl hp)⟩,fun a i e=>?_,fun a i e=>?_,g.len,fun i d q e=>?_⟩,⟨st,fun a o e _=>⟨aZ (nw a o e),(iE (nw a o e)).trans e⟩⟩,?_⟩
 ·by_cases h:a=p
  ·subst h;exact⟨.l vs,fO⟩
  ·rw[iE h]at e
   obtain⟨us,q⟩:=g.wl a o e
   exact⟨us,by rw[aZ h];exact q⟩
 ·by_cases h:a=p
  ·subst h;rw[oy]at e;cases e
  ·rw[iE h]at e;exact g.ws a i e
 ·by_cases h:a=p
  ·subst h;rw[oy]at e;cases e;exact Zv _
  ·rw[iE h]at e;exact Zk (g.wt a i e)
 ·obtain⟨v,F,h1,h2⟩:=g.slot i d q e
  exact⟨v,F,h1,Rep.go g.wl st h2 fun a m=>⟨aZ (nw a _ (h2.aE a m)),(iE (nw a _ (h2.aE a m))).trans (h2.aE a m)⟩⟩
 ·exact .own fO oy (ae.go g.wl st r nM) (fun z=>nomatch z)
theorem tR{ds:List D}{w1:Wn}(g:Good K ρ σ H1 w1 t)(hp:H1 p=none)(r:ae K H1 w1 .f 0 ds vs []) :
  Good K ρ σ (upd H1 p (.tup vs)) w1 (t+1)/\Go H1 w1 (upd H1 p (.tup vs)) w1/\Rep K (upd H1 p (.tup vs)) w1 (.t t) 9 (.tup ds) (.ref p) []:=by
 have ne:∀ a x,H1 a=some x->a≠p:=fun a x e=>h_ e hp
 have nw:∀ a o,w1 a=some o->a≠p:=fun a o e=>by obtain⟨vs,q⟩:=g.wl a o e;exact ne a _ q
 have st:dh H1 w1 (upd H1 p (.tup vs)) w1:=fun a x e n=>⟨sm (by rw[aZ (ne a x e)];exact e),n⟩
 refine⟨⟨⟨fun a o e=>?_,g.wl.tb.upd rfl (.inl hp)⟩,g.ws,fun a i e=>Zk (g.wt a i e),g.len,fun i d q e=>?_⟩,⟨st,fun a o e _=>⟨aZ (nw a o e),e⟩⟩,?_⟩
 ·obtain⟨us,q⟩:=g.wl a o e
  exact⟨us,by rw[aZ (nw a o e)];exact q⟩
 ·obtain⟨v,F,h1,h2⟩:=g.slot i d q e
  exact⟨v,F,h1,Rep.go g.wl st h2 fun a m=>⟨aZ (nw a _ (h2.aE a m)),h2.aE a m⟩⟩
 ·exact .tup fO (ae.go g.wl st r nM)
end
@[simp] def eC (d:D):aA:=fun ρ=>some (d,9,ρ)
@[simp] def aa (i:Nat):aA:=fun ρ=>match ρ[i]? with
 | some (some (d,q))=>if d.cJ=false then some (d,9,ρ)else if q=0 then some (d,0,ρ)else some (d,0,ρ.set i (some (d,0)))
 | _=>none
section
variable {X:Cx}{a b c e:Expr}{fa fb fc f:aA}{pos:Pos}
theorem ya{d:D}(h:PE X e (tC v))(r:∀ K H w o q,Rep K H w o q d v []):PD X e (eC d):=PE.imp h fun σ H Q ai=>by
 obtain⟨ρ,w,t,r',q,ρ',g,ee,k⟩:=ai
 cases ee
 exact k v H w [] g.up Go.refl (r _ _ _ _ _)
theorem aS{i j}:QD X (.Constant (.int i) j pos) (eC (.int i)):=⟨ya DZ fun _ _ _ _ _=>.int i⟩
theorem l7{i j}:QD X (.Constant (.bool i) j pos) (eC (.bl i)):=⟨ya La fun _ _ _ _ _=>.bl i⟩
theorem OB{j}:QD X (.Constant .none j pos) (eC .bo):=⟨ya Lb fun _ _ _ _ _=>.bo⟩
theorem tS{x j}:QD X (.Constant (.str x) j pos) (eC (.str x)):=⟨ya zT fun _ _ _ _ _=>.str x⟩
def jx (i:Nat)(w:Wn):Wn:=fun a=>if w a=some (.s i)then none else w a
theorem yb{w:Wn}{a:Addr}(h:w a=none):jx i w a=none:=by unfold jx;rw[h];rfl
theorem EZ{w:Wn}{a:Addr}(h:w a=some (.s i)):jx i w a=none:=by unfold jx;rw[Qj h]
theorem yc{w:Wn}{a:Addr}{o:Ow}(h:w a=some o)(n:o ≠ .s i):jx i w a=some o:=by unfold jx;rw[Qk (by rw[h];exact fun z=>n (QH z))];exact h
theorem tT{w:Wn}{a:Addr}{o:Ow}(h:jx i w a=some o):w a=some o/\o ≠ .s i:=by
 unfold jx at h
 split at h
 ·cases h
 ·rename_i n;exact⟨h,fun z=>n (by rw[h,z])⟩
theorem Good.give{ρ:aQ}{σ:St}{w:Wn}{t:Nat}{d:D}{q:Nat}(g:Good K ρ σ H w t)(e:ρ[i]? = some (some (d,q))):Good K (ρ.set i (some (d,0))) σ H (jx i w) t/\Go H w H (jx i w):=by
 have st:dh H w H (jx i w):=fun a x h n=>⟨sm h,yb n⟩
 refine⟨⟨⟨fun a o h=>g.wl a o (tT h).1,g.wl.tb⟩,fun a j h=>g.ws a j (tT h).1,fun a j h=>g.wt a j (tT h).1,by rw[Zh];exact g.len,fun j d' q' e'=>?_⟩,⟨st,fun a o h n=>⟨rfl,yc h (n i)⟩⟩⟩
 by_cases hj:i=j
 ·subst hj
  rw[QT (Qy.mp e).1]at e'
  cases e'
  obtain⟨v,F,h1,h2⟩:=g.slot i d q e
  exact⟨v,[],h1,Rep.freeze (fun a n=>yb n) h2 fun a m=>EZ (h2.aE a m)⟩
 ·rw[QX hj]at e'
  obtain⟨v,F,h1,h2⟩:=g.slot j d' q' e'
  exact⟨v,F,h1,Rep.go g.wl st h2 fun a m=>⟨rfl,yc (h2.aE a m) (fun z=>hj (by cases z;rfl))⟩⟩
theorem bE{x:Str}(h:QE X (.Name x pos) (eV i)):QD X (.Name x pos) (aa i):=⟨have h:=h.o;PE.imp h fun σ H Q ai=>by
 obtain⟨ρ,w,t,r',q,ρ',g,ee,k⟩:=ai
 unfold aa at ee
 split at ee
 next d q0 e0=>
  obtain⟨v,F,h1,h2⟩:=g.slot i d q0 e0
  refine⟨v,h1,?_⟩
  split at ee
  next hl=>
   cases ee
   obtain⟨hF,hr⟩:=h2.cV hl
   exact k v H w [] g.up Go.refl ((hr 9).any g.wl)
  ·split at ee
   next hq=>
    subst hq
    cases ee
    have:=h2.zero
    subst this
    exact k v H w [] g.up Go.refl (h2.any g.wl)
   ·cases ee
    obtain⟨g',f_⟩:=g.give e0
    refine k v H (jx i w) [] g'.up f_ ?_
    exact Rep.freeze (fun a n=>yb n) h2 fun a m=>EZ (h2.aE a m)
 ·cases ee⟩
def oz:D->Option V
 | .bo=>some .bo
 | .bl b=>some (.bl b)
 | .int i=>some (.int i)
 | .str x=>some (.str x)
 | _=>none
theorem Ba{w:Wn}{o:Ow}{q:Nat}{d:D}(h:oz d=some v):Rep K H w o q d v []:=by
 cases d<;>cases h
 ·exact .bo
 ·exact .bl _
 ·exact .int _
 ·exact .str _
@[simp] def e2 (g:D->D->Option D)(fa fb:aA):aA:=fun ρ=>match fa ρ with
 | some (x,_,ρ1)=>match fb ρ1 with
  | some (y,_,ρ2)=>match g x y with
   | some d=>some (d,9,ρ2)
   | none=>none
  | none=>none
 | none=>none
theorem OC{g:D->D->Option D}{ρ ρ':aQ}{r:D}{q:Nat}(h:e2 g fa fb ρ=some (r,q,ρ')):∃ x q1 ρ1 y q2,fa ρ=some (x,q1,ρ1)/\fb ρ1=some (y,q2,ρ')/\g x y=some r/\q=9:=by
 unfold e2 at h
 split at h
 next x q1 ρ1 h1=>
  split at h
  next y q2 ρ2 h2=>
   split at h
   next d hd=>
    cases h
    exact⟨x,q1,ρ1,y,q2,h1,h2,hd,rfl⟩
   ·cases h
  ·cases h
 ·cases h
theorem vb{g:D->D->Option D}(hg:∀ x y d,g x y=some d->∃ v,oz d=some v/\∀ H w o o' q q' u u' F F',Rep K H w o q x u F->Rep K H w o' q' y u' F'->WL K w H->∀ Q:VK,Q v H->r u u' H Q) :
  ∀ σ H Q,tD K (e2 g fa fb) σ H Q->j3 r (tD K fa) (tD K fb) σ H Q:=fun σ H Q ai=>by
 obtain⟨ρ,w,t,r',q,ρ',gd,ee,k⟩:=ai
 obtain⟨x,q1,ρ1,y,q2,h1,h2,h3,rfl⟩:=OC ee
 obtain⟨v,hv,hr⟩:=hg x y r' h3
 exact rl gd h1 h2 fun u u' H2 w2 F1 F2 g2 go r1 r2=>hr H2 w2 _ _ _ _ u u' F1 F2 r1 r2 g2.wl Q (ou k gd g2 go (Ba hv))
@[simp] def gI (f:Int->Int->Option D):D->D->Option D
 | .int i,.int j=>f i j
 | _,_=>none
theorem vc{f:Int->Int->Option D}{x y d:D}(h:gI f x y=some d):∃ i j,x=.int i/\y=.int j/\f i j=some d:=by
 unfold gI at h
 split at h
 ·exact⟨_,_,rfl,rfl,h⟩
 ·cases h
theorem fH{w:Wn}{o:Ow}{q:Nat}{i:Int}(r:Rep K H w o q (.int i) v F):v=.int i:=by cases r;rfl
theorem Bb{f:Int->Int->Option D}{C:Int->Int->Prop}(hf:∀ i j d,f i j=some d->C i j/\oz d=some (h i j)) :
  ∀ σ H Q,tD K (e2 (gI f) fa fb) σ H Q->j3 (rI C h) (tD K fa) (tD K fb) σ H Q:=
 vb fun x y d e=>by
  obtain⟨i,j,rfl,rfl,e⟩:=vc e
  obtain⟨c,s⟩:=hf i j d e
  exact⟨_,s,fun H w o o' q q' u u' F F' r1 r2 _ Q hq=>⟨i,j,fH r1,fH r2,c,hq⟩⟩
theorem E1{f:Int->Int->Option D}(hf:∀ i j d,f i j=some d->oz d=some (h i j)) :
  ∀ σ H Q,tD K (e2 (gI f) fa fb) σ H Q->j3 (n4 h) (tD K fa) (tD K fb) σ H Q:=
 vb fun x y d e=>by
  obtain⟨i,j,rfl,rfl,e⟩:=vc e
  exact⟨_,hf i j d e,fun H w o o' q q' u u' F F' r1 r2 _ Q hq=>⟨i,j,fH r1,fH r2,hq⟩⟩
@[simp] def cn:D->D->Option D:=gI fun i j=>some (.int (i+j))
@[simp] def kc:D->D->Option D:=gI fun i j=>if(-(2 ^ 64)<i/\i<2 ^ 64)\/(-(2 ^ 64)<j/\j<2 ^ 64)then some (.int (i*j))else none
@[simp] def yd:D->D->Option D:=gI fun i j=>if 0<j/\j<1073741824 then some (.int (i / j))else none
@[simp] def rn:D->D->Option D:=gI fun i j=>if 0<j then some (.int (i % j))else none
theorem dE(ha:QD X a fa)(hb:QD X b fb):QD X (.BinOp a .Add b pos) (e2 cn fa fb):=⟨have ha:=ha.o;have hb:=hb.o;PE.imp (pF Mb ha hb) (E1 fun i j d h=>by cases h;rfl)⟩
theorem l8(ha:QD X a fa)(hb:QD X b fb):QD X (.BinOp a .Mult b pos) (e2 kc fa fb):=⟨have ha:=ha.o;have hb:=hb.o;PE.imp (pF Mc ha hb) (Bb fun i j d h=>by
 split at h
 ·cases h;exact⟨by assumption,rfl⟩
 ·cases h)⟩
theorem Bc(ha:QD X a fa)(hb:QD X b fb):QD X (.BinOp a .FloorDiv b pos) (e2 yd fa fb):=⟨have ha:=ha.o;have hb:=hb.o;PE.imp (pF Md ha hb) (Bb fun i j d h=>by
 split at h
 ·cases h;exact⟨by assumption,rfl⟩
 ·cases h)⟩
theorem tU(ha:QD X a fa)(hb:QD X b fb):QD X (.BinOp a .Mod b pos) (e2 rn fa fb):=⟨have ha:=ha.o;have hb:=hb.o;PE.imp (pF Me ha hb) (Bb fun i j d h=>by
 split at h
 ·cases h;exact⟨by assumption,rfl⟩
 ·cases h)⟩
def cf:D->Int->Option D
 | .lst ds,i=>dC ds i
 | .tup ds,i=>dC ds i
 | _,_=>none
@[simp] def cL (fa fb:aA):aA:=fun ρ=>match fa ρ with
 | some (x,_,ρ1)=>match fb ρ1 with
  | some (.int i,_,ρ2)=>match cf x i with
   | some d=>some (d,fy d,ρ2)
   | none=>none
  | _=>none
 | none=>none
theorem Rep.oA{w:Wn}{o:Ow}{q:Nat}{ds:List D}(r:Rep K H w o q (.lst ds) v F):∃ a vs q' G,v=.ref a/\cH K H a vs/\ae K H w o q' ds vs G:=by
 cases r with
 | kl h r=>exact⟨_,_,_,_,rfl,h.sq,r⟩
 | shr h n r=>exact⟨_,_,_,_,rfl,.inl h,r⟩
 | own h n r _=>exact⟨_,_,_,_,rfl,cH.of h,r⟩
theorem Rep.gf{w:Wn}{o:Ow}{ds:List D}(r:Rep K H w o 0 (.lst ds) v F):∃ a vs,v=.ref a/\cH K H a vs/\ae K H w o 0 ds vs []:=by
 cases r with
 | kl h r=>exact⟨_,_,rfl,h.sq,r⟩
 | shr h n r=>exact⟨_,_,rfl,.inl h,r⟩
theorem Rep.eJ{w:Wn}{o:Ow}{q:Nat}{ds:List D}(r:Rep K H w o q (.tup ds) v F):∃ a vs,v=.ref a/\cR K H a vs/\ae K H w o 0 ds vs []:=by
 cases r with
 | tup h r=>exact⟨_,_,rfl,cR.of h,r⟩
theorem Rep.pR{w:Wn}{o:Ow}{q:Nat}{ds:List D}(r:Rep K H w o q (.tup ds) v F):∃ a vs,v=.ref a/\H a=some (.tup vs)/\ae K H w o 0 ds vs []:=by
 cases r with
 | tup h r=>exact⟨_,_,rfl,h,r⟩
theorem ae.dC{w:Wn}{o:Ow}{ds:List D}{i:Int}{d:D}(r:ae K H w o 0 ds vs [])(h:L2.dC ds i=some d):∃ v,L2.dC vs i=some v/\Rep K H w o 0 d v []:=by
 unfold L2.dC at h ⊢
 rw[<- r.length]
 cases e:ib ds.length i with
 | none=>rw[e]at h;cases h
 | some j=>
  rw[e]at h
  exact r.get h
theorem fQ(ha:QD X a fa)(hb:QD X b fb)(hs:tz b:=by exact fun _ _=>rfl):QD X (.Subscript a b pos) (cL fa fb):=⟨have ha:=ha.o;have hb:=hb.o;PE.imp (uU uV ha hb hs) fun σ H Q ai=>by
 obtain⟨ρ,w,t,r',q,ρ',gd,ee,k⟩:=ai
 unfold cL at ee
 split at ee
 next x q1 ρ1 h1=>
  split at ee
  next i q2 ρ2 h2=>
   split at ee
   next d hd=>
    cases ee
    refine rl gd h1 h2 fun u u' H2 w2 F1 F2 g2 go r1 r2=>?_
    have rp:=fH r2
    subst rp
    have r0:=r1.drop (o:=.t t) (Qi t)
    cases x with
    | lst ds=>
     obtain⟨p,vs,rfl,hq,rs⟩:=r0.gf
     obtain⟨v,hv,rv⟩:=rs.dC hd
     exact .inl ⟨p,vs,i,v,rfl,rfl,hq,hv,ou k gd g2 go rv.jw⟩
    | tup ds=>
     obtain⟨p,vs,rfl,hq,rs⟩:=r0.eJ
     obtain⟨v,hv,rv⟩:=rs.dC hd
     exact .inr (.inl ⟨p,vs,i,v,rfl,rfl,hq,hv,ou k gd g2 go rv.jw⟩)
    | _=>cases hd
   ·cases ee
  ·cases ee
 ·cases ee⟩
abbrev cy:=aQ->Option (List D×aQ)
def Bd (K:PySem.W.Frag)(f:cy):TA:=fun σ H Q=>∃ ρ w t ds ρ',Good K ρ σ H w t/\f ρ=some (ds,ρ')/\∀ vs H' w',Good K ρ' σ H' w' t->Go H w H' w'->ae K H' w' .f 0 ds vs []->Q vs H'
abbrev E2 (X:Cx)(es:List Expr)(f:cy):Prop:=PA X es (Bd X.K f)
structure gh (X:Cx) (e:List Expr) (f:cy):Prop where mk::o:E2 X e f
theorem PA.imp{X:Cx}{e:List Expr}{t t':TA}(h:PA X e t)(i:∀ σ H Q,t' σ H Q->t σ H Q):PA X e t':=fun pos pins s σ H Q I q=>h pos pins s σ H Q I (i σ H Q q)
@[simp] def ag:cy:=fun ρ=>some ([],ρ)
@[simp] def ab (f:aA)(g:cy):cy:=fun ρ=>match f ρ with
 | some (d,_,ρ1)=>match g ρ1 with
  | some (ds,ρ2)=>some (d::ds,ρ2)
  | none=>none
 | none=>none
theorem aq:gh X [] ag:=⟨PA.imp j5 fun σ H Q ai=>by
 obtain⟨ρ,w,t,ds,ρ',gd,ee,k⟩:=ai
 cases ee
 exact k [] H w gd Go.refl .nil⟩
theorem au{g:cy}(ha:QD X e f)(hr:gh X es g)(hs:starEach (e::es) X.env=(false,eval e X.env)::starEach es X.env:=by rfl):gh X (e::es) (ab f g):=⟨have ha:=ha.o;have hr:=hr.o;PA.imp (i8 ha hr hs) fun σ H Q ai=>by
 obtain⟨ρ,w,t,ds,ρ',gd,ee,k⟩:=ai
 unfold ab at ee
 split at ee
 next d q ρ1 h1=>
  split at ee
  next ck ρ2 h2=>
   cases ee
   refine⟨ρ,w,t,d,q,ρ1,gd,h1,fun x H1 w1 F1 g1 aJ r1=>⟨ρ1,bU t w1,t,ck,_,g1.drop,h2,fun vs H2 w2 g2 bY r2=>?_⟩⟩
   have gl:=(g1.drop (t':=t)).wl
   have r0:Rep X.K H2 w2 .f 0 d x []:=Rep.go gl bY.bJ (r1.drop (o:=.f) (Qi t)) nM
   exact k (x::vs) H2 w2 g2 ((aJ.drop gd.wt).trans bY) (.cons (F:=[]) (G:=[]) r0 r2 nM)
  ·cases ee
 ·cases ee⟩
@[simp] def c_ (g:cy):aA:=fun ρ=>match g ρ with
 | some (ds,ρ1)=>if ds.length<=1000 then some (.lst ds,1,ρ1)else none
 | none=>none
@[simp] def dS (g:cy):aA:=fun ρ=>match g ρ with
 | some (ds,ρ1)=>if ds.length<=1000 then some (.tup ds,9,ρ1)else none
 | none=>none
theorem pS(h:n<=1000):n<=sizeLine:=ZI (lh h)
theorem fI{g:cy}(h:gh X es g):QD X (.List es pos) (c_ g):=⟨have h:=h.o;PE.imp (Mu h) fun σ H Q ai=>by
 obtain⟨ρ,w,t,r',q,ρ',gd,ee,k⟩:=ai
 unfold c_ at ee
 split at ee
 next ds ρ1 h1=>
  split at ee
  next hl=>
   cases ee
   refine⟨ρ,w,t,ds,_,gd,h1,fun vs H1 w1 g1 aJ r1=>⟨by rw[<- r1.length];exact pS hl,fun p hp=>?_⟩⟩
   obtain⟨a1,a2,a3⟩:=lj g1 hp r1
   exact k _ _ _ _ a1 (aJ.trans a2) a3
  ·cases ee
 ·cases ee⟩
theorem gU{g:cy}{x1}(h:gh X es g):QD X (.Tuple es x1 pos) (dS g):=⟨have h:=h.o;PE.imp (Mt h) fun σ H Q ai=>by
 obtain⟨ρ,w,t,r',q,ρ',gd,ee,k⟩:=ai
 unfold dS at ee
 split at ee
 next ds ρ1 h1=>
  split at ee
  next hl=>
   cases ee
   refine⟨ρ,w,t,ds,_,gd,h1,fun vs H1 w1 g1 aJ r1=>⟨by rw[<- r1.length];exact pS hl,fun p hp=>?_⟩⟩
   obtain⟨a1,a2,a3⟩:=tR g1 hp r1
   exact k _ _ _ _ a1 (aJ.trans a2) a3
  ·cases ee
 ·cases ee⟩
def kL (K:PySem.W.Frag)(n:Nat)(F:List D->OD):Sp:=fun vs H Q _=>vs.length=n/\∃ ds w r q,(∀ a o,w a=some o->o=.f)/\WL K w H/\ae K H w .f 0 ds vs []/\F ds=some (r,q) /\
 ∀ v H' w' Fo,Go H w H' w'->WL K w' H'->Rep K H' w' (.t 0) q r v Fo->Q v H'
@[simp] def aL (F:List D->OD)(n:Nat)(g:cy):aA:=fun ρ=>match g ρ with
 | some (ds,ρ1)=>if ds.length=n then match F ds with
  | some (r,q)=>some (r,q,ρ1)
  | none=>none
  else none
 | none=>none
theorem back{ρ:aQ}{σ:St}{w w':Wn}{t q:Nat}{d:D}{Fo:List Addr}(g:Good K ρ σ H w t)
  (go:Go H (fun a=>(w a).map fun _=>Ow.f) H' w') (pU:WL K w' H') (r:Rep K H' w' (.t 0) q d v Fo) :
  Good K ρ σ H' (fun a=>if a∈Fo then some (.t t)else w a) (t+1)/\Go H w H' (fun a=>if a∈Fo then some (.t t)else w a)/\Rep K H' (fun a=>if a∈Fo then some (.t t)else w a) (.t t) q d v Fo:=by
 have kf:∀ a o,w a=some o->H' a=H a/\w' a=some .f:=fun a o e=>go.keep a .f (by show(w a).map _=_;rw[e];rfl) (fun _ z=>nomatch z)
 have nf:∀ a x,H a=some x->a ∉ Fo:=fun a x e m=>by
  have h1:=r.aE a m
  cases ew:w a with
  | none=>
   have:=(go.bJ a x e (by show(w a).map _=_;rw[ew];rfl)).2
   rw[h1]at this;cases this
  | some o=>rw[(kf a o ew).2]at h1;cases h1
 have nw:∀ a o,w a=some o->a ∉ Fo:=fun a o e=>by obtain⟨vs,q⟩:=g.wl a o e;exact nf a _ q
 have st:dh H w H' (fun a=>if a∈Fo then some (.t t)else w a):=fun a x e n=>⟨(go.bJ a x e (by show(w a).map _=_;rw[n];rfl)).1,by show(if a∈Fo then _ else _)=_;rw[Qk (nf a x e)];exact n⟩
 have wv:∀ a o,(if a∈Fo then some (Ow.t t)else w a)=some o->(a∈Fo/\o=.t t)\/w a=some o:=fun a o e=>by
  split at e
  ·cases e;exact .inl ⟨by assumption,rfl⟩
  ·exact .inr e
 refine⟨⟨⟨fun a o e=>?_,pU.tb⟩,fun a i e=>?_,fun a i e=>?_,g.len,fun i d q e=>?_⟩,⟨st,fun a o e _=>⟨(kf a o e).1,by show(if a∈Fo then _ else _)=_;rw[Qk (nw a o e)];exact e⟩⟩,?_⟩
 ·rcases wv a o e with⟨m,_⟩|z
  ·exact pU a _ (r.aE a m)
  ·obtain⟨vs,h⟩:=g.wl a o z
   exact⟨vs,(kf a o z).1.trans h⟩
 ·rcases wv a _ e with⟨_,z⟩|z
  ·cases z
  ·exact g.ws a i z
 ·rcases wv a _ e with⟨_,z⟩|z
  ·cases z;exact Zv _
  ·exact Zk (g.wt a i z)
 ·obtain⟨v,F,h1,h2⟩:=g.slot i d q e
  refine⟨v,F,h1,Rep.go g.wl st h2 fun a m=>⟨(kf a _ (h2.aE a m)).1,?_⟩⟩
  show(if a∈Fo then _ else _)=_
  rw[Qk (nw a _ (h2.aE a m))]
  exact h2.aE a m
 ·refine Rep.go pU (fun a x e n=>⟨sm e,?_⟩) r fun a m=>⟨rfl,Qj m⟩
  show(if a∈Fo then _ else _)=_
  rw[Qk (fun m=>by have:=r.aE a m;rw[n]at this;cases this)]
  cases ew:w a with
  | none=>rfl
  | some o=>have:=(kf a o ew).2;rw[n]at this;cases this
theorem OE{CX:nj}{k:Nat}{fn:Addr}{x:Str}{p:Pos}{F:List D->OD}{g:cy}(Fk:eG X.prog X.w X.K X.mg X.base CX k fn fd ps (kL X.K n F))(hr:a_ k X.A)(hm:X.mg x=some (.ref fn))(hk:PySem.W.keepIn X.K (.ref fn)=true)(hb:pH X.K fd ps [])
  (hx:xD CX X E) (ha:E2 X (e::es) g) (hg:Gl X x:=by rfl) (lO:(x==("__debug__":Str))=false:=by decide) (he:starEach (e::es) X.env=(false,eval e X.env)::starEach es X.env:=by rfl) (bS:(backTo pos (starEach es X.env)).any (·.1)=false:=by rfl) :
  PD X (.Call (.Name x p) (e::es) [] pos) (aL F n g):=PE.imp (Ee Fk hr hg hm hk hb .nil hx ha lO he bS) fun σ H Q ai=>by
 obtain⟨ρ,w,t,r',q,ρ',gd,ee,k⟩:=ai
 unfold aL at ee
 split at ee
 next ds ρ1 h1=>
  split at ee
  next hn=>
   split at ee
   next r0 q0 h2=>
    cases ee
    refine⟨ρ,w,t,ds,_,gd,h1,fun vs H1 w1 g1 aJ r1=>?_⟩
    show kL X.K n F (vs++[]) H1 Q E
    rw[ZX]
    refine⟨by rw[<- r1.length];exact hn,ds,fun a=>(w1 a).map fun _=>Ow.f,r',q,fun a o e=>?_,⟨fun a o e=>?_,g1.wl.tb⟩,?_,h2,fun v H2 w2 Fo bY OF rr=>?_⟩
    ·dsimp only at e
     cases ew:w1 a with
     | none=>rw[ew]at e;cases e
     | some o'=>rw[ew]at e;cases e;rfl
    ·try dsimp only at e
     cases ew:w1 a with
     | none=>rw[ew]at e;cases e
     | some o'=>exact g1.wl a o' ew
    ·exact ae.freeze (fun a n=>by show(w1 a).map _=_;rw[n];rfl) r1 nM
    ·obtain⟨b1,b2,b3⟩:=back g1 bY OF rr
     exact k _ _ _ _ b1 (aJ.trans b2) b3
   ·cases ee
  ·cases ee
 ·cases ee
end
abbrev cO:=aQ->Option (Bool×aQ)
def rq (K:PySem.W.Frag)(f:cO):TT:=fun σ H Q=>∃ ρ w t b ρ',Good K ρ σ H w t/\f ρ=some (b,ρ')/\∀ H' w',Good K ρ' σ H' w' t->Go H w H' w'->Q b H'
theorem PT.imp{t t':TT}(h:PT X e t)(i:∀ σ H Q,t' σ H Q->t σ H Q):PT X e t':=fun pins s σ H Q I q=>h pins s σ H Q I (i σ H Q q)
theorem PW.imp{t t':TT}(h:PW X e t)(i:∀ σ H Q,t' σ H Q->t σ H Q):PW X e t':=fun whole pins s σ H Q I q=>h whole pins s σ H Q I (i σ H Q q)
abbrev E3 (X:Cx)(e:Expr)(f:cO):Prop:=PT X e (rq X.K f)
structure iS (X:Cx) (e:Expr) (f:cO):Prop where mk::o:E3 X e f
abbrev OG (X:Cx)(e:Expr)(f:cO):Prop:=PW X e (rq X.K f)
structure rA (X:Cx) (e:Expr) (f:cO):Prop where mk::o:OG X e f
@[simp] def E4:D->Option Bool
 | .bo=>some false
 | .bl b=>some b
 | .int i=>some (i != 0)
 | .tup ds=>some (!ds.isEmpty)
 | .lst ds=>some (!ds.isEmpty)
 | .str _=>none
 | .gH _ _=>none
 | .exc _=>none
 | .ob _ _ _ _=>none
 | .mp _ _=>none
@[simp] def iT (f:aA):cO:=fun ρ=>match f ρ with
 | some (d,_,ρ1)=>match E4 d with
  | some b=>some (b,ρ1)
  | none=>none
 | none=>none
section
variable {X:Cx}{a b c e:Expr}{fa fb fc f:aA}{ga gb gc:cO}{pos:Pos}
theorem ye{α β:Type}{l:List α}{l':List β}(h:l.length=l'.length):(!l.isEmpty) = !l'.isEmpty:=by
 cases l<;>cases l'<;>first|rfl|cases h
theorem oB(ha:QD X a fa)(he:∀ whole,isTrue a X.env whole=(do let v <- whole;standAt a.pos;holding [v] (truthy v)):=by exact fun _=>rfl):iS X a (iT fa):=⟨have ha:=ha.o;PT.imp (Mm ha he) fun σ H Q ai=>by
 obtain⟨ρ,w,t,b,ρ',gd,ee,k⟩:=ai
 unfold iT at ee
 split at ee
 next d q ρ1 h1=>
  split at ee
  next b' hb=>
   cases ee
   refine⟨ρ,w,t,d,q,_,gd,h1,fun v H1 w1 F g1 aJ r1=>⟨b,?_,k H1 (bU t w1) g1.drop (aJ.drop gd.wt)⟩⟩
   cases r1 with
   | bo=>cases hb;rfl
   | bl x=>cases hb;rfl
   | int i=>cases hb;rfl
   | str x=>cases hb
   | tup h r=>cases hb;exact .inr (.inl ⟨_,cR.of h,ye r.length⟩)
   | gH h e r=>cases hb
   | exc h x n=>cases hb
   | ob h1 h2 x r=>cases hb
   | kl h r=>cases hb;exact .inl ⟨_,h.sq,ye r.length⟩
   | shr h _ r=>cases hb;exact .inl ⟨_,.inl h,ye r.length⟩
   | own h _ r _=>cases hb;exact .inl ⟨_,cH.of h,ye r.length⟩
   | nu h _ _ _ _=>cases hb
   | kK h _ _ _ _=>cases hb
  ·cases ee
 ·cases ee⟩
@[simp] def bB (f:aA):cO:=fun ρ=>match f ρ with
 | some (.bl b,_,ρ1)=>some (b,ρ1)
 | _=>none
theorem E5(h:∀ σ H Q,tD K f σ H Q->te σ H Q):∀ σ H Q,rq K (bB f) σ H Q->D8 te σ H Q:=fun σ H Q ai=>by
 obtain⟨ρ,w,t,b,ρ',gd,ee,k⟩:=ai
 unfold bB at ee
 split at ee
 next b' q ρ1 h1=>
  cases ee
  refine h σ H _ ⟨ρ,w,t,.bl b,q,_,gd,h1,fun v H1 w1 F g1 aJ r1=>?_⟩
  cases r1
  exact⟨b,rfl,k H1 (bU t w1) g1.drop (aJ.drop gd.wt)⟩
 ·cases ee
theorem yf{g:D->D->Option D}(ho:df X (compareOp op) r)(hr:∀ σ H Q,tD X.K (e2 g fa fb) σ H Q->j3 r (tD X.K fa) (tD X.K fb) σ H Q)(ha:PD X a fa)(hb:PD X b fb)(hm:behindInMarks op b=false) :
  E3 X (.Compare a [op] [b] pos) (bB (e2 g fa fb)):=PT.imp (D9 ho ha hb hm) (E5 hr)
theorem OH{g:D->D->Option D}(ho:df X (compareOp op) r)(hr:∀ σ H Q,tD X.K (e2 g fa fb) σ H Q->j3 r (tD X.K fa) (tD X.K fb) σ H Q)(ha:PD X a fa)(hb:PD X b fb)(hm:behindInMarks op b=false) :
  PD X (.Compare a [op] [b] pos) (e2 g fa fb):=PE.imp (Mg ho ha hb hm) hr
@[simp] def l9:D->D->Option D:=gI fun i j=>some (.bl (decide (i<j)))
@[simp] def E6:D->D->Option D:=gI fun i j=>some (.bl (decide (i<=j)))
theorem OI:∀ σ H Q,tD K (e2 l9 fa fb) σ H Q->j3 (n4 fun i j=>.bl (decide (i<j))) (tD K fa) (tD K fb) σ H Q:=E1 fun i j d h=>by cases h;rfl
theorem vd(ha:QD X a fa)(hb:QD X b fb):iS X (.Compare a [.Lt] [b] pos) (bB (e2 l9 fa fb)):=⟨have ha:=ha.o;have hb:=hb.o;yf D7 OI ha hb (xB _)⟩
@[simp] def ls (g:cO):cO:=fun ρ=>match g ρ with
 | some (b,ρ1)=>some (!b,ρ1)
 | none=>none
theorem vf(ha:iS X a ga):iS X (.UnaryOp .Not a pos) (ls ga):=⟨have ha:=ha.o;PT.imp (Ln ha) fun σ H Q ai=>by
 obtain⟨ρ,w,t,b,ρ',gd,ee,k⟩:=ai
 unfold ls at ee
 split at ee
 next b' ρ1 h1=>
  cases ee
  exact⟨ρ,w,t,b',_,gd,h1,fun H1 w1 g1 aJ=>k H1 w1 g1 aJ⟩
 ·cases ee⟩
@[simp] def nv (g h:cO):cO:=fun ρ=>match g ρ with
 | some (b,ρ1)=>if b=true then h ρ1 else some (false,ρ1)
 | none=>none
@[simp] def ny (g h:cO):cO:=fun ρ=>match g ρ with
 | some (b,ρ1)=>if b=true then some (true,ρ1)else h ρ1
 | none=>none
variable {br:List Expr}
theorem Be(ha:iS X a ga):rA X (.BoolOp .And [a] pos) ga:=⟨have ha:=ha.o;Lj ha⟩
theorem yg(ha:iS X a ga):rA X (.BoolOp .Or [a] pos) ga:=⟨have ha:=ha.o;Lk ha⟩
theorem Bf(ha:iS X a ga)(hb:rA X (.BoolOp .And (b::br) pos) gb):rA X (.BoolOp .And (a::b::br) pos) (nv ga gb):=⟨have ha:=ha.o;have hb:=hb.o;PW.imp (Ll ha hb) fun σ H Q ai=>by
 obtain⟨ρ,w,t,b,ρ',gd,ee,k⟩:=ai
 unfold nv at ee
 split at ee
 next b' ρ1 h1=>
  refine⟨ρ,w,t,b',ρ1,gd,h1,fun H1 w1 g1 aJ=>?_⟩
  split at ee
  ·rename_i hb;rw[Qj hb]
   exact⟨ρ1,w1,t,b,ρ',g1,ee,fun H2 w2 g2 bY=>k H2 w2 g2 (aJ.trans bY)⟩
  ·rename_i hb;rw[Qk hb]
   cases ee
   exact k H1 w1 g1 aJ
 ·cases ee⟩
theorem vg(ha:iS X a ga)(hb:rA X (.BoolOp .Or (b::br) pos) gb):rA X (.BoolOp .Or (a::b::br) pos) (ny ga gb):=⟨have ha:=ha.o;have hb:=hb.o;PW.imp (Lm ha hb) fun σ H Q ai=>by
 obtain⟨ρ,w,t,b,ρ',gd,ee,k⟩:=ai
 unfold ny at ee
 split at ee
 next b' ρ1 h1=>
  refine⟨ρ,w,t,b',ρ1,gd,h1,fun H1 w1 g1 aJ=>?_⟩
  split at ee
  ·rename_i hb;rw[Qj hb]
   cases ee
   exact k H1 w1 g1 aJ
  ·rename_i hb;rw[Qk hb]
   exact⟨ρ1,w1,t,b,ρ',g1,ee,fun H2 w2 g2 bY=>k H2 w2 g2 (aJ.trans bY)⟩
 ·cases ee⟩
@[simp] def Bg (g:cO)(fa fb:aA):aA:=fun ρ=>match g ρ with
 | some (b,ρ1)=>if b=true then fa ρ1 else fb ρ1
 | none=>none
theorem OJ(hc:iS X c gc)(ha:QD X a fa)(hb:QD X b fb):QD X (.IfExp c a b pos) (Bg gc fa fb):=⟨have hc:=hc.o;have ha:=ha.o;have hb:=hb.o;PE.imp (Lv hc ha hb) fun σ H Q ai=>by
 obtain⟨ρ,w,t,r',q,ρ',gd,ee,k⟩:=ai
 unfold Bg at ee
 split at ee
 next b' ρ1 h1=>
  refine⟨ρ,w,t,b',ρ1,gd,h1,fun H1 w1 g1 aJ=>?_⟩
  split at ee
  ·rename_i hb;rw[Qj hb]
   exact⟨ρ1,w1,t,r',q,ρ',g1,ee,fun v H2 w2 F g2 bY=>k v H2 w2 F g2 (aJ.trans bY)⟩
  ·rename_i hb;rw[Qk hb]
   exact⟨ρ1,w1,t,r',q,ρ',g1,ee,fun v H2 w2 F g2 bY=>k v H2 w2 F g2 (aJ.trans bY)⟩
 ·cases ee⟩
end
inductive Out where
 | nx (ρ:aQ)|rt (d:D) (q:Nat)|bk (ρ:aQ)|ct (ρ:aQ)
abbrev aH:=aQ->Option Out
def nz (K:PySem.W.Frag)(Dn:Ends)(n:Nat)(H:Hp)(w:Wn):Out->Prop
 | .nx ρ'=>∀ aK H' w',aK.length=n->Good K ρ' aK H' w' 0->Go H w H' w'->Dn.nx aK H'
 | .bk ρ'=>∀ aK H' w',aK.length=n->Good K ρ' aK H' w' 0->Go H w H' w'->Dn.bk aK H'
 | .ct ρ'=>∀ aK H' w',aK.length=n->Good K ρ' aK H' w' 0->Go H w H' w'->Dn.ct aK H'
 | .rt d q=>∀ v H' w' F,WL K w' H'->Go H w H' w'->Rep K H' w' (.t 0) q d v F->Dn.rt v H'
def yh (K:PySem.W.Frag)(f:aH):TS:=fun Dn σ H=>∃ ρ w o,Good K ρ σ H w 0/\f ρ=some o/\nz K Dn σ.length H w o
theorem PS.imp{e:Stmt}{t t':TS}(h:PS X e t)(i:∀ D σ H,t' D σ H->t D σ H):PS X e t':=fun pins s σ H D I q=>h pins s σ H D I (i D σ H q)
theorem iz.imp{e:List Stmt}{t t':TS}(h:iz X e t)(i:∀ D σ H,t' D σ H->t D σ H):iz X e t':=fun pins s σ H D I q=>h pins s σ H D I (i D σ H q)
abbrev OL (X:Cx)(st:Stmt)(f:aH):Prop:=PS X st (yh X.K f)
structure jN (X:Cx) (e:Stmt) (f:aH):Prop where mk::o:OL X e f
abbrev yi (X:Cx)(st:List Stmt)(f:aH):Prop:=iz X st (yh X.K f)
structure gV (X:Cx) (e:List Stmt) (f:aH):Prop where mk::o:yi X e f
@[simp] def fJ:aH:=fun ρ=>some (.nx ρ)
@[simp] def aG (f g:aH):aH:=fun ρ=>match f ρ with
 | some (.nx ρ1)=>g ρ1
 | o=>o
theorem nz.trans{Dn:Ends}{w w1:Wn}(go:Go H w H1 w1):∀ {o:Out},nz K Dn n H w o->nz K Dn n H1 w1 o
 | .nx _,h=>fun aK H' w' e g f_=>h aK H' w' e g (go.trans f_)
 | .bk _,h=>fun aK H' w' e g f_=>h aK H' w' e g (go.trans f_)
 | .ct _,h=>fun aK H' w' e g f_=>h aK H' w' e g (go.trans f_)
 | .rt _ _,h=>fun v H' w' F wl f_=>h v H' w' F wl (go.trans f_)
section
variable {X:Cx}{a b c e:Expr}{fa fb fc f:aA}{ga gb gc:cO}{pos:Pos}{st:Stmt}{br sa sb:List Stmt}{s s':aH}
theorem gW:gV X [] fJ:=⟨iz.imp Lz fun D σ H ai=>by
 obtain⟨ρ,w,o,g,ee,k⟩:=ai
 cases ee
 exact k σ H w rfl g Go.refl⟩
theorem aM(h1:jN X st s)(h2:gV X br s'):gV X (st::br) (aG s s'):=⟨have h1:=h1.o;have h2:=h2.o;iz.imp (LA h1 h2) fun D σ H ai=>by
 obtain⟨ρ,w,o,g,ee,k⟩:=ai
 unfold aG at ee
 split at ee
 next ρ1 h1=>
  exact⟨ρ,w,.nx ρ1,g,h1,fun aK H' w' e g' f_=>⟨ρ1,w',o,g',ee,by rw[e];exact k.trans f_⟩⟩
 next cC=>
  refine⟨ρ,w,o,g,ee,?_⟩
  cases o with
  | nx ρ1=>exact absurd ee (cC ρ1)
  | bk ρ1=>exact k
  | ct ρ1=>exact k
  | rt d q=>exact k⟩
theorem aR(h1:jN X st s):gV X [st] s:=⟨have h1:=h1.o;LB h1⟩
@[simp] def bF (f:aA):aH:=fun ρ=>match f ρ with
 | some (d,q,_)=>some (.rt d q)
 | none=>none
theorem bQ(h:QD X e f):jN X (.Return (some e) pos) (bF f):=⟨have h:=h.o;PS.imp (D0 h) fun D σ H ai=>by
 obtain⟨ρ,w,o,g,ee,k⟩:=ai
 unfold bF at ee
 split at ee
 next d q ρ1 h1=>
  cases ee
  exact⟨ρ,w,0,d,q,ρ1,g,h1,fun v H' w' F g' f_ r=>k v H' w' F g'.wl f_ r⟩
 ·cases ee⟩
@[simp] def dZ (g:cO)(s s':aH):aH:=fun ρ=>match g ρ with
 | some (b,ρ1)=>if b=true then s ρ1 else s' ρ1
 | none=>none
theorem gX(hc:iS X c gc)(ha:gV X sa s)(hb:gV X sb s'):jN X (.If c sa sb pos) (dZ gc s s'):=⟨have hc:=hc.o;have ha:=ha.o;have hb:=hb.o;PS.imp (LH hc ha hb) fun D σ H ai=>by
 obtain⟨ρ,w,o,g,ee,k⟩:=ai
 unfold dZ at ee
 split at ee
 next b' ρ1 h1=>
  refine⟨ρ,w,0,b',ρ1,g,h1,fun H1 w1 g1 aJ=>?_⟩
  split at ee
  ·rename_i hb;rw[Qj hb]
   exact⟨ρ1,w1,o,g1,ee,k.trans aJ⟩
  ·rename_i hb;rw[Qk hb]
   exact⟨ρ1,w1,o,g1,ee,k.trans aJ⟩
 ·cases ee⟩
def kM (t i:Nat)(w:Wn):Wn:=fun a=>if w a=some (.t t)then some (.s i)else if w a=some (.s i)then none else w a
theorem Good.set{ρ:aQ}{σ:St}{w:Wn}{q:Nat}{d:D}(g:Good K ρ σ H w 1)(hi:i<σ.length)(r:Rep K H w (.t 0) q d v F) :
  Good K (ρ.set i (some (d,q))) (σ.set i (some v)) H (kM 0 i w) 0/\∀ iu oC,Go iu oC H w->(∀ a j,oC a=some (.t j)->j<0)->Go iu oC H (kM 0 i w):=by
 have mN:∀ a,w a=none->kM 0 i w a=none:=fun a e=>by unfold kM;rw[e];rfl
 have mT:∀ a,w a=some (.t 0)->kM 0 i w a=some (.s i):=fun a e=>by unfold kM;rw[Qj e]
 have mS:∀ a j,w a=some (.s j)->j≠i->kM 0 i w a=some (.s j):=fun a j e n=>by
  unfold kM
  rw[Qk (by rw[e];exact fun z=>nomatch z),Qk (by rw[e];intro z;cases z;exact n rfl)]
  exact e
 have mF:∀ a,w a=some .f->kM 0 i w a=some .f:=fun a e=>by
  unfold kM
  rw[Qk (by rw[e];exact fun z=>nomatch z),Qk (by rw[e];exact fun z=>nomatch z)]
  exact e
 have mI:∀ a o,kM 0 i w a=some o->(w a=some (.t 0)/\o=.s i)\/(w a=some o/\o ≠ .s i/\o ≠ .t 0):=fun a o e=>by
  unfold kM at e
  split at e
  ·cases e;exact .inl ⟨by assumption,rfl⟩
  next n1=>
   split at e
   ·cases e
   ·rename_i n2;exact .inr ⟨e,fun z=>n2 (by rw[e,z]),fun z=>n1 (by rw[e,z])⟩
 have st:dh H w H (kM 0 i w):=fun a x h n=>⟨sm h,mN a n⟩
 refine⟨⟨⟨fun a o e=>?_,g.wl.tb⟩,fun a j e=>?_,fun a j e=>?_,by rw[Zh,Zh];exact g.len,fun j d' q' e'=>?_⟩,fun iu oC go hw=>⟨fun a x h n=>⟨(go.bJ a x h n).1,mN a (go.bJ a x h n).2⟩,fun a o e n=>?_⟩⟩
 ·rcases mI a o e with⟨z,_⟩|⟨z,_⟩
  ·exact g.wl a _ z
  ·exact g.wl a _ z
 ·rw[Zh]
  rcases mI a _ e with⟨_,z⟩|⟨z,_⟩
  ·cases z;exact hi
  ·exact g.ws a j z
 ·rcases mI a _ e with⟨_,z⟩|⟨z,_,n⟩
  ·cases z
  ·have:=g.wt a j z
   have:j=0:=by omega
   subst this
   exact absurd rfl n
 ·by_cases hj:i=j
  ·subst hj
   rw[QT (by rw[g.len];exact hi)]at e'
   cases e'
   exact⟨v,F,QT hi,Rep.go g.wl st r fun a m=>⟨rfl,mT a (r.aE a m)⟩⟩
  ·rw[QX hj]at e'
   obtain⟨v',F',h1,h2⟩:=g.slot j d' q' e'
   exact⟨v',F',by rw[QX hj];exact h1,Rep.go g.wl st h2 fun a m=>⟨rfl,mS a j (h2.aE a m) (fun z=>hj z.symm)⟩⟩
 ·obtain⟨h1,h2⟩:=go.keep a o e n
  refine⟨h1,?_⟩
  cases o with
  | s j=>exact absurd rfl (n j)
  | f=>exact mF a h2
  | t j=>exact absurd (hw a j e) (Q8 _)
@[simp] def bg (i:Nat)(f:aA):aH:=fun ρ=>match f ρ with
 | some (d,q,ρ1)=>some (.nx (ρ1.set i (some (d,q))))
 | none=>none
theorem E7{D:Ends}{σ:St}(hi:i<σ.length)(he:∀ Q,tD K f σ H Q->te σ H Q)(h:yh K (bg i f) D σ H):te σ H fun x H1=>D.nx (σ.set i (some x)) H1:=by
 obtain⟨ρ,w,o,g,ee,k⟩:=h
 unfold bg at ee
 split at ee
 next d q ρ1 h1=>
  cases ee
  refine he _ ⟨ρ,w,0,d,q,ρ1,g,h1,fun v H' w' F g' f_ r=>?_⟩
  obtain⟨a1,a2⟩:=g'.set hi r
  exact k _ _ _ (by rw[Zh]) a1 (a2 _ _ f_ g.wt)
 ·cases ee
theorem bG{x:Str}{pos':Pos}(hN:X.N.Nodup)(hi:X.N[i]? = some x)(hx:Loc X.env.scope x)(he:QD X e f)(hs:swapsWith e (some (.Name x pos')) pos.line X.env=pure false:=by rfl)(hf:X.fn x=true\/X.env.scope.names.lookup x=some .local:=by first|exact .inl rfl|exact .inr rfl):jN X (.Assign [.Name x pos'] e pos) (bg i f):=⟨have he:=he.o;by
 intro pins s σ H D I h
 have hl:i<σ.length:=by rw[I.len];exact(Qy.mp hi).1
 exact LU (te:=tD X.K f) hN hi hx he hs hf pins s σ H D I (E7 hl (fun _ z=>z) h)⟩
@[simp] def fK (f:aA):aH:=fun ρ=>match f ρ with
 | some (_,_,ρ1)=>some (.nx ρ1)
 | none=>none
theorem jO(he:QD X e f)(hs:swapsWith e none pos.line X.env=pure false:=by rfl):jN X (.Expr e pos) (fK f):=⟨have he:=he.o;PS.imp (LD he hs) fun D σ H ai=>by
 obtain⟨ρ,w,o,g,ee,k⟩:=ai
 unfold fK at ee
 split at ee
 next d q ρ1 h1=>
  cases ee
  exact⟨ρ,w,0,d,q,ρ1,g,h1,fun v H' w' F g' f_ r=>k σ H' (bU 0 w') rfl g'.drop (f_.drop g.wt)⟩
 ·cases ee⟩
end
structure Mo (K:PySem.W.Frag) (H H':Hp):Prop where
 mo:∀ a o,H a=some o->H' a=some o
 tb:TB K H->TB K H'
theorem Mo.rB:Mo K H H:=⟨fun _ _ e=>e,fun t=>t⟩
structure l_ (K:PySem.W.Frag) (J:It) (ds:List D) (P:Hp->Wn->Prop):Prop where
 go:∀ i H w,P H w->i<ds.length->J.go i H
 qQ:∀ i H w x H' d,P H w->WL K w H->ds[i]? = some d->J.qQ i H x H'->Mo K H H'/\Rep K H' w .f 0 d x []/\P H' w
 stop:∀ H w,P H w->J.stop ds.length H
 st:∀ H w H' w',P H w->WL K w H->dh H w H' w'->P H' w'
abbrev jP:=aQ->Option (List D×aQ)
def yj (K:PySem.W.Frag)(f:jP):TI:=fun σ H R=>∃ ρ w t ds ρ',Good K ρ σ H w t/\f ρ=some (ds,ρ') /\
 ∀ J P H' w',Good K ρ' σ H' w' t->Go H w H' w'->l_ K J ds P->P H' w'->ds.length<sizeLine->R J H'
theorem PI.imp{t t':TI}(h:PI X tg e t)(i:∀ σ H R,t' σ H R->t σ H R):PI X tg e t':=fun pins s σ H R I q=>h pins s σ H R I (i σ H R q)
abbrev OM (X:Cx)(tg e:Expr)(f:jP):Prop:=PI X tg e (yj X.K f)
structure tV (X:Cx) (tg e:Expr) (f:jP):Prop where mk::o:OM X tg e f
theorem It.list{ds:List D}(hl:ds.length=vs.length):l_ K (z_ K a) ds fun H w=>(KL K a vs\/(Rd H a (.lst vs)/\w a=none))/\ae K H w .f 0 ds vs []:=by
 have sq:∀ {H:Hp} {w:Wn},KL K a vs\/(Rd H a (.lst vs)/\w a=none)->cH K H a vs:=fun h=>h.elim (fun z=>z.sq) fun z=>.inl z.1
 refine⟨fun i H w p hi=>⟨vs,vs[i],sq p.1,by simp[hl ▸ hi]⟩,fun i H w x H' d p wl hd y=>?_,fun H w p=>⟨vs,sq p.1,by omega⟩,fun H w H' w' p wl st=>?_⟩
 ·obtain⟨rfl,hx⟩:=y
  obtain⟨v,hv,rv⟩:=p.2.get hd
  have:=hx vs (sq p.1)
  rw[hv]at this
  cases this
  exact⟨Mo.rB,rv,p⟩
 ·refine⟨?_,ae.go wl st p.2 nM⟩
  rcases p.1 with p|⟨p,n⟩
  ·exact .inl p
  ·exact .inr (xU.go st n p)
theorem It.tup{K:PySem.W.Frag}{a:Addr}{vs:List V}{ds:List D}(hl:ds.length=vs.length):l_ K (Aa K a) ds fun H w=>cR K H a vs/\ae K H w .f 0 ds vs []:=
 ⟨fun i H w p hi=>⟨vs,vs[i],p.1,by simp[hl ▸ hi]⟩,fun i H w x H' d p wl hd y=>by
   obtain⟨rfl,hx⟩:=y
   obtain⟨v,hv,rv⟩:=p.2.get hd
   have:=hx vs p.1
   rw[hv]at this
   cases this
   exact⟨Mo.rB,rv,p⟩,fun H w p=>⟨vs,p.1,by omega⟩,fun H w H' w' p wl st=>⟨cR.go wl st p.1,ae.go wl st p.2 nM⟩⟩
def pV (n:Nat):List V:=(List.range n).map fun i=>.int (Int.ofNat i)
def cj (n:Nat):List D:=(List.range n).map fun i=>.int (Int.ofNat i)
theorem d7(n:Nat):(cj n).length=n:=by simp[cj]
theorem E8(n:Nat):(pV n).length=n:=by simp[pV]
theorem It.range:l_ K (xy 0 n) (cj n) fun _ _=>True:=by
 refine⟨fun i H w _ hi=>by rw[d7]at hi;exact hi,fun i H w x H' d _ _ hd y=>?_,fun H w _=>by rw[d7];exact Qi _,fun _ _ _ _ _ _ _=>trivial⟩
 have hi:i<n:=by have:=(Qy.mp hd).1;rw[d7]at this;exact this
 have e:x=.int (0+(i:Int)):=y.2
 have ed:d=.int (Int.ofNat i):=by
  have:(cj n)[i]? = some (.int (Int.ofNat i)):=by simp[cj,hi]
  rw[hd]at this
  exact QH this
 obtain⟨rfl,_⟩:=y
 subst ed
 rw[e,Int.zero_add]
 exact⟨Mo.rB,.int _,trivial⟩
theorem yk{w:Wn}{o:Ow}:∀ (ns:List Int),ae K H w o 0 (ns.map D.int) (ns.map V.int) []
 | []=>.nil
 | n::r=>.cons (F:=[]) (G:=[]) (.int n) (yk r) nM
theorem ON{w:Wn}{o:Ow}(n:Nat):ae K H w o 0 (cj n) (pV n) []:=by
 have:=yk (K:=K) (H:=H) (w:=w) (o:=o) ((List.range n).map Int.ofNat)
 rw[Zb,Zb]at this
 exact this
section
variable {X:Cx}{tg a b c e:Expr}{fa fb fc f:aA}{ga gb gc:cO}{pos p:Pos}
@[simp] def cI (g:cy):jP:=fun ρ=>match g ρ with
 | some ([.int n],ρ1)=>if -1000<=n/\n<=1000 then some (cj n.toNat,ρ1)else none
 | _=>none
theorem fA{g:cy}(hm:X.mg "range" = none)(ha:gh X [a] g)(hg:Gl X "range":=by rfl)(hs:starEach [a] X.env=[(false,eval a X.env)]:=by rfl):tV X tg (.Call (.Name "range" p) [a] [] pos) (cI g):=⟨have ha:=ha.o;PI.imp (L6 hg hm ha hs) fun σ H R ai=>by
 obtain⟨ρ,w,t,ds,ρ',gd,ee,k⟩:=ai
 unfold cI at ee
 split at ee
 next n ρ1 h1=>
  split at ee
  next hn=>
   cases ee
   refine⟨ρ,w,t,[.int n],_,gd,h1,fun vs H1 w1 g1 aJ r1=>?_⟩
   have hv:vs=[.int n]:=by
    have l:=r1.length
    match vs,l with
    | [v],_=>
     obtain⟨v',h1,h2⟩:=r1.get (i:=0) rfl
     cases h1
     rw[fH h2]
   subst hv
   refine⟨n,rfl,by omega,by omega,k _ _ H1 w1 g1 aJ It.range trivial ?_⟩
   rw[d7]
   exact lh (by omega)
  ·cases ee
 ·cases ee⟩
def OO (K:PySem.W.Frag)(tl:TE):TI:=fun σ H R=>tl σ H fun x H1=>∃ a,x=.ref a/\(((∃ xs,cH K H1 a xs)/\R (z_ K a) H1)\/((∃ xs,cR K H1 a xs)/\R (Aa K a) H1))
theorem OP{l:Expr}{tl:TE}(hl:PE X l tl):PI X tg l (OO X.K tl):=by
 intro pins s σ H R I h
 refine aW (hl pins s σ H _ I h) fun v s1 ⟨x,H1,I1,r1,q1⟩=>?_
 obtain⟨a,e,q⟩:=q1
 subst e
 cases r1
 rcases q with⟨⟨xs,hq⟩,q⟩|⟨⟨xs,hq⟩,q⟩
 ·obtain⟨aj,rv,p,hz⟩:=I1.list hq
  refine Vj p.isList ?_
  refine⟨s1.heap.objs.size,[s1.heap.objs.size],_,_,H1,rfl,I1.kept (t':=s1.toks) fun b o e=>Qd _ e,LX a _,⟨_,Qs _ rfl,rfl,rfl⟩,fun b hb=>?_,q⟩
  have e:b=s1.heap.objs.size:=by simpa using hb
  subst e
  exact I1.nZ (Qi _) (I1.aB.fresh (Qi _))
 ·obtain⟨aj,rv,p,hz⟩:=I1.tuple hq
  refine Jz (show s1.heap.IsTuple a aj.toArray from p) ?_
  refine⟨s1.heap.objs.size,[s1.heap.objs.size],_,_,H1,rfl,I1.kept (t':=s1.toks) fun b o e=>Qd _ e,LY a _,⟨_,Qs _ rfl,rfl,rfl⟩,fun b hb=>?_,q⟩
  have e:b=s1.heap.objs.size:=by simpa using hb
  subst e
  exact I1.nZ (Qi _) (I1.aB.fresh (Qi _))
@[simp] def cW (f:aA):jP:=fun ρ=>match f ρ with
 | some (.lst ds,_,ρ1)=>if ds.length<=1000 then some (ds,ρ1)else none
 | some (.tup ds,_,ρ1)=>if ds.length<=1000 then some (ds,ρ1)else none
 | _=>none
theorem iF(ha:QD X a fa):tV X tg a (cW fa):=⟨have ha:=ha.o;PI.imp (OP ha) fun σ H R ai=>by
 obtain⟨ρ,w,t,ds,ρ',gd,ee,k⟩:=ai
 unfold cW at ee
 split at ee
 next ck q ρ1 h1=>
  split at ee
  next hl=>
   cases ee
   refine⟨ρ,w,t,.lst ds,q,ρ',gd,h1,fun v H1 w1 F g1 aJ r1=>?_⟩
   have r0:=r1.drop (o:=.f) (Qi t)
   cases r0 with
   | kl h r=>exact⟨_,rfl,.inl ⟨⟨_,h.sq⟩,k _ _ H1 (bU t w1) g1.drop (aJ.drop gd.wt) (It.list r.length) ⟨.inl h,r⟩ (lh hl)⟩⟩
   | shr h n r=>exact⟨_,rfl,.inl ⟨⟨_,.inl h⟩,k _ _ H1 (bU t w1) g1.drop (aJ.drop gd.wt) (It.list r.length) ⟨.inr ⟨h,n⟩,r⟩ (lh hl)⟩⟩
  ·cases ee
 next ck q ρ1 h1=>
  split at ee
  next hl=>
   cases ee
   refine⟨ρ,w,t,.tup ds,q,ρ',gd,h1,fun v H1 w1 F g1 aJ r1=>?_⟩
   have r0:=r1.drop (o:=.f) (Qi t)
   cases r0 with
   | tup h r=>exact⟨_,rfl,.inr ⟨⟨_,cR.of h⟩,k _ _ H1 (bU t w1) g1.drop (aJ.drop gd.wt) (It.tup r.length) ⟨cR.of h,r⟩ (lh hl)⟩⟩
  ·cases ee
 ·cases ee⟩
end
abbrev eT:=D->aQ->Option aQ
def yl (K:PySem.W.Frag)(b:Nat)(pt:eT):TG:=fun v σ H Q=>∃ d ρ w t ρ',Good K ρ σ H w t/\Rep K H w .f 0 d v []/\pt d ρ=some ρ'/\∀ aK H' w',aK.length=σ.length->(∀ i,i<b->aK[i]? = σ[i]?)->Good K ρ' aK H' w' t->Go H w H' w'->Q aK H'
theorem PG.imp{t t':TG}(h:PG X tg t)(i:∀ v σ H Q,t' v σ H Q->t v σ H Q):PG X tg t':=fun pins s σ H v u Q I r q=>h pins s σ H v u Q I r (i v σ H Q q)
abbrev OQ (X:Cx)(b:Nat)(tg:Expr)(pt:eT):Prop:=PG X tg (yl X.K b pt)
structure rC (X:Cx) (b:Nat) (e:Expr) (f:eT):Prop where mk::o:OQ X b e f
@[simp] def aC (i:Nat):eT:=fun d ρ=>if i<ρ.length then some (ρ.set i (some (d,fy d)))else none
theorem Good.Bh{ρ:aQ}{σ:St}{w:Wn}{t:Nat}{d:D}(g:Good K ρ σ H w t)(hi:i<σ.length)(r:Rep K H w .f 0 d v []) :
  Good K (ρ.set i (some (d,fy d))) (σ.set i (some v)) H (jx i w) t/\Go H w H (jx i w):=by
 have st:dh H w H (jx i w):=fun a x h n=>⟨sm h,yb n⟩
 refine⟨⟨⟨fun a o h=>g.wl a o (tT h).1,g.wl.tb⟩,fun a j h=>by rw[Zh];exact g.ws a j (tT h).1,fun a j h=>g.wt a j (tT h).1,by rw[Zh,Zh];exact g.len,fun j d' q' e'=>?_⟩,⟨st,fun a o h n=>⟨rfl,yc h (n i)⟩⟩⟩
 by_cases hj:i=j
 ·subst hj
  rw[QT (by rw[g.len];exact hi)]at e'
  cases e'
  exact⟨v,[],QT hi,(Rep.go g.wl st r nM:Rep K H (jx i w) (.s i) 0 d v []).jw⟩
 ·rw[QX hj]at e'
  obtain⟨v',F,h1,h2⟩:=g.slot j d' q' e'
  exact⟨v',F,by rw[QX hj];exact h1,Rep.go g.wl st h2 fun a m=>⟨rfl,yc (h2.aE a m) (fun z=>hj (by cases z;rfl))⟩⟩
theorem bR{b:Nat}{x:Str}{pos:Pos}(hb:b<=i)(hN:X.N.Nodup)(hi:X.N[i]? = some x)(hx:Loc X.env.scope x)(hf:X.fn x=true\/X.env.scope.names.lookup x=some .local:=by first|exact .inl rfl|exact .inr rfl):rC X b (.Name x pos) (aC i):=⟨PG.imp (LL hN hi hx hf) fun v σ H Q ai=>by
 obtain⟨d,ρ,w,t,ρ',g,r,e,k⟩:=ai
 unfold aC at e
 split at e
 next hl=>
  cases e
  obtain⟨a1,a2⟩:=g.Bh (by rw[<- g.len];exact hl) r
  exact k _ _ _ (by rw[Zh]) (fun j hj=>QX (by omega)) a1 a2
 ·cases e⟩
def dF (pt:eT)(body:aH):List D->aQ->Option Out
 | [],ρ=>some (.nx ρ)
 | d::ds,ρ=>match pt d ρ with
  | none=>none
  | some ρ1=>match body ρ1 with
   | some (.nx ρ2)=>dF pt body ds ρ2
   | some (.ct ρ2)=>dF pt body ds ρ2
   | some (.bk ρ2)=>some (.nx ρ2)
   | o=>o
@[simp] def dU (it:jP)(pt:eT)(body:aH):aH:=fun ρ=>match it ρ with
 | some (ds,ρ1)=>dF pt body ds ρ1
 | none=>none
theorem ae.oD{w w':Wn}{ds:List D}(r:ae K H w .f 0 ds vs [])(wl:WL K w H)(st:dh H w H' w'):ae K H' w' .f 0 ds vs []:=ae.go wl st r nM
theorem Rep.oD{w w':Wn}{ds:D}{vs:V}(r:Rep K H w .f 0 ds vs [])(wl:WL K w H)(st:dh H w H' w'):Rep K H' w' .f 0 ds vs []:=Rep.go wl st r nM
theorem ae.pW{w:Wn}:∀ {ds:List D} {vs:List V} (i:Nat),ae K H w .f 0 ds vs []->ae K H w .f 0 (ds.drop i) (vs.drop i) []
 | _,_,0,r=>r
 | ds,vs,i+1,r=>by
  generalize hF:([]:List Addr)=F at r
  cases r with
  | nil=>exact .nil
  | cons r s _=>
   have h2:=s.zero
   have h1:=r.zero
   subst h2
   subst h1
   exact ae.pW i s
theorem Good.more{ρ:aQ}{σ:St}{w:Wn}{t:Nat}(g:Good K ρ σ H w t)(hm:Mo K H H'):Good K ρ σ H' w t/\Go H w H' w:=by
 have h:=hm.mo
 have st:dh H w H' w:=fun a x e n=>⟨sm (h a x e),n⟩
 have kp:∀ a o,w a=some o->H' a=H a:=fun a o e=>by
  obtain⟨vs,q⟩:=g.wl a o e
  rw[q,h a _ q]
 refine⟨⟨⟨fun a o e=>?_,hm.tb g.wl.tb⟩,g.ws,g.wt,g.len,fun i d q e=>?_⟩,st,fun a o e _=>⟨kp a o e,e⟩⟩
 ·obtain⟨vs,q⟩:=g.wl a o e
  exact⟨vs,h a _ q⟩
 ·obtain⟨v,F,h1,h2⟩:=g.slot i d q e
  exact⟨v,F,h1,Rep.go g.wl st h2 fun a m=>⟨kp a _ (h2.aE a m),h2.aE a m⟩⟩
theorem fR{iter:Expr}{body:List Stmt}{it:jP}{pt:eT}{s:aH}{pos:Pos}(hp:PassesOwn (model X.prog X.w) X.A X.env X.xe)(hc:X.calm=true)(hi:tV X tg iter it)(hg:rC X 0 tg pt)(hb:gV X body s)(hs:∀ x,foldedSetIterable iter X.env x=pure x:=by intro _;rfl):jN X (.For tg iter body [] pos) (dU it pt s):=⟨have hi:=hi.o;have hg:=hg.o;have hb:=hb.o;PS.imp (L8 hp hc hi hg hb hs) fun D σ H ai=>by
 obtain⟨ρ,w,o,g,ee,k⟩:=ai
 unfold dU at ee
 split at ee
 next ds ρ1 h1=>
  refine⟨ρ,w,0,ds,ρ1,g,h1,fun J P H1 w1 g1 aJ ok p1 hl=>?_⟩
  refine⟨fun i m aK H'=>m=ds.length-i/\i<=ds.length/\aK.length=σ.length/\∃ ρ' w',Good X.K ρ' aK H' w' 0/\P H' w'/\dF pt s (ds.drop i) ρ'=some o/\nz X.K D σ.length H' w' o,
   ⟨ds.length,by simp,QS _,rfl,ρ1,w1,g1,p1,ee,k.trans aJ⟩,?_⟩
  rintro i m aK H' ⟨rfl,rD,cX,ρ',w',g',p',e',k'⟩
  by_cases bX:i<ds.length
  ·refine .inr ⟨ok.go i H' w' p' bX,fun lM H2=>ds.length-(i+1)=ds.length-(i+1)/\i+1<=ds.length/\lM.length=σ.length/\∃ ρ2 w2,Good X.K ρ2 lM H2 w2 0/\P H2 w2/\dF pt s (ds.drop (i+1)) ρ2=some o/\nz X.K D σ.length H2 w2 o,
    fun lM H2 n2=>⟨ds.length-(i+1),by omega,n2⟩,fun x H2 hy=>?_⟩
   obtain⟨mo,rx,p2⟩:=ok.qQ i H' w' x H2 ds[i] p' g'.wl (Qb bX) hy
   obtain⟨g2,bY⟩:=g'.more mo
   have ed:ds.drop i=ds[i]::ds.drop (i+1):=Vf bX
   rw[ed]at e'
   unfold dF at e'
   split at e'
   ·cases e'
   next fS h3=>
    refine⟨ds[i],ρ',w',0,fS,g2,rx,h3,fun tN H4 w4 l4 _ g4 oE=>?_⟩
    have p4:=ok.st _ _ _ _ p2 g2.wl oE.bJ
    have nx:∀ {iU:aQ},dF pt s (ds.drop (i+1)) iU=some o->∀ jQ H5 w5,jQ.length=tN.length->Good X.K iU jQ H5 w5 0->Go H4 w4 H5 w5->ds.length-(i+1)=ds.length-(i+1)/\i+1<=ds.length/\jQ.length=σ.length/\∃ ρ2 w2,Good X.K ρ2 jQ H5 w2 0/\P H5 w2/\dF pt s (ds.drop (i+1)) ρ2=some o/\nz X.K D σ.length H5 w2 o:=fun {iU} e5 jQ H5 w5 l5 g5 ja=>
     ⟨rfl,bX,by rw[l5,l4,cX],iU,w5,g5,ok.st _ _ _ _ p4 g4.wl ja.bJ,e5,k'.trans ((bY.trans oE).trans ja)⟩
    cases h6:s fS with
    | none=>rw[h6]at e';cases e'
    | some o6=>
     rw[h6]at e'
     refine⟨fS,w4,o6,g4,h6,?_⟩
     cases o6 with
     | nx iU=>exact nx e'
     | ct iU=>exact nx e'
     | bk iU=>
      cases e'
      exact fun jQ H5 w5 l5 g5 ja=>k' jQ H5 w5 (by rw[l5,l4,cX]) g5 ((bY.trans oE).trans ja)
     | rt d q=>
      cases e'
      exact fun v H5 w5 F Bi ja r5=>k' v H5 w5 F Bi ((bY.trans oE).trans ja) r5
  ·have cD:i=ds.length:=YM rD (VG.mp bX)
   subst cD
   refine .inl ⟨ok.stop H' w' p',?_⟩
   have ed:ds.drop ds.length=[]:=by simp
   rw[ed]at e'
   cases e'
   exact k' aK H' w' cX g' Go.refl
 ·cases ee⟩
@[simp] def nA (n:Nat)(ds:List D):aQ:=ds.map (fun d=>some (d,fy d))++List.replicate (n-ds.length) none
@[simp] def bT (n:Nat)(body:aH):List D->OD:=fun ds=>match body (nA n ds)with
 | some (.rt d q)=>some (d,q)
 | some (.nx _)=>some (.bo,9)
 | _=>none
theorem E9{w:Wn}{ds:List D}(hw:∀ a o,w a=some o->o=.f)(wl:WL K w H)(r:ae K H w .f 0 ds vs []):Good K (nA N.length ds) (start N vs) H w 0:=by
 refine⟨wl,(fun a i e=>by cases (hw a _ e)),(fun a i e=>by cases (hw a _ e)),?_,fun i d q e=>?_⟩
 ·unfold nA L2.start
  rw[Qn,Qn,Qc,Qc,ZE,ZE,r.length]
 ·unfold nA at e
  by_cases hi:i<ds.length
  ·rw[QW (by simpa using hi),Ql]at e
   cases h:ds[i]? with
   | none=>rw[h]at e;cases e
   | some d'=>
    rw[h]at e
    cases e
    obtain⟨v,hv,rv⟩:=r.get h
    refine⟨v,[],?_,(rv.any wl:Rep K H w (.s i) 0 d v []).jw⟩
    unfold L2.start
    rw[QW (by rw[Qc,<- r.length];exact hi),Ql,hv]
    rfl
  ·rw[Zp (by simpa using hi),ZU]at e
   split at e<;>cases e
theorem OR{body:aH}{Q:VK}(h:kL K n (bT N.length body) vs H Q E):yh K body { nx:=fun _ H'=>Q .bo H',rt:=Q } (start N vs) H:=by
 obtain⟨hn,ds,w,r,q,hw,wl,rs,e,k⟩:=h
 unfold bT at e
 split at e
 next d q' h1=>
  cases e
  exact⟨_,w,_,E9 hw wl rs,h1,fun v H' w' F pU f_ r'=>k v H' w' F f_ pU r'⟩
 next ρ' h1=>
  cases e
  exact⟨_,w,_,E9 hw wl rs,h1,fun aK H' w' _ g' f_=>k .bo H' w' [] f_ g'.wl .bo⟩
 ·cases e
theorem E_{P:Program}{wd:World}{mg:Str->Option Value}{base:Heap}{x qual:Str}{st:Stmt}{f:Addr}{k:Nat}{body:aH}(F:lU K x qual st f fd)(S:af N ps (bu st))
  (h:∀ (cz:Value) (A:Around) (outer:List Env) (s:Shared) (H:Hp) (E:XK),a_ k (A.deeper (envOfC qual (bu st) s.heap.objs.size f cz))->yi (lP ju P wd K mg base N qual (bu st) f cz A outer s H E).nh (j8 st) body) :
  eG P wd K mg base ju (k+1) f fd ps (kL K ps.length (bT N.length body)):=
 F.ok S (fun vs H Q E h=>h.1) fun cz A outer s H vs Q E hr lg=>⟨_,h cz A outer s H E hr,OR lg⟩
def jy (k:Nat)(pt:eT)(tt:cO)(te:aA)(deep:Bool):List D->aQ->Option (List D×aQ)
 | [],ρ=>some ([],ρ)
 | d::ds,ρ=>match pt d (ρ++List.replicate k none)with
  | none=>none
  | some ρ1=>match tt ρ1 with
   | none=>none
   | some (b,ρ2)=>if b=true then(match te ρ2 with
     | none=>none
     | some (v,q,fS)=>if deep=true/\v.cJ=true/\q≠1 then none else match jy k pt tt te deep ds (fS.take ρ.length)with
      | none=>none
      | some (vs,ym)=>some (v::vs,ym))
    else jy k pt tt te deep ds (ρ2.take ρ.length)
@[simp] def dN (k:Nat)(it:jP)(pt:eT)(tt:cO)(te:aA)(deep:Bool):aA:=fun ρ=>match it ρ with
 | some (ds,ρ1)=>match jy k pt tt te deep ds ρ1 with
  | some (vs,ρ2)=>some (.lst vs,if deep=true then 2 else 1,ρ2)
  | none=>none
 | none=>none
@[simp] def da:cO:=fun ρ=>some (true,ρ)
theorem Good.ext{ρ:aQ}{σ:St}{w:Wn}{t:Nat}(g:Good K ρ σ H w t)(k:Nat):Good K (ρ++List.replicate k none) (σ++List.replicate k none) H w t:=by
 refine⟨g.wl,fun a i e=>by rw[Qn];exact QB (g.ws a i e) (Yv _ _),g.wt,by rw[Qn,Qn,ZE,ZE,g.len],fun i d q e=>?_⟩
 by_cases hi:i<ρ.length
 ·rw[QW hi]at e
  obtain⟨v,F,h1,h2⟩:=g.slot i d q e
  exact⟨v,F,by rw[QW (by rw[<- g.len];exact hi)];exact h1,h2⟩
 ·rw[Zp (by omega),ZU]at e
  split at e<;>cases e
def ma (n:Nat)(w:Wn):Wn:=fun a=>match w a with
 | some (.s i)=>if n<=i then none else some (.s i)
 | x=>x
theorem OS{w:Wn}(h:w a=none):ma n w a=none:=by unfold ma;rw[h]
theorem OT{w:Wn}(h:w a=some (.s i))(hi:i<n):ma n w a=some (.s i):=by unfold ma;rw[h];exact Qk (by omega)
theorem OU{w:Wn}{o:Ow}(h:w a=some o)(hn:∀ i,o ≠ .s i):ma n w a=some o:=by
 unfold ma;rw[h]
 cases o with
 | s i=>exact absurd rfl (hn i)
 | t i=>rfl
 | f=>rfl
theorem Bj{w:Wn}{o:Ow}(h:ma n w a=some o):w a=some o/\∀ i,o=.s i->i<n:=by
 unfold ma at h
 cases e:w a with
 | none=>rw[e]at h;cases h
 | some o'=>
  rw[e]at h
  cases o' with
  | t i=>cases h;exact⟨rfl,fun i z=>nomatch z⟩
  | f=>cases h;exact⟨rfl,fun i z=>nomatch z⟩
  | s i=>
   dsimp only at h
   split at h
   ·cases h
   ·cases h;exact⟨rfl,fun j z=>by cases z;omega⟩
theorem Good.cut{ρ:aQ}{σ τ:St}{w:Wn}{t:Nat}(g:Good K ρ (σ++τ) H w t):Good K (ρ.take σ.length) σ H (ma σ.length w) t/\Go H w H (ma σ.length w):=by
 have st:dh H w H (ma σ.length w):=fun a x h n=>⟨sm h,OS n⟩
 refine⟨⟨⟨fun a o e=>g.wl a o (Bj e).1,g.wl.tb⟩,fun a i e=>(Bj e).2 i rfl,fun a i e=>g.wt a i (Bj e).1,?_,fun i d q e=>?_⟩,⟨st,fun a o e n=>⟨rfl,OU e n⟩⟩⟩
 ·rw[Za,g.len,Qn]
  omega
 ·by_cases hi:i<σ.length
  ·rw[ZP hi]at e
   obtain⟨v,F,h1,h2⟩:=g.slot i d q e
   rw[QW hi]at h1
   exact⟨v,F,h1,Rep.go g.wl st h2 fun a m=>⟨rfl,OT (h2.aE a m) hi⟩⟩
  ·rw[Y6 (by omega)]at e
   cases e
theorem OV{σ aK τ:St}(l:aK.length=(σ++τ).length)(h:∀ i,i<σ.length->aK[i]? = (σ++τ)[i]?):∃ Fb,aK=σ++Fb/\Fb.length=τ.length:=by
 refine⟨aK.drop σ.length,?_,by rw[ZO,l,Qn];omega⟩
 have e:aK.take σ.length=σ:=by
  apply Zt
  intro i
  by_cases hi:i<σ.length
  ·rw[ZP hi,h i hi,QW hi]
  ·rw[Y6 (by omega),QK (by omega)]
 conv=>lhs;rw[<- Yq σ.length aK,e]
def dq (deep:Bool):Nat:=if deep=true then 1 else 0
def jz (deep:Bool)(t:Nat)(w:Wn):Wn:=fun a=>if w a=some (.t (t+1))then(if deep=true then some (.t t)else none)else w a
theorem OW{ρ:aQ}{σ:St}{w:Wn}{t q:Nat}{d:D}(g:Good K ρ σ H w (t+2))(r:Rep K H w (.t (t+1)) q d v F)(hq:¬ (deep=true/\d.cJ=true/\q≠1)) :
  Good K ρ σ H (jz deep t w) (t+1)/\(∃ F',Rep K H (jz deep t w) (.t t) (dq deep) d v F'/\∀ a∈F',w a=some (.t (t+1)))/\dh H w H (jz deep t w)/\(∀ a o,w a=some o->o ≠ .t (t+1)->jz deep t w a=some o):=by
 have hN:∀ a,w a=none->jz deep t w a=none:=fun a e=>by unfold jz;rw[e];rfl
 have hO:∀ a o,w a=some o->o ≠ .t (t+1)->jz deep t w a=some o:=fun a o e n=>by
  unfold jz
  rw[Qk (by rw[e];exact fun z=>n (QH z))]
  exact e
 have hI:∀ a o,jz deep t w a=some o->(w a=some (.t (t+1))/\o=.t t)\/(w a=some o/\o ≠ .t (t+1)):=fun a o e=>by
  unfold jz at e
  split at e
  ·split at e
   ·cases e;exact .inl ⟨by assumption,rfl⟩
   ·cases e
  ·rename_i n;exact .inr ⟨e,fun z=>n (by rw[e,z])⟩
 have st:dh H w H (jz deep t w):=fun a x h n=>⟨sm h,hN a n⟩
 refine⟨⟨⟨fun a o e=>?_,g.wl.tb⟩,fun a i e=>?_,fun a i e=>?_,g.len,fun i d' q' e'=>?_⟩,?_,st,hO⟩
 ·rcases hI a o e with⟨z,_⟩|⟨z,_⟩<;>exact g.wl a _ z
 ·rcases hI a _ e with⟨_,z⟩|⟨z,_⟩
  ·cases z
  ·exact g.ws a i z
 ·rcases hI a _ e with⟨_,z⟩|⟨z,n⟩
  ·cases z;exact Zv _
  ·have:=g.wt a i z
   have:i≠t+1:=fun z=>n (by rw[z])
   omega
 ·obtain⟨v',F',h1,h2⟩:=g.slot i d' q' e'
  exact⟨v',F',h1,Rep.go g.wl st h2 fun a m=>⟨rfl,hO a _ (h2.aE a m) (fun z=>nomatch z)⟩⟩
 ·cases deep with
  | false=>
   refine⟨[],Rep.freeze hN r fun a m=>?_,fun _ z=>nomatch z⟩
   unfold jz
   rw[Qj (r.aE a m)]
   rfl
  | true=>
   have hT:∀ a,w a=some (.t (t+1))->jz true t w a=some (.t t):=fun a e=>by unfold jz;rw[Qj e];rfl
   cases hl:d.cJ with
   | false=>
    obtain⟨_,hr⟩:=r.cV hl
    exact⟨[],Rep.go g.wl st (hr 1) nM,fun _ z=>nomatch z⟩
   | true=>
    have:q=1:=by
     by_cases h:q=1
     ·exact h
     ·exact absurd ⟨rfl,hl,h⟩ hq
    subst this
    exact⟨F,Rep.go g.wl st r fun a m=>⟨rfl,hT a (r.aE a m)⟩,r.aE⟩
theorem OY{ρ:aQ}{σ:St}{w1:Wn}{t q:Nat}{ds:List D}(g:Good K ρ σ H1 w1 (t+1))(hp:H1 p=none)(r:ae K H1 w1 (.t t) q ds vs F) :
  Good K ρ σ (upd H1 p (.lst vs)) (j_ p (.t t) w1) (t+1)/\Go H1 w1 (upd H1 p (.lst vs)) (j_ p (.t t) w1)/\Rep K (upd H1 p (.lst vs)) (j_ p (.t t) w1) (.t t) (q+1) (.lst ds) (.ref p) (p::F):=by
 have ne:∀ a x,H1 a=some x->a≠p:=fun a x e=>h_ e hp
 have nw:∀ a o,w1 a=some o->a≠p:=fun a o e=>by obtain⟨vs,q⟩:=g.wl a o e;exact ne a _ q
 have st:dh H1 w1 (upd H1 p (.lst vs)) (j_ p (.t t) w1):=fun a x e n=>⟨sm (by rw[aZ (ne a x e)];exact e),by rw[iE (ne a x e)];exact n⟩
 refine⟨⟨⟨fun a o e=>?_,g.wl.tb.upd rfl (.inl hp)⟩,fun a i e=>?_,fun a i e=>?_,g.len,fun i d q e=>?_⟩,⟨st,fun a o e _=>⟨aZ (nw a o e),(iE (nw a o e)).trans e⟩⟩,?_⟩
 ·by_cases h:a=p
  ·subst h;exact⟨.l vs,fO⟩
  ·rw[iE h]at e
   obtain⟨us,q⟩:=g.wl a o e
   exact⟨us,by rw[aZ h];exact q⟩
 ·by_cases h:a=p
  ·subst h;rw[oy]at e;cases e
  ·rw[iE h]at e;exact g.ws a i e
 ·by_cases h:a=p
  ·subst h;rw[oy]at e;cases e;exact Zv _
  ·rw[iE h]at e;exact g.wt a i e
 ·obtain⟨v,F,h1,h2⟩:=g.slot i d q e
  exact⟨v,F,h1,Rep.go g.wl st h2 fun a m=>⟨aZ (nw a _ (h2.aE a m)),(iE (nw a _ (h2.aE a m))).trans (h2.aE a m)⟩⟩
 ·exact .own fO oy (ae.go g.wl st r fun a m=>⟨aZ (nw a _ (r.aE a m)),(iE (nw a _ (r.aE a m))).trans (r.aE a m)⟩) fun m=>absurd rfl (nw p _ (r.aE p m))
theorem Fc{k:Nat}{it:jP}{pt:eT}{tt:cO}{te:aA}:∀ σ H Q,tD K (dN k it pt tt te deep) σ H Q->xP k (yj K it) (yl K σ.length pt) (rq K tt) (tD K te) σ H Q:=fun σ H Q ai=>by
 obtain⟨ρ,w,t,r',q,ρ',g,ee,kk⟩:=ai
 unfold dN at ee
 split at ee
 next ds ρ1 h1=>
  split at ee
  next all ρ2 h2=>
   cases ee
   refine⟨ρ,w,t,ds,ρ1,g,h1,fun J P H1 w1 g1 aJ ok p1 hl=>?_⟩
   refine⟨fun i m ys H'=>m=ds.length-i/\i<=ds.length/\ys.length<=i/\∃ fS w3 zs F br,Good K fS σ H' w3 (t+1)/\Go H w H' w3/\P H' w3/\ae K H' w3 (.t t) (dq deep) zs ys F /\
     jy k pt tt te deep (ds.drop i) fS=some (br,ρ')/\zs++br=all,
    ⟨ds.length,by simp,QS _,Qi _,ρ1,w1,[],[],all,g1.up,aJ,p1,.nil,h2,rfl⟩,?_⟩
   rintro i m ys H' ⟨rfl,rD,hys,fS,w3,zs,F,br,g0,oD,p0,Fd,e3,ez⟩
   have hsz:ys.length<sizeLine:=by omega
   refine⟨ZI hsz,?_⟩
   by_cases bX:i<ds.length
   ·refine .inr ⟨ok.go i H' w3 p0 bX,hsz,fun x H2 hy=>?_⟩
    obtain⟨mo,rx,p3⟩:=ok.qQ i H' w3 x H2 ds[i] p0 g0.wl (Qb bX) hy
    obtain⟨g3,bY⟩:=g0.more mo
    have kN:=oD.trans bY
    have rz:=Fd.gone g0.wl bY
    have ed:ds.drop i=ds[i]::ds.drop (i+1):=Vf bX
    rw[ed]at e3
    unfold jy at e3
    split at e3
    ·cases e3
    next ym h4=>
     split at e3
     ·cases e3
     next b iU h5=>
      have gx:=g3.ext k
      have Fe:fS.length=σ.length:=g3.len
      refine⟨ds[i],_,w3,t+1,ym,gx,rx,h4,fun tN H4 w4 l4 s4 g4 oE=>?_⟩
      obtain⟨τ,rfl,OZ⟩:=OV l4 s4
      refine⟨⟨τ,rfl,by rw[OZ,ZE]⟩,ym,w4,t+1,b,iU,g4,h5,fun H5 w5 g5 ja=>?_⟩
      have p5:=ok.st _ _ _ _ (ok.st _ _ _ _ p3 g3.wl oE.bJ) g4.wl ja.bJ
      have z5:ae K H5 w5 (.t t) (dq deep) zs ys F:=(rz.gone g3.wl oE).gone g4.wl ja
      cases b with
      | false=>
       rw[Qk (by decide)]at e3
       dsimp only
       rw[Qk (by decide)]
       obtain⟨gc,rE⟩:=g5.cut
       rw[Fe]at e3
       refine⟨ds.length-(i+1),by omega,rfl,bX,by omega,_,_,zs,F,br,gc,(kN.trans oE).trans (ja.trans rE),ok.st _ _ _ _ p5 g5.wl rE.bJ,z5.gone g5.wl rE,e3,ez⟩
      | true=>
       rw[Qj rfl]at e3
       dsimp only
       rw[Qj rfl]
       split at e3
       ·cases e3
       next d6 q6 O0 h6=>
        split at e3
        ·cases e3
        next O1=>
         split at e3
         ·cases e3
         next O2 ρ7 h7=>
          cases e3
          refine⟨iU,w5,t+1,d6,q6,O0,g5,h6,fun v H6 w6 F6 g6 Bk r6=>?_⟩
          obtain⟨gs,⟨F',rs,O3⟩,Bl,Ff⟩:=OW g6 r6 O1
          obtain⟨gc,rE⟩:=gs.cut
          rw[Fe]at h7
          have Fg:=z5.gone g5.wl Bk
          have zF:∀ a∈F,w6 a=some (.t t):=Fg.aE
          have O4:ae K H6 (jz deep t w6) (.t t) (dq deep) zs ys F:=ae.go g6.wl Bl Fg fun a m=>⟨rfl,Ff a _ (zF a m) (by intro z;cases z)⟩
          have O5:Go H w H6 (jz deep t w6):=by
           have go:Go H w H6 w6:=(kN.trans oE).trans (ja.trans Bk)
           refine⟨go.bJ.trans Bl,fun a o h n=>⟨(go.keep a o h n).1,Ff a o (go.keep a o h n).2 fun z=>?_⟩⟩
           subst z
           have:=g.wt a _ h
           omega
          refine⟨ds.length-(i+1),by omega,rfl,bX,by rw[Qn];simp;omega,_,_,zs++[d6],F++F',O2,gc,O5.trans rE,ok.st _ _ _ _ (ok.st _ _ _ _ p5 g5.wl Bk.bJ |> fun q=>ok.st _ _ _ _ q g6.wl Bl) gs.wl rE.bJ,
           ?_,h7,by rw[ZD];exact ez⟩
          refine(ae.snoc rs O4 fun a m m'=>?_).gone gs.wl rE
          have h1:=zF a m
          rw[O3 a m']at h1
          cases h1
   ·have cD:i=ds.length:=YM rD (VG.mp bX)
    subst cD
    refine .inl ⟨ok.stop H' w3 p0,fun p hp=>?_⟩
    have ed:ds.drop ds.length=[]:=by simp
    rw[ed]at e3
    cases e3
    rw[ZX]at ez
    subst ez
    obtain⟨a1,a2,a3⟩:=OY g0 hp Fd
    refine kk _ _ _ (p::F) a1 (oD.trans a2) ?_
    cases deep<;>exact a3
  ·cases ee
 ·cases ee
section
variable {X:Cx}{k:Nat}{N':List Str}{scope:Scope}{elt tg iter:Expr}{ifs:List Expr}{pos:Pos}{it:jP}{pt:eT}{tt:cO}{te:aA}
abbrev O6 (X:Cx)(ifs:List Expr)(f:cO):Prop:=tM X ifs (rq X.K f)
structure oF (X:Cx) (e:List Expr) (f:cO):Prop where mk::o:O6 X e f
theorem ke:oF X [] da:=⟨fun pins s σ H Q I ai=>by
 obtain⟨ρ,w,t,b,ρ',gd,ee,k⟩:=ai
 cases ee
 exact NV pins s σ H Q I (k H w gd Go.refl)⟩
theorem pX{c:Expr}{g:cO}(h:iS X c g):oF X [c] g:=⟨have h:=h.o;NW h⟩
theorem iV(deep:Bool)(hc:X.calm=true)(S:cb X k N' scope)(hi:tV X tg iter it)(hg:∀ C s H fp,rC (f9 X N' scope C s H fp) X.N.length tg pt)(ht:∀ C s H fp,oF (f9 X N' scope C s H fp) ifs tt)(he:∀ C s H fp,QD (f9 X N' scope C s H fp) elt te)(hs:∀ x,foldedSetIterable iter X.env x=pure x:=by intro _;rfl):QD X (.ListComp elt [⟨tg,iter,ifs,0⟩] scope pos) (dN k it pt tt te deep):=⟨have hi:=hi.o;have hg:=fun C s H fp=>(hg C s H fp).o;have ht:=fun C s H fp=>(ht C s H fp).o;have he:=fun C s H fp=>(he C s H fp).o;by
 intro pins s σ H Q I h
 have:=Fc σ H Q h
 rw[I.len]at this
 exact N7 (N':=N') hc S hi hg ht he hs pins s σ H Q I this⟩
theorem yn{y:Str}{py lY:Pos}(deep:Bool)(hN:X.N.Nodup)(hy:X.N[i]? = some y)(hx:Loc X.env.scope y)(AR:swapsWith (.ListComp elt [⟨tg,iter,ifs,0⟩] scope pos) (some (.Name y py)) lY.line X.env=pure true)(hc:X.calm=true)(S:cb X k N' scope)(hi:tV X tg iter it)(hg:∀ C s H fp,rC (f9 X N' scope C s H fp) X.N.length tg pt)(ht:∀ C s H fp,oF (f9 X N' scope C s H fp) ifs tt)(he:∀ C s H fp,QD (f9 X N' scope C s H fp) elt te)(hs:∀ x,foldedSetIterable iter X.env x=pure x:=by intro _;rfl)(hf:X.fn y=true\/X.env.scope.names.lookup y=some .local:=by first|exact .inl rfl|exact .inr rfl|assumption):jN X (.Assign [.Name y py] (.ListComp elt [⟨tg,iter,ifs,0⟩] scope pos) lY) (bg i (dN k it pt tt te deep)):=⟨have hi:=hi.o;have hg:=fun C s H fp=>(hg C s H fp).o;have ht:=fun C s H fp=>(ht C s H fp).o;have he:=fun C s H fp=>(he C s H fp).o;by
 intro pins s σ H D I h
 have hl:i<σ.length:=by rw[I.len];exact(Qy.mp hy).1
 refine N8 (N':=N') (te:=tD X.K te) (tt:=rq X.K tt) (g:=yl X.K X.N.length pt) (wi:=yj X.K it) hN hy hx AR hc S hi hg ht he hs hf pins s σ H D I ?_
 have z:=E7 (te:=xP k (yj X.K it) (yl X.K σ.length pt) (rq X.K tt) (tD X.K te)) hl (fun Q q=>Fc σ H Q q) h
 rw[I.len]at z
 exact z⟩
end
mutual
def cP:D->PyData
 | .bo=>.none
 | .bl b=>.bool b
 | .int i=>.int i
 | .str x=>.str x
 | .tup ds=>.tuple (dv ds)
 | .lst ds=>.list (dv ds)
 | .gH _ _=>.none
 | .exc _=>.none
 | .ob _ _ _ _=>.none
 | .mp _ _=>.none
def dv:List D->List PyData
 | []=>[]
 | d::ds=>cP d::dv ds
end
mutual
def gJ:D->Bool
 | .gH _ _=>false
 | .exc _=>false
 | .ob _ _ _ _=>false
 | .mp _ _=>false
 | .tup ds=>kg ds
 | .lst ds=>kg ds
 | _=>true
def kg:List D->Bool
 | []=>true
 | d::ds=>gJ d&&kg ds
end
def eK (d:D):Bool:=gJ d&&SeqAt.shaped (cP d)
theorem nB{d:D}(h:eK d=true):gJ d=true:=(Q9.mp h).1
theorem nC{d:D}(h:eK d=true):SeqAt.shaped (cP d)=true:=(Q9.mp h).2
def me (d e:D):Bool:=PyData.eqv (cP d) (cP e)
section
variable {X:Cx}{pins:List (Addr×Obj)}{σ:St}{H:Hp}{s:Shared}
theorem Rep.reads(I:Inv X pins σ H s){w:Wn}{o:Ow}:∀ {q:Nat} {d:D} {v:V} {F:List Addr} {u:Value},Rep X.K H w o q d v F->bw v u->gJ d=true->∃ as,Reads s.heap u (cP d) as:=by
 intro q d v F u r
 refine(Rep.rec (motive_1:=fun q d v F _=>∀ u,bw v u->gJ d=true->∃ as,Reads s.heap u (cP d) as) (motive_2:=fun q ds vs F _=>∀ us,bc vs us->kg ds=true->∃ as,ReadsAll s.heap us (dv ds) as) ?_ ?_ ?_ ?_ ?_ ?_ ?_ ?_ ?_ ?_ ?_ ?_ ?_ ?_ ?_ r:∀ u,bw v u->gJ d=true->∃ as,Reads s.heap u (cP d) as) u
 ·intro q u ru hn;cases ru;exact⟨_,by unfold cP;exact .none⟩
 ·intro q b u ru hn;cases ru;exact⟨_,by unfold cP;exact .bool b⟩
 ·intro q i u ru hn;obtain⟨t,rfl⟩:=ru;exact⟨_,by unfold cP;exact .int i t⟩
 ·intro q x u ru hn;obtain⟨t,rfl⟩:=ru;exact⟨_,by unfold cP;exact .str x t⟩
 ·intro q a vs ds h r ih u ru hn
  cases ru
  obtain⟨aj,rv,p,hz⟩:=I.tuple (cR.of h)
  obtain⟨as,ra⟩:=ih aj rv (by unfold gJ at hn;exact hn)
  obtain⟨ob,ho,hc,n,hd⟩:=p
  exact⟨_,by unfold cP;exact .tuple ho hc hd ra⟩
 ·intro q a ks vs ds h e r ih u ru hn;cases hn
 ·intro q a nm ob v h x n u ru hn;cases hn
 ·intro q f c fo oc u1 u2 vs ds h1 h2 x r ih u ru hn;cases hn
 ·intro a vs ds h r ih u ru hn
  cases ru
  obtain⟨aj,rv,p,hz⟩:=I.list h.sq
  obtain⟨as,ra⟩:=ih aj rv (by unfold gJ at hn;exact hn)
  obtain⟨ob,ho,hc,n,hd⟩:=p.isList
  exact⟨_,by unfold cP;exact .list ho hc hd ra⟩
 ·intro a vs ds h n0 r ih u ru hn
  cases ru
  obtain⟨aj,rv,p,hz⟩:=I.list (.inl h)
  obtain⟨as,ra⟩:=ih aj rv (by unfold gJ at hn;exact hn)
  obtain⟨ob,ho,hc,n,hd⟩:=p.isList
  exact⟨_,by unfold cP;exact .list ho hc hd ra⟩
 ·intro q a vs ds F h e r ne ih u ru hn
  cases ru
  obtain⟨aj,rv,p,hz⟩:=I.list (cH.of h)
  obtain⟨as,ra⟩:=ih aj rv (by unfold gJ at hn;exact hn)
  obtain⟨ob,ho,hc,n,hd⟩:=p.isList
  exact⟨_,by unfold cP;exact .list ho hc hd ra⟩
 ·intro a vs ds k x h i e l r ih u ru hn;cases hn
 ·intro q a vs ds k x h i e l r ih u ru hn;cases hn
 ·intro q us ru hn;cases ru;exact⟨_,by unfold dv;exact .nil⟩
 ·intro q d v ds vs F G r s' ne l0 l3 us ru hn
  cases ru with
  | cons rv O7=>
   unfold kg at hn
   obtain⟨as,ra⟩:=l0 _ rv (Q9.mp hn).1
   obtain⟨bs,rb⟩:=l3 _ O7 (Q9.mp hn).2
   exact⟨_,by unfold dv;exact .cons ra rb⟩
end
def Is (K:PySem.W.Frag)(H:Hp)(d:D)(v:V):Prop:=∃ w o q F,Rep K H w o q d v F
def Fh (K:PySem.W.Frag):R2:=fun x y H Q=>∃ d e,Is K H d x/\Is K H e y/\eK d=true/\eK e=true/\Q (.bl (me d e)) H
def Fi (K:PySem.W.Frag):R2:=fun x y H Q=>∃ d e,Is K H d x/\Is K H e y/\eK d=true/\eK e=true/\Q (.bl (!me d e)) H
def inD (d:D):D->Option Bool
 | .lst ds=>some ((dv ds).any fun y=>PyData.eqv y (cP d))
 | .tup ds=>some ((dv ds).any fun y=>PyData.eqv y (cP d))
 | _=>none
def yo (K:PySem.W.Frag)(neg:Bool):R2:=fun x y H Q=>∃ d e b,Is K H d x/\Is K H e y/\eK d=true/\eK e=true/\inD d e=some b/\Q (.bl (if neg then !b else b)) H
section
variable {X:Cx}{a b c e:Expr}{fa fb fc f:aA}{pos:Pos}
theorem Fj(hu:X.A.units+64<cLine):df X (compareOp .Eq) (Fh X.K):=by
 intro pins s σ H x y v u Q I rx ry ⟨d,e,⟨w,o,q,F,h1⟩,⟨w',o',q',F',h2⟩,k1,k2,hq⟩
 obtain⟨as,ra⟩:=h1.reads I rx (nB k1)
 obtain⟨bs,rb⟩:=h2.reads I ry (nB k2)
 exact eq_dataH ra rb (nC k1) (nC k2) hu ⟨.bl _,H,I,rfl,hq⟩
theorem O8(hu:X.A.units+64<cLine):df X (compareOp .NotEq) (Fi X.K):=by
 intro pins s σ H x y v u Q I rx ry ⟨d,e,⟨w,o,q,F,h1⟩,⟨w',o',q',F',h2⟩,k1,k2,hq⟩
 obtain⟨as,ra⟩:=h1.reads I rx (nB k1)
 obtain⟨bs,rb⟩:=h2.reads I ry (nB k2)
 exact ne_dataH ra rb (nC k1) (nC k2) hu ⟨.bl _,H,I,rfl,hq⟩
theorem O9(hu:X.A.units+65<cLine):df X (compareOp .In) (yo X.K false):=by
 intro pins s σ H x y v u Q I rx ry ⟨d,e,b,⟨w,o,q,F,h1⟩,⟨w',o',q',F',h2⟩,k1,k2,hb,hq⟩
 obtain⟨as,ra⟩:=h1.reads I rx (nB k1)
 obtain⟨bs,rb⟩:=h2.reads I ry (nB k2)
 replace k1:=nC k1
 replace k2:=nC k2
 cases e with
 | lst ds=>
  cases hb
  unfold cP at rb k2
  exact SeqAt.in_list_reads rb ra (Zf k2) (Zf k1) (Yh k1 hu) ⟨.bl _,H,I,rfl,hq⟩
 | tup ds=>
  cases hb
  unfold cP at rb k2
  exact SeqAt.in_tuple_reads rb ra (Zf k2) (Zf k1) (Yh k1 hu) ⟨.bl _,H,I,rfl,hq⟩
 | _=>cases hb
theorem O_(hu:X.A.units+65<cLine):df X (compareOp .NotIn) (yo X.K true):=by
 intro pins s σ H x y v u Q I rx ry ⟨d,e,b,⟨w,o,q,F,h1⟩,⟨w',o',q',F',h2⟩,k1,k2,hb,hq⟩
 obtain⟨as,ra⟩:=h1.reads I rx (nB k1)
 obtain⟨bs,rb⟩:=h2.reads I ry (nB k2)
 replace k1:=nC k1
 replace k2:=nC k2
 cases e with
 | lst ds=>
  cases hb
  unfold cP at rb k2
  exact SeqAt.notIn_list_reads rb ra (Zf k2) (Zf k1) (Yh k1 hu) ⟨.bl _,H,I,rfl,hq⟩
 | tup ds=>
  cases hb
  unfold cP at rb k2
  exact SeqAt.notIn_tuple_reads rb ra (Zf k2) (Zf k1) (Yh k1 hu) ⟨.bl _,H,I,rfl,hq⟩
 | _=>cases hb
def cS (x y:D):Option D:=if eK x=true/\eK y=true then some (.bl (me x y))else none
def di (x y:D):Option D:=if eK x=true/\eK y=true then some (.bl (!me x y))else none
def yp (x y:D):Option D:=if eK x=true/\eK y=true then(inD x y).map fun b=>.bl b else none
def vh (x y:D):Option D:=if eK x=true/\eK y=true then(inD x y).map fun b=>.bl (!b)else none
theorem Fl:∀ σ H Q,tD K (e2 cS fa fb) σ H Q->j3 (Fh K) (tD K fa) (tD K fb) σ H Q:=vb fun x y d h=>by
 unfold cS at h
 split at h
 next hk=>
  cases h
  exact⟨_,rfl,fun H w o o' q q' u u' F F' r1 r2 _ Q hq=>⟨x,y,⟨_,_,_,_,r1⟩,⟨_,_,_,_,r2⟩,hk.1,hk.2,hq⟩⟩
 ·cases h
theorem Pa:∀ σ H Q,tD K (e2 di fa fb) σ H Q->j3 (Fi K) (tD K fa) (tD K fb) σ H Q:=vb fun x y d h=>by
 unfold di at h
 split at h
 next hk=>
  cases h
  exact⟨_,rfl,fun H w o o' q q' u u' F F' r1 r2 _ Q hq=>⟨x,y,⟨_,_,_,_,r1⟩,⟨_,_,_,_,r2⟩,hk.1,hk.2,hq⟩⟩
 ·cases h
theorem hIn:∀ σ H Q,tD K (e2 yp fa fb) σ H Q->j3 (yo K false) (tD K fa) (tD K fb) σ H Q:=vb fun x y d h=>by
 unfold yp at h
 split at h
 next hk=>
  cases hi:inD x y with
  | none=>rw[hi]at h;cases h
  | some b=>
   rw[hi]at h
   cases h
   exact⟨_,rfl,fun H w o o' q q' u u' F F' r1 r2 _ Q hq=>⟨x,y,b,⟨_,_,_,_,r1⟩,⟨_,_,_,_,r2⟩,hk.1,hk.2,hi,hq⟩⟩
 ·cases h
theorem Pb{k:Nat}(hr:a_ k X.A)(ha:QD X a fa)(hb:QD X b fb):QD X (.Compare a [.Eq] [b] pos) (e2 cS fa fb):=⟨have ha:=ha.o;have hb:=hb.o;OH (Fj hr.units) Fl ha hb (xB _)⟩
theorem lu{k:Nat}(hr:a_ k X.A)(ha:QD X a fa)(hb:QD X b fb):iS X (.Compare a [.Eq] [b] pos) (bB (e2 cS fa fb)):=⟨have ha:=ha.o;have hb:=hb.o;yf (Fj hr.units) Fl ha hb (xB _)⟩
theorem ly{k:Nat}(hr:a_ k X.A)(ha:QD X a fa)(hb:QD X b fb):iS X (.Compare a [.NotEq] [b] pos) (bB (e2 di fa fb)):=⟨have ha:=ha.o;have hb:=hb.o;yf (O8 hr.units) Pa ha hb (xB _)⟩
theorem Bm{k:Nat}(r:a_ k A):A.units+65<cLine:=by have:=r.un;omega
theorem Pc{k:Nat}(hr:a_ k X.A)(ha:QD X a fa)(hb:QD X b fb)(hm:behindInMarks .In b=false:=by with_unfolding_all rfl):iS X (.Compare a [.In] [b] pos) (bB (e2 yp fa fb)):=⟨have ha:=ha.o;have hb:=hb.o;yf (O9 (Bm hr)) hIn ha hb hm⟩
end
@[simp] def eB (h:List D->Option D)(g:cy):aA:=fun ρ=>match g ρ with
 | some (ds,ρ1)=>match h ds with
  | some d=>some (d,9,ρ1)
  | none=>none
 | none=>none
section
variable {X:Cx}{a b c e:Expr}{es:List Expr}{fa fb fc f:aA}{g:cy}{pos p p1 p2:Pos}
theorem yq{h:List D->Option D}{r:List V->Hp->VK->Prop}(hh:∀ ds d,h ds=some d->∃ v,oz d=some v/\∀ H w vs,WL K w H->ae K H w .f 0 ds vs []->∀ Q:VK,Q v H->r vs H Q) :
  ∀ σ H Q,tD K (eB h g) σ H Q->xE r (Bd K g) σ H Q:=fun σ H Q ai=>by
 obtain⟨ρ,w,t,r',q,ρ',gd,ee,k⟩:=ai
 unfold eB at ee
 split at ee
 next ds ρ1 h1=>
  split at ee
  next d hd=>
   cases ee
   obtain⟨v,hv,hr⟩:=hh ds _ hd
   exact⟨ρ,w,t,ds,_,gd,h1,fun vs H1 w1 g1 aJ r1=>hr H1 w1 vs g1.wl r1 Q (k v H1 w1 [] g1.up aJ (Ba hv))⟩
  ·cases ee
 ·cases ee
theorem one{w:Wn}{o:Ow}{d:D}(r:ae K H w o 0 [d] vs []):∃ v,vs=[v]/\Rep K H w o 0 d v []:=by
 have l:=r.length
 match vs,l with
 | [v],_=>
  obtain⟨v',h1,h2⟩:=r.get (i:=0) rfl
  cases h1
  exact⟨v,rfl,h2⟩
theorem two{w:Wn}{o:Ow}{d d':D}(r:ae K H w o 0 [d,d'] vs []):∃ v v',vs=[v,v']/\Rep K H w o 0 d v []/\Rep K H w o 0 d' v' []:=by
 have l:=r.length
 match vs,l with
 | [v,v'],_=>
  obtain⟨u,h1,h2⟩:=r.get (i:=0) rfl
  obtain⟨u',h3,h4⟩:=r.get (i:=1) rfl
  cases h1
  cases h3
  exact⟨v,v',rfl,h2,h4⟩
def eU:D->Option Nat
 | .lst ds=>some ds.length
 | .tup ds=>some ds.length
 | _=>none
@[simp] def nE:List D->Option D
 | [d]=>(eU d).map fun n=>.int (Int.ofNat n)
 | _=>none
theorem Rep.len{w:Wn}{o:Ow}{q:Nat}{d:D}(r:Rep K H w o q d v F)(h:eU d=some n):∃ p ys,v=.ref p/\(cH K H p ys\/cR K H p ys)/\ys.length=n:=by
 cases d with
 | lst ds=>
  cases h
  obtain⟨p,vs,q',G,rfl,hq,rs⟩:=r.oA
  exact⟨p,vs,rfl,.inl hq,rs.length.symm⟩
 | tup ds=>
  cases h
  obtain⟨p,vs,rfl,hq,rs⟩:=r.eJ
  exact⟨p,vs,rfl,.inr hq,rs.length.symm⟩
 | _=>cases h
theorem yr(hm:X.mg "len" = none)(ha:gh X [a] g)(hg:Gl X "len":=by rfl)(he:starEach [a] X.env=(false,eval a X.env)::starEach [] X.env:=by rfl)(bS:(backTo pos (starEach [] X.env)).any (·.1)=false:=by rfl):QD X (.Call (.Name "len" p) [a] [] pos) (eB nE g):=⟨have ha:=ha.o;PE.imp (n9 An hg hm VY ha (by decide) (by decide) he bS) (yq fun ds d h=>by
  match ds,h with
  | [d0],h=>
   cases hl:eU d0 with
   | none=>simp only[nE,hl,Option.map_none]at h;cases h
   | some n=>
    simp only[nE,hl,Jg,Option.some.injEq]at h
    subst h
    refine⟨_,rfl,fun H w vs wl r Q hq=>?_⟩
    obtain⟨v,rfl,rv⟩:=one r
    obtain⟨p,ys,rfl,hs,hn⟩:=rv.len hl
    exact⟨p,ys,rfl,hs,by rw[hn];exact hq⟩)⟩
@[simp] def bZ (i:Nat):aA:=fun ρ=>match ρ[i]? with
 | some (some (d,_))=>match eU d with
  | some n=>some (.int (Int.ofNat n),9,ρ)
  | none=>none
 | _=>none
theorem eZ{x:Str}(hm:X.mg "len" = none)(h:QE X (.Name x p1) (eV i))(hg:Gl X "len":=by rfl)(he:starEach [.Name x p1] X.env=(false,eval (.Name x p1) X.env)::starEach [] X.env:=by rfl)(bS:(backTo pos (starEach [] X.env)).any (·.1)=false:=by rfl):QD X (.Call (.Name "len" p) [.Name x p1] [] pos) (bZ i):=⟨have h:=h.o;PE.imp (n9 An hg hm VY (i8 h j5 he) (by decide) (by decide) he bS) fun σ H Q ai=>by
 obtain⟨ρ,w,t,r',q,ρ',gd,ee,k⟩:=ai
 unfold bZ at ee
 split at ee
 next d q0 e0=>
  split at ee
  next n hn=>
   cases ee
   obtain⟨v,F,h1,h2⟩:=gd.slot i d q0 e0
   obtain⟨p,ys,rfl,hs,hl⟩:=h2.len hn
   exact⟨_,h1,p,ys,rfl,hs,by rw[hl];exact k _ H w [] gd.up Go.refl (.int _)⟩
  ·cases ee
 ·cases ee⟩
@[simp] def yt:List D->Option D
 | [.int i,.int j]=>some (.int (if j > i then j else i))
 | _=>none
theorem Fm(hc:X.calm=true)(hm:X.mg "max" = none)(hb:bootBuiltins "max" = some (.builtin "max"))(ha:gh X (a::es) g)(hg:Gl X "max":=by rfl)(he:starEach (a::es) X.env=(false,eval a X.env)::starEach es X.env:=by rfl)(bS:(backTo pos (starEach es X.env)).any (·.1)=false:=by rfl):QD X (.Call (.Name "max" p) (a::es) [] pos) (eB yt g):=⟨have ha:=ha.o;PE.imp (n9 (Mn hc) hg hm hb ha (by decide) (by decide) he bS) (yq fun ds d h=>by
  unfold yt at h
  split at h
  next i j=>
   cases h
   refine⟨_,rfl,fun H w vs wl r Q hq=>?_⟩
   obtain⟨v,v',rfl,r1,r2⟩:=two r
   exact⟨i,j,by rw[fH r1,fH r2],hq⟩
  ·cases h)⟩
@[simp] def vi (g:cy):aA:=fun ρ=>match g ρ with
 | some ([.lst ds],ρ1)=>some (.lst ds,1,ρ1)
 | some ([.tup ds],ρ1)=>some (.lst ds,1,ρ1)
 | _=>none
theorem Pd(hm:X.mg "list" = none)(hb:bootBuiltins "list" = some (.type "list"))(ha:gh X [a] g)(hg:Gl X "list":=by rfl)(he:starEach [a] X.env=(false,eval a X.env)::starEach [] X.env:=by rfl)(bS:(backTo pos (starEach [] X.env)).any (·.1)=false:=by rfl):QD X (.Call (.Name "list" p) [a] [] pos) (vi g):=⟨have ha:=ha.o;PE.imp (pJ Ew hg hm hb ha (by decide) (by decide) he bS) fun σ H Q ai=>by
 obtain⟨ρ,w,t,r',q,ρ',gd,ee,k⟩:=ai
 unfold vi at ee
 split at ee
 next ds ρ1 h1=>
  cases ee
  refine⟨ρ,w,t,_,_,gd,h1,fun vs H1 w1 g1 aJ r1=>?_⟩
  obtain⟨v,rfl,rv⟩:=one r1
  obtain⟨p,ys,rfl,hs,rs⟩:=rv.gf
  refine⟨p,ys,rfl,.inl hs,fun l hl=>?_⟩
  obtain⟨a1,a2,a3⟩:=lj g1 hl rs
  exact k _ _ _ _ a1 (aJ.trans a2) a3
 next ds ρ1 h1=>
  cases ee
  refine⟨ρ,w,t,_,_,gd,h1,fun vs H1 w1 g1 aJ r1=>?_⟩
  obtain⟨v,rfl,rv⟩:=one r1
  obtain⟨p,ys,rfl,hs,rs⟩:=rv.eJ
  refine⟨p,ys,rfl,.inr hs,fun l hl=>?_⟩
  obtain⟨a1,a2,a3⟩:=lj g1 hl rs
  exact k _ _ _ _ a1 (aJ.trans a2) a3
 ·cases ee⟩
@[simp] def iG (g:cy):aA:=fun ρ=>match g ρ with
 | some ([.lst ds],ρ1)=>some (.tup ds,9,ρ1)
 | some ([.tup ds],ρ1)=>some (.tup ds,9,ρ1)
 | _=>none
theorem nF(hm:X.mg "tuple" = none)(hb:bootBuiltins "tuple" = some (.type "tuple"))(ha:gh X [a] g)(hg:Gl X "tuple":=by rfl)(he:starEach [a] X.env=(false,eval a X.env)::starEach [] X.env:=by rfl)(bS:(backTo pos (starEach [] X.env)).any (·.1)=false:=by rfl):QD X (.Call (.Name "tuple" p) [a] [] pos) (iG g):=⟨have ha:=ha.o;PE.imp (pJ M3 hg hm hb ha (by decide) (by decide) he bS) fun σ H Q ai=>by
 obtain⟨ρ,w,t,r',q,ρ',gd,ee,k⟩:=ai
 unfold iG at ee
 split at ee
 next ds ρ1 h1=>
  cases ee
  refine⟨ρ,w,t,_,_,gd,h1,fun vs H1 w1 g1 aJ r1=>?_⟩
  obtain⟨v,rfl,rv⟩:=one r1
  obtain⟨p,ys,rfl,hs,rs⟩:=rv.gf
  refine⟨p,ys,rfl,.inl ⟨hs,fun l hl=>?_⟩⟩
  obtain⟨a1,a2,a3⟩:=tR g1 hl rs
  exact k _ _ _ _ a1 (aJ.trans a2) a3
 next ds ρ1 h1=>
  cases ee
  refine⟨ρ,w,t,_,_,gd,h1,fun vs H1 w1 g1 aJ r1=>?_⟩
  obtain⟨v,rfl,rv⟩:=one r1
  have rr:=rv
  obtain⟨p,ys,rfl,hs,rs⟩:=rv.eJ
  refine⟨p,ys,rfl,.inr ⟨hs,?_⟩⟩
  exact k _ H1 w1 [] g1.up aJ (((rr.cV rfl).2 9).any g1.wl)
 ·cases ee⟩
def Fn (ta:TA):TE:=fun σ H Q=>ta σ H fun vs H1=>∃ j:Int,vs=[.int j] /\ -(2 ^ 62)<=j/\j<2 ^ 62/\∀ p,H1 p=none->Q (.ref p) (upd H1 p (.lH 0 j))
theorem Fp{ta:TA}(hg:Gl X "range")(hm:X.mg "range" = none)(ha:PA X [a] ta)(hs:starEach [a] X.env=[(false,eval a X.env)]:=by rfl):PE X (.Call (.Name "range" p) [a] [] pos) (Fn ta):=by
 intro pins s σ H Q I h
 refine Call_ (tj I hg hm boot_range (Z3 (aW (ha pos pins s σ H _ I h) fun us s1 ⟨vs,H1,I1,r1,q1⟩=>?_) hs rfl))
 obtain⟨j,e,q1,q2,q⟩:=q1
 subst e
 cases r1 with
 | cons r rr=>
  cases rr
  obtain⟨t,rfl⟩:=r
  refine call_range_1 ?_
  exact⟨.ref s1.heap.objs.size,upd H1 s1.heap.objs.size (.lH 0 j),I1.laid (fun b u e=>Qd _ e) (Qi _) ⟨_,_,_,Qs _ rfl⟩,rfl,q _ (I1.aB.fresh (Qi _))⟩
end
theorem Fq{j:Int}(h1:-(2 ^ 62)<=j)(h2:j<2 ^ 62):Builtin.Range.small 0 j 1=true:=by
 have hs:Builtin.Range.rangeSize 0 j 1=((j.toNat:Nat):Int):=by
  simp[Builtin.Range.rangeSize]<;>split<;>omega
 simp only[Builtin.Range.small,hs,Builtin.Range.rangeFitsLong]
 simp
 omega
theorem Ft(j:Int):Builtin.Range.rangeSize 0 j 1=((j.toNat:Nat):Int):=by
 simp[Builtin.Range.rangeSize]<;>split<;>omega
theorem Fu{acc:Array Value}(h:ItemsOf (fun i v=>∃ t,v=Value.int (0+(i:Nat)*1) t) acc n):bc (pV n) acc.toList:=by
 have key:∀ (us:List Value) (k:Nat),(∀ j v,us[j]? = some v->∃ t,v=Value.int (((k+j:Nat)):Int) t)->bc ((List.range' k us.length).map fun i=>V.int (Int.ofNat i)) us:=by
  intro us
  induction us with
  | nil=>intro k _;exact .nil
  | cons u r ih=>
   intro k hk
   obtain⟨t,e⟩:=hk 0 u rfl
   refine .cons ⟨t,by rw[e];rfl⟩ (ih (k+1) fun j v hv=>?_)
   obtain⟨t',e'⟩:=hk (j+1) v (by simpa using hv)
   exact⟨t',by rw[e'];congr 2;omega⟩
 have:=key acc.toList 0 fun j v hv=>by
  obtain⟨t,e⟩:=h.2 j v (by simpa using hv)
  exact⟨t,by rw[e];congr 1;omega⟩
 have hl:acc.toList.length=n:=by simpa using h.1
 rw[hl]at this
 unfold pV
 rw[VZ]
 exact this
section
variable {prog:Program}{w:World}{A:Around}{E:Value->Shared->Prop}{s:Shared}
open AutoSeq1 (wpAny_loadPart')
theorem Pe{Q:List Value->Shared->Prop}{r:Addr}{a:Int}{t v:Tok}(hh:A.handled=none)(hr:IsRange s.heap r a b c t u v)(gm:Builtin.Range.small a b c=true)(hn:Builtin.Range.rangeSize a b c=n)(hlen:n<=2 ^ 24)
  (hQ:∀ h' tk bh,(∀ b o',s.heap.get? b=some o'->h'.get? b=some o')->ItemsOf (fun i v=>∃ t,v=.int (a+i*c) t) bh n->Q bh.toList { s with heap:=h',toks:=tk }) :
  wpAny (model prog w) A (collect (.ref r)) Q E s:=by
 unfold collect
 refine Qa (wpAny_runValue (ZY F.entry_proto_collect ?_))
 rw[Jk F.plain_proto_collect _]
 show wpAny _ A.in1 (newList [] >>= fun l=>again (.builtin "list.__iadd__" ⟨[l,.ref r],[]⟩)) _ _ s
 refine Qa (Q6 ?_)
 refine Qe ⟨plainId_quiet F.plain_list_iadd _,ZY F.entry_list_iadd ?_⟩
 rw[Jk F.plain_list_iadd _]
 show wpAny _ A.in1 (Builtin.List.listExtendWith (.ref s.heap.objs.size) (.ref r) (.ref s.heap.objs.size)) _ _ _
 have hS:(s.heap.push { cls:=.type "list",data:=.seq ([]:List Value).toArray }).get? s.heap.objs.size=some { cls:=.type "list",data:=.seq #[] 0 }:=Qs _ rfl
 have vj:∀ (h':Heap) (tk:Nat) (bh:Array Value) (c':Nat),(∀ b o,b≠s.heap.objs.size->(s.heap.push { cls:=.type "list",data:=.seq ([]:List Value).toArray }).get? b=some o->h'.get? b=some o)->
   h'.get? s.heap.objs.size=some { cls:=.type "list",dict:=none,data:=.seq bh c',slots:=#[] }->ItemsOf (fun i v=>∃ t,v=.int (a+i*c) t) bh n->wpAny (model prog w) A (match Value.ref s.heap.objs.size with
   | Value.ref a=>do
    match (<- load a).data with
     | Data.seq xs _=>pure xs.toList
     | _=>unsupported "internal:collect"
   | _=>unsupported "internal:collect") Q E { s with heap:=h',toks:=tk }:=fun h' tk bh c' hk oG cq=>by
  show wpAny _ A (load s.heap.objs.size >>= _) _ _ _
  refine Qa (wpAny_load oG ?_)
  refine Qe (hQ h' tk bh (fun b o' hb=>?_) cq)
  exact hk b o' (QP (Qp hb)) (Qd _ hb)
 refine ZJ (wpAny_extend_range (A:=A) (R:=fun rs s'=>rs=.ok (.ret (.ref s.heap.objs.size))/\∃ h' tk bh c',s'={ s with heap:=h',toks:=tk }/\(∀ b o,b≠s.heap.objs.size->(s.heap.push { cls:=.type "list",data:=.seq ([]:List Value).toArray }).get? b=some o->h'.get? b=some o) /\
   h'.get? s.heap.objs.size=some { cls:=.type "list",dict:=none,data:=.seq bh c',slots:=#[] }/\ItemsOf (fun i v=>∃ t,v=.int (a+i*c) t) bh n)
  (s:={ s with heap:=s.heap.push { cls:=.type "list",data:=.seq ([]:List Value).toArray } }) hh (Qd _ hr) gm hn hlen s.heap.objs.size (.ref s.heap.objs.size) 0 hS (fun h' tk bh c' hk oG cq=>⟨rfl,h',tk,bh,c',rfl,hk,oG,cq⟩)) (fun fin s' h=>?_) (fun e s' h=>?_)
 ·cases fin with
  | done f=>
   obtain⟨e,h',tk,bh,c',rfl,hk,oG,cq⟩:=h
   cases e
   exact vj h' tk bh c' hk oG cq
  | again c'=>exact⟨h.1,Ye h.2 fun r pI hr=>by
    obtain⟨rfl,h',tk,bh,c',rfl,hk,oG,cq⟩:=hr
    exact vj h' tk bh c' hk oG cq⟩
 ·exact absurd h.1 (by simp)
end
theorem Pf(r:Addr)(a b c:Int)(t u v:Tok)(n:Nat)(gm:Builtin.Range.small a b c=true)(hn:Builtin.Range.rangeSize a b c=n)(hlen:n<=2 ^ 24) :
  Meets (Builtin.«tuple.__new__» ⟨[.type "tuple",.ref r],[]⟩)
   (fun A R s=>A.handled=none/\IsRange s.heap r a b c t u v/\∀ (h':Heap) tk bh,(∀ b o',s.heap.get? b=some o'->h'.get? b=some o')->ItemsOf (fun i v=>∃ t,v=.int (a+i*c) t) bh n->R (.ok (.ret (.ref h'.objs.size))) { s with heap:=h'.push { cls:=.type "tuple",data:=.seq bh },toks:=tk }):=
 .of_wp fun prog w A R s h=>by
  obtain⟨hp,g,d,tk,os⟩:=s;obtain⟨hh,hr,h⟩:=h
  have du:=sub_tuple_self
  have Fv:=init_tuple_lookup
  have hmh:=madeHere_tuple
  have hT:Shared.TypeIs ⟨hp,g,d,tk,os⟩ (.ref r) "range":=⟨_,hr,rfl⟩
  have Pg:A.in1.handled=none:=hh
  wp_walk using AutoSeq1.wpAny_loadPart' hr,JP hT,Pe Pg hr gm hn hlen
  intro h' Bn bh hk cq
  show wpAny _ _ (Builtin.Tuple.tupleExact bh.toList.toArray >>= fun v=>ret v) _ _ _
  unfold Builtin.Tuple.tupleExact
  have hsz:bh.size<=sizeLine:=by rw[cq.1];exact hlen
  refine Qa (Q6 ?_ (by show bh.toList.toArray.size<=sizeLine;simpa using hsz))
  refine Qe ⟨_,rfl,?_⟩
  have e:bh.toList.toArray=bh:=by simp
  rw[e]
  exact h h' Bn bh hk cq
theorem Ph{prog:Program}{w:World}{E:Value->Shared->Prop}{s:Shared}{r:Addr}{a:Int}{t v:Tok}{Q:Value->Shared->Prop}(hh:A.handled=none)(hr:IsRange s.heap r a b c t u v)(gm:Builtin.Range.small a b c=true)(hn:Builtin.Range.rangeSize a b c=n)(hlen:n<=2 ^ 24)
  (h:∀ (h':Heap) tk bh,(∀ b o',s.heap.get? b=some o'->h'.get? b=some o')->ItemsOf (fun i v=>∃ t,v=.int (a+i*c) t) bh n->Q (.ref h'.objs.size) { s with heap:=h'.push { cls:=.type "tuple",data:=.seq bh },toks:=tk }) :
  wpAny (model prog w) A (call (.type "tuple") [.ref r]) Q E s:=
 callType_new F.called_tuple (by decide) (F.typeCall_tuple_1 _) (F.newCall_tuple_1 _) (fun obj=>F.args_object_init_2 obj _) F.entry_tuple_new
  (Pf r a b c t u v n gm hn hlen) ⟨hh,hr,fun h' tk bh hk cq=>⟨⟨_,Qs _ rfl,rfl⟩,h h' tk bh hk cq⟩⟩
section
variable {X:Cx}
def Bo (mk:List V->HO):List V->Hp->VK->Prop:=fun xs H Q=>∃ a j,xs=[.ref a]/\H a=some (.lH 0 j) /\ -1000<=j/\j<=1000/\∀ p,H p=none->Q (.ref p) (upd H p (mk (pV j.toNat)))
theorem Pj(hc:X.calm=true):jt X (.type "list") (Bo .lst):=by
 intro pins s σ H xs us Q I r h
 obtain⟨a,j,rfl,hr,j1,j2,q⟩:=h
 obtain⟨u,rfl,rx⟩:=j4 r
 cases rx
 obtain⟨t,u,v,ho⟩:=(show cZ X.prog X.w H s.heap a (.lH 0 j)from I.aB a _ hr)
 refine call_list_range (I.ok.hd hc) ho (Fq (by omega) (by omega)) (Ft j) (by omega) fun h' tk bh c' hk oG cq=>?_
 refine⟨.ref s.heap.objs.size,_,I.laid (t':=tk) (o:=.lst (pV j.toNat)) hk (Qi _) ⟨by rw[E8];exact QL (by omega:j.toNat<=1000) (by decide),bh.toList,c',Fu cq,by simpa using oG⟩,rfl,q _ (I.aB.fresh (Qi _))⟩
theorem Pk(hc:X.calm=true):jt X (.type "tuple") (Bo .tup):=by
 intro pins s σ H xs us Q I r h
 obtain⟨a,j,rfl,hr,j1,j2,q⟩:=h
 obtain⟨u,rfl,rx⟩:=j4 r
 cases rx
 obtain⟨t,u,v,ho⟩:=(show cZ X.prog X.w H s.heap a (.lH 0 j)from I.aB a _ hr)
 refine Ph (I.ok.hd hc) ho (Fq (by omega) (by omega)) (Ft j) (by omega) fun h' tk bh hk cq=>?_
 have I1:Inv X pins σ H { s with heap:=h',toks:=tk }:=I.kept hk
 have I2:Inv X pins σ (upd H h'.objs.size (.tup (pV j.toNat))) { s with heap:=h'.push { cls:=.type "tuple",data:=.seq bh },toks:=tk }:=
  I1.laid (t':=tk) (fun b o e=>Qd _ e) (Qi _) (show cZ X.prog X.w _ _ _ (.tup _)from⟨by rw[E8];exact QL (by omega:j.toNat<=1000) (by decide),bh.toList,Fu cq,by simpa using kH.new h' bh⟩)
 exact⟨.ref h'.objs.size,_,I2,rfl,q _ (I1.aB.fresh (Qi _))⟩
variable {a:Expr}{g:cy}{pos p p1 kO:Pos}
@[simp] def oH (g:cy):aA:=fun ρ=>match cI g ρ with
 | some (ds,ρ1)=>some (.lst ds,1,ρ1)
 | none=>none
@[simp] def Fw (g:cy):aA:=fun ρ=>match cI g ρ with
 | some (ds,ρ1)=>some (.tup ds,9,ρ1)
 | none=>none
theorem Fx{mk:List V->HO}{q0:Nat}{md:List D->D}(al:∀ {ρ:aQ} {σ:St} {H1:Hp} {w1:Wn} {t:Nat} {p:Addr} {vs:List V} {ds:List D},Good K ρ σ H1 w1 t->H1 p=none->ae K H1 w1 .f 0 ds vs []->∃ w' F,Good K ρ σ (upd H1 p (mk vs)) w' (t+1)/\Go H1 w1 (upd H1 p (mk vs)) w'/\Rep K (upd H1 p (mk vs)) w' (.t t) q0 (md ds) (.ref p) F) :
  ∀ σ H Q,tD K (fun ρ=>match cI g ρ with
   | some (ds,ρ1)=>some (md ds,q0,ρ1)
   | none=>none) σ H Q->xE (Bo mk) (Ed (Fn (Bd K g)) Ec) σ H Q:=fun σ H Q ai=>by
 obtain⟨ρ,w,t,r',q,ρ',gd,ee,k⟩:=ai
 dsimp only at ee
 split at ee
 next ds ρ1 h1=>
  cases ee
  unfold cI at h1
  split at h1
  next n ρ2 h2=>
   split at h1
   next hn=>
    cases h1
    refine⟨ρ,w,t,_,_,gd,h2,fun vs H1 w1 g1 aJ r1=>?_⟩
    obtain⟨v,rfl,rv⟩:=one r1
    have hv:=fH rv
    subst hv
    refine⟨n,rfl,by omega,by omega,fun p hp=>⟨p,n,rfl,fO,hn.1,hn.2,fun l hl=>?_⟩⟩
    have ne:∀ a x,H1 a=some x->a≠p:=fun a x e=>h_ e hp
    have st:dh H1 w1 (upd H1 p (.lH 0 n)) w1:=fun a x e nn=>⟨sm (by rw[aZ (ne a x e)];exact e),nn⟩
    have nw:∀ a o,w1 a=some o->a≠p:=fun a o e=>by obtain⟨vs,q⟩:=g1.wl a o e;exact ne a _ q
    have g2:Good K ρ' σ (upd H1 p (.lH 0 n)) w1 t:=⟨⟨fun a o e=>by
     obtain⟨us,q⟩:=g1.wl a o e
     exact⟨us,by rw[aZ (nw a o e)];exact q⟩,g1.wl.tb.upd rfl (.inl hp)⟩,g1.ws,g1.wt,g1.len,fun i d q e=>by
     obtain⟨v,F,h1,h2⟩:=g1.slot i d q e
     exact⟨v,F,h1,Rep.go g1.wl st h2 fun a m=>⟨aZ (nw a _ (h2.aE a m)),h2.aE a m⟩⟩⟩
    have bY:Go H1 w1 (upd H1 p (.lH 0 n)) w1:=⟨st,fun a o e _=>⟨aZ (nw a o e),e⟩⟩
    obtain⟨w',F,a1,a2,a3⟩:=al g2 hl (ON n.toNat)
    exact k _ _ _ _ a1 ((aJ.trans bY).trans a2) a3
   ·cases h1
  ·cases h1
 ·cases ee
theorem Bp(hc:X.calm=true)(hm:X.mg "list" = none)(hb:bootBuiltins "list" = some (.type "list"))(Bq:X.mg "range" = none)(ha:gh X [a] g)(hg:Gl X "list":=by rfl)(Br:Gl X "range":=by rfl)(hs:starEach [a] X.env=[(false,eval a X.env)]:=by rfl)(he:starEach [.Call (.Name "range" p1) [a] [] kO] X.env=(false,eval (.Call (.Name "range" p1) [a] [] kO) X.env)::starEach [] X.env:=by rfl)(bS:(backTo pos (starEach [] X.env)).any (·.1)=false:=by rfl):QD X (.Call (.Name "list" p) [.Call (.Name "range" p1) [a] [] kO] [] pos) (oH g):=⟨have ha:=ha.o;PE.imp (pJ (Pj hc) hg hm hb (i8 (Fp Br Bq ha hs) j5 he) (by decide) (by decide) he bS) (Fx fun g hp r=>by
  obtain⟨a1,a2,a3⟩:=lj g hp r
  exact⟨_,_,a1,a2,a3⟩)⟩
theorem Pl(hc:X.calm=true)(hm:X.mg "tuple" = none)(hb:bootBuiltins "tuple" = some (.type "tuple"))(Bq:X.mg "range" = none)(ha:gh X [a] g)(hg:Gl X "tuple":=by rfl)(Br:Gl X "range":=by rfl)(hs:starEach [a] X.env=[(false,eval a X.env)]:=by rfl)(he:starEach [.Call (.Name "range" p1) [a] [] kO] X.env=(false,eval (.Call (.Name "range" p1) [a] [] kO) X.env)::starEach [] X.env:=by rfl)(bS:(backTo pos (starEach [] X.env)).any (·.1)=false:=by rfl):QD X (.Call (.Name "tuple" p) [.Call (.Name "range" p1) [a] [] kO] [] pos) (Fw g):=⟨have ha:=ha.o;PE.imp (pJ (Pk hc) hg hm hb (i8 (Fp Br Bq ha hs) j5 he) (by decide) (by decide) he bS) (Fx fun g hp r=>by
  obtain⟨a1,a2,a3⟩:=tR g hp r
  exact⟨_,_,a1,a2,a3⟩)⟩
end
end L3
namespace L3
open PySem PySem.Spec PyProof.Rows L2
theorem Pm{M:Model}{A:Around}{E:Value->Shared->Prop}{s:Shared}{β:Type}{n:Nat}(f:Nat->β->Sem (ForInStep β))(I:List Nat->β->Shared->Prop)(Q:β->Shared->Prop)(b:β)
  (turn:∀ x br b s,I (x::br) b s->wpAny M A (f x b) (fun r s'=>match r with|.yield b'=>I br b' s' | .done b'=>Q b' s') E s)
  (fin:∀ b s,I [] b s->Q b s) (h:I (List.range' 0 n 1) b s):wpAny M A (forIn [0:n] b f) Q E s:=by
 rw[JL]
 refine JR f I Q turn fin _ b ?_
 have e:(Std.Legacy.Range.size [0:n])=n:=by simp[Std.Legacy.Range.size]
 show I (List.range' 0 (Std.Legacy.Range.size [0:n]) 1) b s
 rw[e]
 exact h
open AutoSeq1 (wpAny_loadPart') in
theorem Pn(l:Addr)(items:Array Value)(n:Nat)(dd:Option Addr)(sl:Array (Option Value))(x:Value)(e:Value->Bool)(j:Nat)(hj:j<items.size)(hit:e items[j]=true)(Ak:∀ m (hm:m<items.size),m<j->e items[m]=false) :
  Meets (Builtin.«tuple.index» ⟨[.ref l,x],[]⟩)
   (fun A R s=>s.heap.get? l=some { cls:=.type "tuple",dict:=dd,data:=.seq items n,slots:=sl }/\(∀ y,y∈items->SeqAt.EqAt A.in1 s y x (e y))/\R (.ok (.ret (.int j s.toks))) { s with toks:=s.toks+1 }):=
 .of_wp fun prog w A R s h=>by
  obtain⟨hp,g,d,tk,os⟩:=s;obtain⟨hl,he,h⟩:=h
  wp_walk using wpAny_loadPart' hl,Pm _ (fun br b s'=>b.1=none/\s'=⟨hp,g,d,tk,os⟩/\∃ i k,br=List.range' i k 1/\i+k=items.size/\i<=j) _
  case turn=>
   rintro y br b s' ⟨hb,rfl,i,k,hr,Po,rF⟩
   cases k with
   | zero=>simp at hr
   | succ k=>
    rw[Yw]at hr
    obtain⟨rfl,rfl⟩:=List.cons.inj hr
    have bX:y<items.size:=by omega
    have Bs:items[y]? = some items[y]:=by simp[bX]
    rw[Bs]
    refine Qa (he _ (Vk bX) prog w _ _ ?_)
    by_cases Pp:y=j
    ·subst Pp
     rw[hit]
     wp_walk
     exact⟨_,rfl,h⟩
    ·rw[Ak y bX (by omega)]
     wp_walk
     exact⟨rfl,rfl,y+1,k,rfl,by omega,by omega⟩
  case fin=>
   rintro ⟨b1,b2⟩ s' ⟨hb,rfl,i,k,hr,Po,rF⟩
   cases k with
   | zero=>omega
   | succ k=>simp[Yw]at hr
  case h=>
   exact⟨rfl,rfl,0,items.size,by simp,by omega,by omega⟩
end L3
namespace L3
open PySem PySem.Spec PyProof.Rows L2
variable {F:List Addr}{H:Hp}{K:PySem.W.Frag}{N ps:List Str}{P:Program}{Q:Value->Shared->Prop}{Sq:Hp->List V->Prop}{X:Cx}{base:Heap}{body:aH}{d:D}{ds:List D}{i n q:Nat}{it j p:Addr}{mg:Str->Option Value}{o:Ow}{st:Stmt}{u:Value}{vs:List V}{w:Wn}{x:Str}{ρ:aQ}{σ:St}
def yu (d:D)(ds:List D):Option Nat:=(dv ds).findIdx? fun y=>PyData.eqv y (cP d)
def Pq (K:PySem.W.Frag):V->List V->Hp->VK->Prop:=fun x xs H Q=>∃ ds d y j,xs=[y]/\Is K H (.tup ds) x/\Is K H d y/\eK (.tup ds)=true/\eK d=true/\yu d ds=some j/\Q (.int (Int.ofNat j)) H
section
variable {X:Cx}{a b c e:Expr}{es:List Expr}{fa fb fc f:aA}{g:cy}{pos p p1 p2 az apos:Pos}
theorem Pr(hu:X.A.units+65<cLine):Ep X "tuple.index" (Pq X.K):=by
 intro pins s σ H x xs v us Q I rx rs ⟨ds,d,y,j,e,⟨w,o,q,F,h1⟩,⟨w',o',q',F',h2⟩,k1,k2,hj,hq⟩
 subst e
 obtain⟨u,rfl,ru⟩:=j4 rs
 obtain⟨as,ra⟩:=h1.reads I rx (nB k1)
 obtain⟨bs,rb⟩:=h2.reads I ru (nB k2)
 replace k1:=nC k1
 replace k2:=nC k2
 unfold cP at ra k1
 have pY:PyData.canLayAll0 (dv ds)=true:=Zf k1
 have nq:=Zf k2
 cases ra with
 | @tuple a ob vs n _ _ ho lA hd Fy=>
  obtain⟨cls,dd,data,sl⟩:=ob
  simp only at lA hd
  subst lA hd
  have vk:=SeqAt.readsAll_map _ _ _ pY Fy
  have Pt:=List.findIdx?_eq_some_iff_getElem.mp hj
  obtain⟨Pu,Pw,Px⟩:=Pt
  have hlen:vs.size=(dv ds).length:=by rw[<- vk];simp
  have tW:∀ m (hm:m<vs.size) (fT:m<(dv ds).length),SeqAt.readOf s.heap vs[m]=(dv ds)[m]:=fun m hm fT=>by
   have:(vs.toList.map (SeqAt.readOf s.heap))[m]? = (dv ds)[m]?:=by rw[vk]
   simpa [hm,fT]using this
  refine JJ Vo ⟨_,ho,rfl⟩ PySem.F.entry_tuple_index (PySem.F.args_tuple_index_2 _ _)
   (Pn a vs n dd sl u (fun y=>PyData.eqv (SeqAt.readOf s.heap y) (cP d)) j (by omega) (by rw[tW j (by omega) Pu];simpa using Pw) (fun m hm Py=>by rw[tW m hm (by omega)];simpa using Px m Py)) ⟨ho,SeqAt.items_eqAt Fy rb pY nq (Yh k2 hu),?_⟩
  exact⟨.int (Int.ofNat j),H,I.tok _,⟨_,rfl⟩,hq⟩
@[simp] def Bu (fo:aA)(g:cy):aA:=fun ρ=>match fo ρ with
 | some (.tup ds,_,ρ1)=>match g ρ1 with
  | some ([d],ρ2)=>if eK (.tup ds)=true/\eK d=true then match yu d ds with
   | some j=>some (.int (Int.ofNat j),9,ρ2)
   | none=>none
   else none
  | _=>none
 | _=>none
theorem Pz{k:Nat}(hr:a_ k X.A)(ho:QD X a fa)(ha:gh X [e] g)(cA:attributeBase a "index" X.env (eval a X.env)=eval a X.env:=by rfl)(dY:((backTo az (starEach [e] X.env)).all (fun x=>!x.1)&&(backToKw az (keywordEach [] X.env)).all (fun x=>x.1.isSome)
   && decide ([e].length+([]:List Keyword).length+(if([]:List Keyword).isEmpty then 0 else 1)<30))=true:=by rfl) (cB:(apos.endLine==az.line)=true:=by rfl) (hs:starEach [e] X.env=(false,eval e X.env)::starEach [] X.env:=by rfl) (cU:(backTo az (starEach [] X.env)).any (·.1)=false:=by rfl):QD X (.Call (.Attribute a "index" apos) [e] [] az) (Bu fa g):=⟨have ho:=ho.o;have ha:=ha.o;PE.imp (xH PySem.F.plainAttrs_tuple Vo PySem.F.type_tuple_index (Pr (Bm hr)) ho ha cA dY cB hs cU) fun σ H Q ai=>by
 obtain⟨ρ,w,t,r',q,ρ',gd,ee,k⟩:=ai
 unfold Bu at ee
 split at ee
 next ds q1 ρ1 h1=>
  split at ee
  next d ρ2 h2=>
   split at ee
   next aB=>
    split at ee
    next j hj=>
     cases ee
     refine⟨ρ,w,t,_,_,_,gd,h1,fun v H1 w1 F1 g1 aJ r1=>?_⟩
     have r0:=r1.drop (o:=.f) (Qi t)
     have gg:=g1.drop (t':=t)
     obtain⟨p0,vs,rfl,hq,rs⟩:=r0.pR
     refine⟨?_,ρ1,bU t w1,t,_,_,gg,h2,fun vs2 H2 w2 g2 bY r2=>?_⟩
     ·exact .inr (.inl ⟨rfl,.inr ⟨_,hq⟩⟩)
     ·obtain⟨v2,rfl,PB⟩:=one r2
      have r3:Rep X.K H2 w2 .f 0 (.tup ds) (.ref p0) []:=r0.oD gg.wl bY.bJ
      exact⟨ds,d,v2,j,rfl,⟨_,_,_,_,r3⟩,⟨_,_,_,_,PB⟩,aB.1,aB.2,hj,k _ H2 w2 [] g2.up ((aJ.drop gd.wt).trans bY) (.int _)⟩
    ·cases ee
   ·cases ee
  ·cases ee
 ·cases ee⟩
theorem Good.mut{t:Nat}(g:Good K ρ σ H w t)(e:ρ[i]? = some (some (.lst ds,1))) :
  ∃ l vs,σ[i]? = some (some (.ref l))/\H l=some (.lst vs)/\ae K H w .f 0 ds vs []/\∀ ck eS,ae K H w .f 0 ck eS []->
   Good K (ρ.set i (some (.lst ck,1))) σ (upd H l (.lst eS)) w t/\Go H w (upd H l (.lst eS)) w:=by
 obtain⟨v,F,h1,h2⟩:=g.slot i _ _ e
 cases h2 with
 | @own _ l vs _ F' hl hw rs ne=>
  have hF:=rs.zero
  subst hF
  refine⟨l,vs,h1,hl,rs.any g.wl,fun ck eS r'=>?_⟩
  have nl:∀ a o,w a=some o->o ≠ .s i->a≠l:=fun a o e n z=>by subst z;rw[hw]at e;exact n (QH e).symm
  have nn:∀ a,w a=none->a≠l:=fun a e z=>by subst z;rw[hw]at e;cases e
  have st:dh H w (upd H l (.lst eS)) w:=fun a x h n=>⟨sm (by rw[aZ (nn a n)];exact h),n⟩
  refine⟨⟨⟨fun a o h=>?_,g.wl.tb.upd rfl (.inr (g.wl l _ hw))⟩,g.ws,g.wt,by rw[Zh];exact g.len,fun j d' q' e'=>?_⟩,⟨st,fun a o h n=>⟨aZ (nl a o h (n i)),h⟩⟩⟩
  ·by_cases z:a=l
   ·subst z;exact⟨.l _,fO⟩
   ·obtain⟨us,q⟩:=g.wl a o h
    exact⟨us,by rw[aZ z];exact q⟩
  ·by_cases hj:i=j
   ·subst hj
    rw[QT (Qy.mp e).1]at e'
    cases e'
    exact⟨_,_,h1,.own fO hw (ae.go g.wl st r' nM) (fun z=>nomatch z)⟩
   ·rw[QX hj]at e'
    obtain⟨v',F',pZ,mf⟩:=g.slot j d' q' e'
    exact⟨v',F',pZ,Rep.go g.wl st mf fun a m=>⟨aZ (nl a _ (mf.aE a m) (fun z=>hj (by cases z;rfl))),mf.aE a m⟩⟩
@[simp] def rG:Option (OD)->Bool
 | some (some (.lst _,_))=>true
 | _=>false
theorem Good.cJ{t:Nat}(g:Good K ρ σ H w t)(h:rG ρ[i]? = true):∃ l,σ[i]? = some (some (.ref l))/\∃ vs,cH K H l vs:=by
 unfold rG at h
 split at h
 next ds q e=>
  obtain⟨v,F,h1,h2⟩:=g.slot i _ _ e
  obtain⟨p,vs,_,_,rfl,hq,_⟩:=h2.oA
  exact⟨p,h1,vs,hq⟩
 ·cases h
@[simp] def jb (i:Nat)(g:cy):aA:=fun ρ=>if rG ρ[i]? = true then match g ρ with
 | some ([d],ρ1)=>match ρ1[i]? with
  | some (some (.lst ds,1))=>if ds.length<=1000 then some (.bo,9,ρ1.set i (some (.lst (ds++[d]),1)))else none
  | _=>none
 | _=>none
 else none
theorem mh(h:QE X (.Name x p1) (eV i))(ha:gh X [e] g)(cA:attributeBase (.Name x p1) "append" X.env (eval (.Name x p1) X.env)=eval (.Name x p1) X.env:=by rfl)(dY:((backTo az (starEach [e] X.env)).all (fun x=>!x.1)&&(backToKw az (keywordEach [] X.env)).all (fun x=>x.1.isSome)
   && decide ([e].length+([]:List Keyword).length+(if([]:List Keyword).isEmpty then 0 else 1)<30))=true:=by rfl) (cB:(apos.endLine==az.line)=true:=by rfl) (hs:starEach [e] X.env=(false,eval e X.env)::starEach [] X.env:=by rfl) (cU:(backTo az (starEach [] X.env)).any (·.1)=false:=by rfl):QD X (.Call (.Attribute (.Name x p1) "append" apos) [e] [] az) (jb i g):=⟨have h:=h.o;have ha:=ha.o;PE.imp (xH Ya PySem.F.slot_list_append PySem.F.type_list_append M7 h ha cA dY cB hs cU) fun σ H Q ai=>by
 obtain⟨ρ,w,t,r',q,ρ',gd,ee,k⟩:=ai
 unfold jb at ee
 split at ee
 next hl=>
  obtain⟨l,cX,us,hq⟩:=gd.cJ hl
  split at ee
  next d ρ1 h1=>
   split at ee
   next ds e1=>
    split at ee
    next hlen=>
     cases ee
     refine⟨_,cX,.inl ⟨rfl,us,hq⟩,ρ,w,t,_,_,gd,h1,fun vs H1 w1 g1 aJ r1=>?_⟩
     obtain⟨v,rfl,rv⟩:=one r1
     obtain⟨l',ws,cT,hH,rs,mk⟩:=g1.mut e1
     rw[cX]at cT
     cases cT
     have r2:ae X.K H1 w1 .f 0 (ds++[d]) (ws++[v]) []:=ae.snoc (F:=[]) (G:=[]) rv rs nM
     obtain⟨m1,m2⟩:=mk _ _ r2
     refine⟨l,ws,v,rfl,rfl,hH,by rw[<- rs.length];exact lh hlen,?_⟩
     exact k .bo _ w1 [] m1.up (aJ.trans m2) .bo
    ·cases ee
   ·cases ee
  ·cases ee
 ·cases ee⟩
theorem ae.eraseIdx:∀ {ds:List D} {vs:List V} (i:Nat),ae K H w .f 0 ds vs []->ae K H w .f 0 (ds.eraseIdx i) (vs.eraseIdx i) []
 | ds,vs,i,r=>by
  generalize hF:([]:List Addr)=F at r
  cases r with
  | nil=>exact .nil
  | @cons _ d v ds vs F G r s _=>
   have h1:F=[]:=r.zero
   have h2:G=[]:=s.zero
   subst h1 h2
   cases i with
   | zero=>exact s
   | succ j=>exact .cons (F:=[]) (G:=[]) r (ae.eraseIdx j s) nM
@[simp] def vm (i:Nat)(g:cy):aA:=fun ρ=>if rG ρ[i]? = true then match g ρ with
 | some ([.int n],ρ1)=>match ρ1[i]? with
  | some (some (.lst ds,1))=>if -1000<=n/\n<=1000 then match seqIndex? n ds.length with
   | some j=>match ds[j]? with
    | some d=>some (d,fy d,ρ1.set i (some (.lst (ds.eraseIdx j),1)))
    | none=>none
   | none=>none
   else none
  | _=>none
 | _=>none
 else none
theorem PF(h:QE X (.Name x p1) (eV i))(ha:gh X [e] g)(cA:attributeBase (.Name x p1) "pop" X.env (eval (.Name x p1) X.env)=eval (.Name x p1) X.env:=by rfl)(dY:((backTo az (starEach [e] X.env)).all (fun x=>!x.1)&&(backToKw az (keywordEach [] X.env)).all (fun x=>x.1.isSome)
   && decide ([e].length+([]:List Keyword).length+(if([]:List Keyword).isEmpty then 0 else 1)<30))=true:=by rfl) (cB:(apos.endLine==az.line)=true:=by rfl) (hs:starEach [e] X.env=(false,eval e X.env)::starEach [] X.env:=by rfl) (cU:(backTo az (starEach [] X.env)).any (·.1)=false:=by rfl):QD X (.Call (.Attribute (.Name x p1) "pop" apos) [e] [] az) (vm i g):=⟨have h:=h.o;have ha:=ha.o;PE.imp (xH Ya PySem.F.slot_list_pop PySem.F.type_list_pop Na h ha cA dY cB hs cU) fun σ H Q ai=>by
 obtain⟨ρ,w,t,r',q,ρ',gd,ee,k⟩:=ai
 unfold vm at ee
 split at ee
 next hl=>
  obtain⟨l,cX,us,hq⟩:=gd.cJ hl
  split at ee
  next n ρ1 h1=>
   split at ee
   next ds e1=>
    split at ee
    next hn=>
     split at ee
     next j hj=>
      split at ee
      next d hd=>
       cases ee
       refine⟨_,cX,.inl ⟨rfl,us,hq⟩,ρ,w,t,_,_,gd,h1,fun vs H1 w1 g1 aJ r1=>?_⟩
       obtain⟨v,rfl,rv⟩:=one r1
       have hv:=fH rv
       subst hv
       obtain⟨l',ws,cT,hH,rs,mk⟩:=g1.mut e1
       rw[cX]at cT
       cases cT
       obtain⟨y,hy,ry⟩:=rs.get hd
       obtain⟨m1,m2⟩:=mk _ _ (rs.eraseIdx j)
       refine⟨l,ws,n,j,y,rfl,rfl,hH,by omega,by omega,by rw[<- rs.length];exact hj,hy,?_⟩
       have PH:Rep X.K _ w1 (.t t) 0 r' y []:=Rep.go g1.wl m2.bJ ry nM
       exact k y _ w1 [] m1.up (aJ.trans m2) PH.jw
      ·cases ee
     ·cases ee
    ·cases ee
   ·cases ee
  ·cases ee
 ·cases ee⟩
end
theorem ae.vn:∀ {ds:List D} {vs:List V} {F:List Addr} {i:Nat} {d:D},ae K H w o q ds vs F->ds[i]? = some d->∃ v G,vs[i]? = some v/\Rep K H w o q d v G/\∀ a∈G,a∈F
 | _,_,_,_,_,.nil,e=>by simp at e
 | _,_,_,0,_,.cons r _ _,e=>by
  simp at e;subst e;exact⟨_,_,rfl,r,fun a m=>Qu _ m⟩
 | _,_,_,i+1,d,.cons _ s _,e=>by
  obtain⟨v,G,h1,h2,h3⟩:=ae.vn (i:=i) (d:=d) s (by simpa using e)
  exact⟨v,G,by simpa using h1,h2,fun a m=>Qo _ (h3 a m)⟩
theorem ae.Fz{i:Int}(r:ae K H w o q ds vs F)(h:L2.dC ds i=some d):∃ v G,L2.dC vs i=some v/\Rep K H w o q d v G/\∀ a∈G,a∈F:=by
 unfold L2.dC at h ⊢
 rw[<- r.length]
 cases e:ib ds.length i with
 | none=>rw[e]at h;cases h
 | some j=>
  rw[e]at h
  exact r.vn h
@[simp] def aw (n:Nat)(fb:aA):aA:=fun ρ=>match ρ[n]? with
 | some (some _)=>match fb ρ with
  | some (.int i,_,ρ2)=>match ρ2[n]? with
   | some (some (x,q))=>match cf x i with
    | some d=>if d.cJ=true/\1<q/\x.cJ=true then none else some (d,fy d,ρ2)
    | none=>none
   | _=>none
  | _=>none
 | _=>none
section
variable {X:Cx}{a b c e:Expr}{es:List Expr}{fa fb fc f:aA}{g:cy}{pos p p1 p2 az apos:Pos}
theorem aX(h:QE X (.Name x p1) (eV n))(hb:QD X b fb)(hs:tz b:=by exact fun _ _=>rfl):QD X (.Subscript (.Name x p1) b pos) (aw n fb):=⟨have h:=h.o;have hb:=hb.o;PE.imp (uU uV h hb hs) fun σ H Q ai=>by
 obtain⟨ρ,w,t,r',q,ρ',gd,ee,k⟩:=ai
 unfold aw at ee
 split at ee
 next z0 e0=>
  obtain⟨d0,q0⟩:=z0
  obtain⟨v,F,cX,_⟩:=gd.slot n d0 q0 e0
  split at ee
  next i q2 ρ2 h2=>
   split at ee
   next x q e2=>
    split at ee
    next d hd=>
     split at ee
     ·cases ee
     next hn=>
      cases ee
      refine⟨v,cX,ρ,w,t,_,_,_,gd,h2,fun y H2 w2 F2 g2 go r2=>?_⟩
      have hy:=fH r2
      subst hy
      have gg:=g2.drop (t':=t)
      obtain⟨v',F',cT,rr⟩:=gg.slot n x q e2
      rw[cX]at cT
      cases cT
      have fin:∀ u,Rep X.K H2 (bU t w2) (.t t) 0 r' u []->Q u H2:=fun u ru=>k u H2 (bU t w2) [] gg.up (go.drop gd.wt) ru.jw
      cases x with
      | lst ds=>
       by_cases PJ:q=0
       ·subst PJ
        obtain⟨p0,vs,rfl,hq,rs⟩:=rr.gf
        obtain⟨u,hu,ru⟩:=rs.dC hd
        exact .inl ⟨p0,vs,i,u,rfl,rfl,hq,hu,fin u (ru.any gg.wl)⟩
       ·by_cases vo:q=1
        ·subst vo
         cases rr with
         | own h0 _ rs _=>
          have z0:=rs.zero
          subst z0
          obtain⟨u,hu,ru⟩:=rs.dC hd
          exact .inl ⟨_,_,i,u,rfl,rfl,cH.of h0,hu,fin u (ru.any gg.wl)⟩
        ·obtain⟨p0,vs,q',G,rfl,hq,rs⟩:=rr.oA
         obtain⟨u,G',hu,ru,_⟩:=rs.Fz hd
         refine .inl ⟨p0,vs,i,u,rfl,rfl,hq,hu,fin u ?_⟩
         cases hL:r'.cJ with
         | false=>exact((ru.cV hL).2 0).any gg.wl
         | true=>exact absurd ⟨hL,by omega,rfl⟩ hn
      | tup ds=>
       obtain⟨p0,vs,rfl,hq,rs⟩:=rr.eJ
       obtain⟨u,hu,ru⟩:=rs.dC hd
       exact .inr (.inl ⟨p0,vs,i,u,rfl,rfl,hq,hu,fin u (ru.any gg.wl)⟩)
      | _=>cases hd
    ·cases ee
   ·cases ee
  ·cases ee
 ·cases ee⟩
@[simp] def tX (fa fb:aA):aA:=fun ρ=>match fa ρ with
 | some (.lst ds,1,ρ1)=>match fb ρ1 with
  | some (.int n,_,ρ2)=>if -1000<=n/\n<=1000/\ds.length*n.toNat<=1000 then some (.lst (List.replicate n.toNat ds).flatten,1,ρ2)else none
  | _=>none
 | _=>none
theorem ae.app{es:List D}{us:List V}(s:ae K H w .f 0 es us []):∀ {ds:List D} {vs:List V},ae K H w .f 0 ds vs []->ae K H w .f 0 (ds++es) (vs++us) []
 | ds,vs,r=>by
  generalize hF:([]:List Addr)=F at r
  cases r with
  | nil=>rw[<- hF];exact s
  | @cons _ d v ds vs F G r t _=>
   have h1:F=[]:=r.zero
   have h2:G=[]:=t.zero
   subst h1 h2
   exact .cons (F:=[]) (G:=[]) r (ae.app s t) nM
theorem ae.times(r:ae K H w .f 0 ds vs []):∀ n:Nat,ae K H w .f 0 (List.replicate n ds).flatten (List.replicate n vs).flatten []
 | 0=>.nil
 | n+1=>by
  rw[ZN,ZN,Ji,Ji]
  exact ae.app (ae.times r n) r
theorem FA(ha:QD X a fa)(hb:QD X b fb):QD X (.BinOp a .Mult b pos) (tX fa fb):=⟨have ha:=ha.o;have hb:=hb.o;PE.imp (pF Nc ha hb) fun σ H Q ai=>by
 obtain⟨ρ,w,t,r',q,ρ',gd,ee,k⟩:=ai
 unfold tX at ee
 split at ee
 next ds ρ1 h1=>
  split at ee
  next n q2 ρ2 h2=>
   split at ee
   next hn=>
    cases ee
    refine rl gd h1 h2 fun u u' H2 w2 F1 F2 g2 go r1 r2=>?_
    have rp:=fH r2
    subst rp
    cases r1 with
    | @own _ l vs _ F hl hw rs ne=>
     have hF:=rs.zero
     subst hF
     have gg:=g2.drop (t':=t)
     have oI:ae X.K H2 (bU t w2) .f 0 ds vs []:=ae.go g2.wl (fun a x h n=>⟨sm h,x_ n⟩) rs nM
     refine⟨l,n,vs,rfl,rfl,hl,by omega,by omega,?_,fun p hp=>?_⟩
     ·rw[<- rs.length];exact pS hn.2.2
     ·obtain⟨a1,a2,a3⟩:=lj gg hp (oI.times n.toNat)
      exact k _ _ _ _ a1 ((go.drop gd.wt).trans a2) a3
   ·cases ee
  ·cases ee
 ·cases ee⟩
end
theorem ae.row(wl:WL K w H):∀ {rows:List D} {vs:List V} {F:List Addr} {i:Nat} {row:List D},ae K H w o 1 rows vs F->rows[i]? = some (.lst row)->
  ∃ b ws,vs[i]? = some (.ref b)/\H b=some (.lst ws)/\w b=some o/\b∈F/\ae K H w .f 0 row ws [] /\
   ∀ gY kh,ae K H w .f 0 gY kh []->ae K (upd H b (.lst kh)) w o 1 (rows.set i (.lst gY)) vs F
 | _,_,_,_,_,.nil,e=>by simp at e
 | _,_,_,0,row,.cons r s ne,e=>by
  simp at e
  subst e
  cases r with
  | @own _ b ws _ F' hb hw rs nb=>
   have hF:=rs.zero
   subst hF
   refine⟨b,ws,rfl,hb,hw,by simp,rs.any wl,fun gY kh r'=>?_⟩
   have nn:∀ a,w a=none->a≠b:=fun a e z=>by subst z;rw[hw]at e;cases e
   have st:dh H w (upd H b (.lst kh)) w:=fun a x h n=>⟨sm (by rw[aZ (nn a n)];exact h),n⟩
   refine .cons (.own fO hw (ae.go wl st r' nM) (fun z=>nomatch z)) (ae.go wl st s fun a m=>⟨aZ fun z=>?_,s.aE a m⟩) ne
   subst z
   exact ne a (by simp) m
 | _,_,_,i+1,row,.cons (d:=d) (v:=v) (F:=F) (G:=G) r s ne,e=>by
  obtain⟨b,ws,h1,h2,h3,h4,h5,mk⟩:=ae.row wl (i:=i) (row:=row) s (by simpa using e)
  refine⟨b,ws,by simpa using h1,h2,h3,Qo _ h4,h5,fun gY kh r'=>?_⟩
  have nn:∀ a,w a=none->a≠b:=fun a e z=>by subst z;rw[h3]at e;cases e
  have st:dh H w (upd H b (.lst kh)) w:=fun a x h n=>⟨sm (by rw[aZ (nn a n)];exact h),n⟩
  refine .cons (Rep.go wl st r fun a m=>⟨aZ fun z=>?_,r.aE a m⟩) (mk gY kh r') ne
  subst z
  exact ne a m h4
theorem Good.Bv{t m:Nat}{rows row:List D}(g:Good K ρ σ H w t)(e:ρ[i]? = some (some (.lst rows,2)))(em:rows[m]? = some (.lst row)) :
  ∃ l vs b ws,σ[i]? = some (some (.ref l))/\cH K H l vs/\vs.length=rows.length/\vs[m]? = some (.ref b)/\H b=some (.lst ws)/\ae K H w .f 0 row ws []/\∀ gY kh,ae K H w .f 0 gY kh []->
   Good K (ρ.set i (some (.lst (rows.set m (.lst gY)),2))) σ (upd H b (.lst kh)) w t/\Go H w (upd H b (.lst kh)) w:=by
 obtain⟨v,F,h1,h2⟩:=g.slot i _ _ e
 cases h2 with
 | @own _ l vs _ F' hl hw rs nl=>
  obtain⟨b,ws,b1,b2,b3,b4,b5,mk⟩:=ae.row g.wl rs em
  have PK:l≠b:=fun z=>by subst z;exact nl b4
  refine⟨l,vs,b,ws,h1,cH.of hl,rs.length.symm,b1,b2,b5,fun gY kh r'=>?_⟩
  have FC:∀ a o,w a=some o->o ≠ .s i->a≠b:=fun a o e n z=>by subst z;rw[b3]at e;exact n (QH e).symm
  have nn:∀ a,w a=none->a≠b:=fun a e z=>by subst z;rw[b3]at e;cases e
  have st:dh H w (upd H b (.lst kh)) w:=fun a x h n=>⟨sm (by rw[aZ (nn a n)];exact h),n⟩
  refine⟨⟨⟨fun a o h=>?_,g.wl.tb.upd rfl (.inr (g.wl b _ b3))⟩,g.ws,g.wt,by rw[Zh];exact g.len,fun j d' q' e'=>?_⟩,⟨st,fun a o h n=>⟨aZ (FC a o h (n i)),h⟩⟩⟩
  ·by_cases z:a=b
   ·subst z;exact⟨.l _,fO⟩
   ·obtain⟨us,q⟩:=g.wl a o h
    exact⟨us,by rw[aZ z];exact q⟩
  ·by_cases hj:i=j
   ·subst hj
    rw[QT (Qy.mp e).1]at e'
    cases e'
    exact⟨_,_,h1,.own (by rw[aZ PK];exact hl) hw (mk gY kh r') nl⟩
   ·rw[QX hj]at e'
    obtain⟨v',F',pZ,mf⟩:=g.slot j d' q' e'
    exact⟨v',F',pZ,Rep.go g.wl st mf fun a m=>⟨aZ (FC a _ (mf.aE a m) (fun z=>hj (by cases z;rfl))),mf.aE a m⟩⟩
theorem ae.rH{v:V}(rv:Rep K H w .f 0 d v []):∀ {ds:List D} {vs:List V} (i:Nat),ae K H w .f 0 ds vs []->ae K H w .f 0 (ds.set i d) (vs.set i v) []
 | ds,vs,i,r=>by
  generalize hF:([]:List Addr)=F at r
  cases r with
  | nil=>rw[<- hF];exact .nil
  | @cons _ d' v' ds vs F G r s _=>
   have h1:F=[]:=r.zero
   have h2:G=[]:=s.zero
   subst h1 h2
   cases i with
   | zero=>exact .cons (F:=[]) (G:=[]) rv s nM
   | succ j=>exact .cons (F:=[]) (G:=[]) r (ae.rH rv j s) nM
abbrev kP:=aQ->Option Int
def tQ (K:PySem.W.Frag)(f:kP):TE:=fun σ H Q=>∃ ρ w t i,Good K ρ σ H w t/\f ρ=some i/\Q (.int i) H
abbrev PQ (X:Cx)(e:Expr)(f:kP):Prop:=PE X e (tQ X.K f)
structure QQ (X:Cx) (e:Expr) (f:kP):Prop where mk::o:PQ X e f
@[simp] def oJ (n:Nat):kP:=fun ρ=>match ρ[n]? with
 | some (some (.int i,_))=>some i
 | _=>none
@[simp] def rJ (n:Nat)(f:kP):kP:=fun ρ=>match f ρ with
 | some i=>match ρ[n]? with
  | some (some (x,_))=>match cf x i with
   | some (.int j)=>some j
   | _=>none
  | _=>none
 | none=>none
section
variable {X:Cx}{a b c e:Expr}{es:List Expr}{fa fb fc f:aA}{qa qb:kP}{g:cy}{pos p p1 p2 az apos:Pos}
theorem yv(h:QE X (.Name x p1) (eV n)):QQ X (.Name x p1) (oJ n):=⟨have h:=h.o;PE.imp h fun σ H Q ai=>by
 obtain⟨ρ,w,t,i,gd,ee,k⟩:=ai
 unfold oJ at ee
 split at ee
 next j q e0=>
  cases ee
  obtain⟨v,F,h1,h2⟩:=gd.slot n _ _ e0
  rw[fH h2]at h1
  exact⟨_,h1,k⟩
 ·cases ee⟩
theorem FD(h:QE X (.Name x p1) (eV n))(hb:QQ X b qb)(hs:tz b:=by exact fun _ _=>rfl):QQ X (.Subscript (.Name x p1) b pos) (rJ n qb):=⟨have h:=h.o;have hb:=hb.o;PE.imp (uU uV h hb hs) fun σ H Q ai=>by
 obtain⟨ρ,w,t,i,gd,ee,k⟩:=ai
 unfold rJ at ee
 split at ee
 next i0 h0=>
  split at ee
  next x q e0=>
   split at ee
   next j hj=>
    cases ee
    obtain⟨v,F,h1,h2⟩:=gd.slot n _ _ e0
    refine⟨v,h1,ρ,w,t,i0,gd,h0,?_⟩
    cases x with
    | lst ds=>
     obtain⟨p0,vs,q',G,rfl,hq,rs⟩:=h2.oA
     obtain⟨u,G',hu,ru,_⟩:=rs.Fz hj
     rw[fH ru]at hu
     exact .inl ⟨p0,vs,i0,_,rfl,rfl,hq,hu,k⟩
    | tup ds=>
     obtain⟨p0,vs,rfl,hq,rs⟩:=h2.eJ
     obtain⟨u,hu,ru⟩:=rs.dC hj
     rw[fH ru]at hu
     exact .inr (.inl ⟨p0,vs,i0,_,rfl,rfl,hq,hu,k⟩)
    | _=>cases hj
   ·cases ee
  ·cases ee
 ·cases ee⟩
@[simp] def vp (n:Nat)(qi qj:kP)(fe:aA):aH:=fun ρ=>match fe ρ with
 | some (d,_,ρ1)=>match qi ρ1,qj ρ1,ρ1[n]? with
  | some i,some j,some (some (.lst rows,2))=>match ib rows.length i with
   | some m=>match rows[m]? with
    | some (.lst row)=>match ib row.length j with
     | some k=>some (.nx (ρ1.set n (some (.lst (rows.set m (.lst (row.set k d))),2))))
     | none=>none
    | _=>none
   | none=>none
  | _,_,_=>none
 | none=>none
theorem PN(h:QE X (.Name x p1) (eV n))(ha:QQ X a qa)(hb:QQ X b qb)(he:QD X e f)(hi:tz a:=by exact fun _ _=>rfl)(rK:∀ v,assign (.Subscript (.Subscript (.Name x p1) a p2) b p) X.env v=(do
   let ov <- holding [v] (eval (.Subscript (.Name x p1) a p2) X.env)
   let iv <- holding [v,ov] (eval b X.env)
   standAt p
   holding [v,ov,iv] (setItem ov iv v)
   release [v,ov,iv] []):=by exact fun _=>rfl) (hs:swapsWithSole [.Subscript (.Subscript (.Name x p1) a p2) b p] e pos.line X.env=pure false:=by rfl):jN X (.Assign [.Subscript (.Subscript (.Name x p1) a p2) b p] e pos) (vp n qa qb f):=⟨have h:=h.o;have ha:=ha.o;have hb:=hb.o;have he:=he.o;by
 refine PS.imp (zX he (D2 (uU uV h ha hi) hb Eu rK) hs) fun D σ H ⟨ρ,w,o,gd,ee,k⟩=>?_
 unfold vp at ee
 split at ee
 next d q0 ρ1 h1=>
  split at ee
  next i j rows hi hj er=>
   split at ee
   next m hm=>
    split at ee
    next row Bw=>
     split at ee
     next kk hk=>
      cases ee
      refine⟨ρ,w,0,d,q0,ρ1,gd,h1,fun v H1 w1 F1 g1 aJ r1=>?_⟩
      have rv:=r1.drop (o:=.f) (Qi 0)
      have gg:=g1.drop (t':=0)
      obtain⟨l,vs,b0,ws,m1,m2,m3,m4,m5,m6,mk⟩:=gg.Bv er Bw
      refine⟨_,m1,ρ1,bU 0 w1,0,i,gg,hi,.inl ⟨l,vs,i,.ref b0,rfl,rfl,m2,?_,ρ1,bU 0 w1,0,j,gg,hj,b0,ws,j,kk,rfl,rfl,m5,?_,?_⟩⟩
      ·unfold dC;rw[m3,hm];exact m4
      ·rw[<- m6.length];exact hk
      ·obtain⟨n1,n2⟩:=mk _ _ (m6.rH rv kk)
       exact k _ _ _ rfl n1 ((aJ.drop gd.wt).trans n2)
     ·cases ee
    ·cases ee
   ·cases ee
  ·cases ee
 ·cases ee⟩
end
@[simp] def yw (fa fb:aA):aA:=fun ρ=>match fa ρ with
 | some (.bl b,_,ρ1)=>if b=true then fb ρ1 else some (.bl false,9,ρ1)
 | _=>none
@[simp] def Bx (fa:aA):aA:=fun ρ=>match fa ρ with
 | some (.bl b,_,ρ1)=>some (.bl (!b),9,ρ1)
 | _=>none
section
variable {X:Cx}{a b c e:Expr}{es br:List Expr}{fa fb fc f:aA}{g:cy}{pos p p1 p2 az apos:Pos}
theorem FE{op}(h:QD X a fa):QD X (.BoolOp op [a] pos) fa:=⟨have h:=h.o;Lq h⟩
theorem FF(ha:QD X a fa)(hb:QD X (.BoolOp .And (b::br) pos) fb):QD X (.BoolOp .And (a::b::br) pos) (yw fa fb):=⟨have ha:=ha.o;have hb:=hb.o;PE.imp (Lr ha hb) fun σ H Q ai=>by
 obtain⟨ρ,w,t,r',q,ρ',gd,ee,k⟩:=ai
 unfold yw at ee
 split at ee
 next b' q1 ρ1 h1=>
  refine⟨ρ,w,t,_,_,_,gd,h1,fun v H1 w1 F1 g1 aJ r1=>?_⟩
  cases r1
  refine⟨b',rfl,?_⟩
  split at ee
  ·rename_i hb;rw[Qj hb]
   exact⟨ρ1,bU t w1,t,r',q,ρ',g1.drop,ee,fun v H2 w2 F g2 bY=>k v H2 w2 F g2 ((aJ.drop gd.wt).trans bY)⟩
  ·rename_i hb;rw[Qk hb]
   cases ee
   exact k _ H1 w1 [] g1 aJ (.bl false)
 ·cases ee⟩
theorem PR(ha:QD X a fa):QD X (.UnaryOp .Not a pos) (Bx fa):=⟨have ha:=ha.o;PE.imp (Ls ha) fun σ H Q ai=>by
 obtain⟨ρ,w,t,r',q,ρ',gd,ee,k⟩:=ai
 unfold Bx at ee
 split at ee
 next b' q1 ρ1 h1=>
  cases ee
  refine⟨ρ,w,t,_,_,_,gd,h1,fun v H1 w1 F1 g1 aJ r1=>?_⟩
  cases r1
  exact⟨b',rfl,k _ H1 w1 [] g1 aJ (.bl _)⟩
 ·cases ee⟩
end
section
variable {es br:List Expr}{a b c e:Expr}{pos:Pos}{env:Env}
theorem fL{op}:starEach (.BinOp a op b pos::br) env=(false,eval (.BinOp a op b pos) env)::starEach br env:=by simp only[starEach]
theorem PU:starEach (.IfExp a b c pos::br) env=(false,eval (.IfExp a b c pos) env)::starEach br env:=by simp only[starEach]
theorem rL{g sc}:starEach (.ListComp a g sc pos::br) env=(false,eval (.ListComp a g sc pos) env)::starEach br env:=by simp only[starEach]
theorem cu{k}:starEach (.Call a es k pos::br) env=(false,eval (.Call a es k pos) env)::starEach br env:=by simp only[starEach]
theorem rM{v k}:starEach (.Constant v k pos::br) env=(false,eval (.Constant v k pos) env)::starEach br env:=by simp only[starEach]
theorem fU:starEach (.Subscript a b pos::br) env=(false,eval (.Subscript a b pos) env)::starEach br env:=by simp only[starEach]
theorem dG{x}:starEach (.Name x pos::br) env=(false,eval (.Name x pos) env)::starEach br env:=by simp only[starEach]
theorem tY:starEach (.List es pos::br) env=(false,eval (.List es pos) env)::starEach br env:=by simp only[starEach]
theorem By{k}:starEach (.Tuple es k pos::br) env=(false,eval (.Tuple es k pos) env)::starEach br env:=by simp only[starEach]
end
def At (K:PySem.W.Frag)(mg:Str->Option Value)(x:Str)(st:Stmt)(ps:List Str):Prop:=
 ∃ f fd,lU K x x st f fd/\mg x=some (.ref f)/\pH K fd ps []
def ay (P:Program)(w:World)(K:PySem.W.Frag)(mg:Str->Option Value)(base:Heap)(k:Nat)(x:Str)(n:Nat)(F:List D->OD):Prop:=
 ∃ f fd ps,eG P w K mg base ju k f fd ps (kL K n F)/\mg x=some (.ref f)/\PySem.W.keepIn K (.ref f)=true/\pH K fd ps []
theorem ay.mk{w:World}{k:Nat}(a:At K mg x st ps)(S:af N ps (bu st))
  (h:∀ (f:Addr) (cz:Value) (A:Around) (outer:List Env) (s:Shared) (H:Hp) (E:XK),a_ k (A.deeper (envOfC x (bu st) s.heap.objs.size f cz))->yi (lP ju P w K mg base N x (bu st) f cz A outer s H E).nh (j8 st) body) :
  ay P w K mg base (k+1) x ps.length (bT N.length body):=by
 obtain⟨f,fd,F,m,b⟩:=a
 exact⟨f,fd,ps,E_ F S (h f),m,F.kp,b⟩
section
variable {X:Cx}{a b c e:Expr}{es br:List Expr}{fa fb fc f:aA}{g:cy}{pos p p1 p2 az apos:Pos}
theorem bq{j k:Nat}{F:List D->OD}(C:ay X.prog X.w X.K X.mg X.base k x n F)(hr:a_ j X.A)(hk:k<=j)(ha:gh X (e::es) g)(hg:Gl X x:=by rfl)(lO:(x==("__debug__":Str))=false:=by decide)(he:starEach (e::es) X.env=(false,eval e X.env)::starEach es X.env:=by rfl)(bS:(backTo pos (starEach es X.env)).any (·.1)=false:=by rfl):QD X (.Call (.Name x p) (e::es) [] pos) (aL F n g):=⟨have ha:=ha.o;by
 obtain⟨f,fd,ps,G,hm,Bz,hb⟩:=C
 exact OE G (hr.mono hk) hm Bz hb ED ha hg lO he bS⟩
end
theorem TB.only(h:Av H)(hn:∀ x∈tO,PySem.W.tabIn K x=none):TB K H:=by
 refine⟨fun P ps e=>?_,fun P ps e=>?_,fun x hx c P e=>by rw[hn x hx]at e;cases e⟩<;>rcases h P with z|⟨o,xs,z⟩<;>rw[e]at z<;>cases z
theorem PV{F:List D->OD}(h:∀ ns:List Int,ns.length<=63->∃ q,F [.lst (ns.map D.int)]=some (.bl true,q)){a:Addr}{ns:List Int}(hl:ns.length<=63)(hS:cH K H a (ns.map V.int))(tb:TB K H){E:XK} :
  kL K 1 F [.ref a] H (fun v _=>v=.bl true) E:=by
 obtain⟨q,e⟩:=h ns hl
 have r:Rep K H (fun _=>none) .f 0 (.lst (ns.map D.int)) (.ref a) []:=by
  rcases cH.cases hS with z|z
  ·exact .shr z rfl (yk ns)
  ·exact .kl z (yk ns)
 exact⟨rfl,[.lst (ns.map D.int)],fun _=>none,.bl true,q,(fun a o z=>nomatch z),⟨(fun a o z=>nomatch z),tb⟩,.cons (F:=[]) (G:=[]) r .nil nM,e,fun v H' w' Fo _ _ rr=>by cases rr;rfl⟩
theorem PX{w:World}{k:Nat}{f:Addr}{fd:FuncData}(F:lU K x x st f fd)(S:af N ps (bu st))
  (h:∀ (f:Addr) (cz:Value) (A:Around) (outer:List Env) (s:Shared) (H:Hp) (E:XK),a_ k (A.deeper (envOfC x (bu st) s.heap.objs.size f cz))->yi (lP ju P w K mg base N x (bu st) f cz A outer s H E).nh (j8 st) body) :
  eG P w K mg base ju (k+1) f fd ps (kL K ps.length (bT N.length body)):=E_ F S (h f)
section
variable {prog:Program}{w:World}{A:Around}{E:Value->Shared->Prop}{s:Shared}
theorem PY{vs:Array Value}{v:Value}(a:s.heap.IsTupleIter j p n)(b:s.heap.IsTuple p vs)(c:vs[n]? = some v)
  (k:∀ g:Heap,g.IsTupleIter j p (n+1)->Heap.SameBut j s.heap g->Q v { s with heap:=g }):wpAny (model prog w) A (Builtin.SmallTypes.nextOf (.ref j)) Q E s:=by
 obtain⟨oj,ej,kj,dj⟩:=id a
 obtain⟨op,ep,_,mp,dp⟩:=b
 unfold Builtin.SmallTypes.nextOf
 refine Qa (Zq (name:=Str.ofString "__next__") a.typeIs Ja (Zg Ja a.typeIs YZ ?_ (YN _)))
 show wpAny _ _ (field (.ref j) 0 >>= _) _ _ s
 refine Qa (J8 ej dj (x:=.ref p) rfl ?_)
 show wpAny _ _ (if(Value.ref p==Value.none)=true then _ else _) _ _ s
 rw[Qk (show ¬ ((Value.ref p==Value.none)=true)from Zi)]
 show wpAny _ _ (field (.ref j) 1 >>= _) _ _ s
 refine Qa (J8 ej dj (x:=.int n 0) rfl ?_)
 show wpAny _ _ (seqItems? (.ref p) >>= _) _ _ s
 refine Qa (Y7 ep dp ?_)
 simp only[Yi,c]
 refine Qa (Y8 ej dj (by simp) (Qe ⟨v,rfl,Qe (k _ ⟨_,Zw _ ej (Obj.isFreed_of_fields (J5 dj _)),(Obj.cls_mapFields ..).trans kj,?_⟩ (Q1 ..))⟩))
 rw[J5 dj]
 simp[rawInt]
theorem PZ{vs:Array Value}{Q:Value->Shared->Prop}(hh:A.handled=none)(a:s.heap.IsTupleIter j p n)(b:s.heap.IsTuple p vs)(c:vs[n]? = none)
  (k:∀ (g:Heap) x,Heap.ExtBut j s.heap g->(∃ o,g.get? x=some o/\o.cls=.type "StopIteration")->E (.ref x) { s with heap:=g }):wpAny (model prog w) A (Builtin.SmallTypes.nextOf (.ref j)) Q E s:=by
 obtain⟨oj,ej,kj,dj⟩:=id a
 obtain⟨op,ep,_,mp,dp⟩:=b
 unfold Builtin.SmallTypes.nextOf
 refine Qa (Zq (name:=Str.ofString "__next__") a.typeIs Ja (Zg Ja a.typeIs YZ ?_ (YN _)))
 show wpAny _ _ (field (.ref j) 0 >>= _) _ _ s
 refine Qa (J8 ej dj (x:=.ref p) rfl ?_)
 show wpAny _ _ (if(Value.ref p==Value.none)=true then _ else _) _ _ s
 rw[Qk (show ¬ ((Value.ref p==Value.none)=true)from Zi)]
 show wpAny _ _ (field (.ref j) 1 >>= _) _ _ s
 refine Qa (J8 ej dj (x:=.int n 0) rfl ?_)
 show wpAny _ _ (seqItems? (.ref p) >>= _) _ _ s
 refine Qa (Y7 ep dp ?_)
 simp only[Yi,c]
 refine Qa (Yu (Qa (Y8 ej dj (by simp) ?_)))
 show wpAny _ _ (newExc (.type "StopIteration") [] >>= _) _ _ _;refine Qa ?_;simp only[newExc,newTuple]
 refine Qa (Q6 ?_ (by size_fits));refine Qa (m:=firstArgMember _ _) (V0 (a:=Value.none) (by first|rfl|(simp only[firstArgMember];rfl)) (Q6 ?_ (by size_fits)))
 simp only[raiseNew]
 refine Qa (wpAny_handled ?_);first|rw[show A.in1.handled=none from hh]|rw[hh]
 exact Qa (Qe (wpAny_throw (k _ _ (((Q1 ..).extBut.push _).push _) ⟨_,Qs _ rfl,rfl⟩)))
end
theorem P1{pins:List (Addr×Obj)}{s:Shared}{h':Heap}{t':Nat}{ch:List Addr}(I:Inv X pins σ H s)(k:∀ b o,b ∉ ch->s.heap.get? b=some o->h'.get? b=some o)(hf:∀ b∈ch,lL X pins H b) :
  Inv X pins σ H { s with heap:=h',toks:=t' }:=by
 have uM:∀ b u,H b=some u->b ∉ ch:=fun b u e z=>by rw[(hf b z).1]at e;cases e
 refine I.step (g':=s.gens) (d':=s.drawn) (ch:=ch) (fun b hb=>?_) (fun b o _ _ hc e _=>k b o hc e) (fun b o _ _ hc e _=>⟨o.slots,k b o hc e⟩) (fun _ _ _ _ n=>n)
  (fun b o hc e=>⟨o,k b o hc e⟩) (fun _ _ e=>e) (fun _ _ _ e=>e) (fun b ps e=>⟨#[],by rw[e];simp⟩) (fun m hm=>?_) (fun b u e=>?_) I.bare
 ·obtain⟨f0,f1,f2,f3,f4,f5⟩:=hf b hb
  exact⟨f3,f1,f4,f5⟩
 ·obtain⟨o,es,ep,ho,r⟩:=hm
  exact⟨o,es,ep,k _ o (fun z=>(hf _ z).2.1 rfl) ho,r⟩
 ·refine(I.aB b u e).ip (fun c v hc q=>k c v ?_ q) (fun _ q=>q) fun _ _ q=>q
  rcases hc with z|z
  ·rw[z];exact uM b u e
  ·exact uM c _ z
section
variable {X:Cx}{a b c e:Expr}{es elts:List Expr}{fa fb fc f:aA}{g:cy}{pos p p1 p2 tp:Pos}{kt:Nat}
@[simp] def j9c (g:cy):jP:=fun ρ=>match g ρ with
 | some ([.tup ds,.tup es],ρ1)=>if ds.length<=1000 then some ((ds.zip es).map fun x=>.tup [x.1,x.2],ρ1)else none
 | _=>none
end
abbrev oK:=List D->aQ->Option aQ
def P2 (K:PySem.W.Frag)(b:Nat)(pt:oK):nY:=fun vs σ H Q=>∃ ds ρ w t ρ',Good K ρ σ H w t/\ae K H w .f 0 ds vs []/\pt ds ρ=some ρ'/\∀ aK H' w',aK.length=σ.length->(∀ i,i<b->aK[i]? = σ[i]?)->Good K ρ' aK H' w' t->Go H w H' w'->Q aK H'
theorem ni.imp{tg:List Expr}{t t':nY}(h:ni X tg t)(i:∀ v σ H Q,t' v σ H Q->t v σ H Q):ni X tg t':=fun pins s σ H v u Q I r q=>h pins s σ H v u Q I r (i v σ H Q q)
abbrev P4 (X:Cx)(b:Nat)(tg:List Expr)(pt:oK):Prop:=ni X tg (P2 X.K b pt)
structure oM (X:Cx) (b:Nat) (e:List Expr) (f:oK):Prop where mk::o:P4 X b e f
@[simp] def iH:oK:=fun ds ρ=>match ds with
 | []=>some ρ
 | _=>none
@[simp] def cE (pt:eT)(ps:oK):oK:=fun ds ρ=>match ds with
 | []=>none
 | d::r=>match pt d ρ with
  | some ρ1=>ps r ρ1
  | none=>none
@[simp] def jc (ps:oK):eT:=fun d ρ=>match d with
 | .tup ds=>ps ds ρ
 | _=>none
section
variable {X:Cx}{k b:Nat}{e:Expr}{es:List Expr}{pt:eT}{ps:oK}{pos:Pos}
theorem rN:oM X b [] iH:=⟨ni.imp LO fun v σ H Q ai=>by
 obtain⟨ds,ρ,w,t,ρ',g,r,e,k⟩:=ai
 unfold iH at e
 split at e
 ·cases e
  generalize hF:([]:List Addr)=F at r
  cases r
  exact⟨rfl,k σ H w rfl (fun _ _=>rfl) g Go.refl⟩
 ·cases e⟩
theorem jA(h1:rC X b e pt)(h2:oM X b es ps)(hs:(assignEach (e::es) X.env).map (·.2)=assign e X.env::(assignEach es X.env).map (·.2):=by rfl):oM X b (e::es) (cE pt ps):=⟨have h1:=h1.o;have h2:=h2.o;ni.imp (LP h1 h2 hs) fun v σ H Q ai=>by
 obtain⟨ds,ρ,w,t,ρ',g,r,e,k⟩:=ai
 unfold cE at e
 split at e
 ·cases e
 next d br=>
  split at e
  next ρ1 h1=>
   generalize hF:([]:List Addr)=F at r
   cases r with
   | cons ra rb _=>
    have z1:=ra.zero
    have z2:=rb.zero
    subst z1 z2
    refine⟨_,_,rfl,d,ρ,w,t,ρ1,g,ra,h1,fun qP H1 w1 l1 s1 g1 aJ=>⟨br,ρ1,w1,t,ρ',g1,rb.oD g.wl aJ.bJ,e,fun lM H2 w2 l2 s2 g2 bY=>k lM H2 w2 (l2.trans l1) (fun i hi=>(s2 i hi).trans (s1 i hi)) g2 (aJ.trans bY)⟩⟩
  ·cases e⟩
theorem rO(hc:X.calm=true)(h:oM X b es ps)(hl:∀ ds ρ ρ',ps ds ρ=some ρ'->ds.length=n)(hn:(assignEach es X.env).length=n:=by rfl)(iR:(assignEach es X.env).findIdx? (·.1)=none:=by rfl):rC X b (.Tuple es k pos) (jc ps):=⟨have h:=h.o;PG.imp (LR hc h hn iR) fun v σ H Q ai=>by
 obtain⟨d,ρ,w,t,ρ',g,r,e,k⟩:=ai
 unfold jc at e
 split at e
 next ds=>
  obtain⟨a,vs,rfl,hq,rs⟩:=r.eJ
  exact⟨a,vs,rfl,hq,by rw[<- rs.length];exact hl _ _ _ e,ds,ρ,w,t,ρ',g,rs,e,k⟩
 ·cases e⟩
theorem vq{p q:eT}:∀ ds ρ ρ',cE p (cE q iH) ds ρ=some ρ'->ds.length=2:=fun ds ρ ρ' h=>by
 match ds with
 | []=>cases h
 | [_]=>unfold cE at h;simp at h;split at h<;>cases h
 | [_,_]=>rfl
 | _::_::_::_=>
  exfalso
  unfold cE at h
  simp at h
  split at h
  ·split at h<;>cases h
  ·cases h
end
theorem FG:∀ {bs:List Bool} {us:List Value},bc (bs.map V.bl) us->LSm.BoolsAre us bs
 | [],_,h=>by cases h;exact .nil
 | b::bs,_,h=>by
  cases h with
  | cons r rr=>
   cases r
   exact .cons b (FG rr)
section
variable {X:Cx}{a b c e:Expr}{es:List Expr}{fa fb fc f:aA}{g:cy}{pos p p1 p2:Pos}
theorem P5(hc:X.calm=true):jt X (.builtin "all") (fun xs H Q=>∃ (a:Addr) (bs:List Bool),xs=[.ref a]/\cH X.K H a (bs.map V.bl)/\Q (.bl (bs.all id)) H):=by
 intro pins s σ H xs us Q I r h
 obtain⟨l,bs,rfl,hq,q⟩:=h
 obtain⟨u,rfl,ru⟩:=j4 r
 cases ru
 obtain⟨aj,rv,pl,hz⟩:=I.list hq
 have hb:=FG rv
 have hl:s.heap.IsList l aj.toArray:=pl.isList
 have lt:l<s.heap.objs.size:=by obtain⟨_,e,_⟩:=hl;exact Qp e
 refine call_all_walk (Vj hl ⟨s.heap.objs.size,[s.heap.objs.size,l],[s.heap.objs.size],aj.toArray.size,_,_,fun i=>(bs[i]?).getD true,rfl,Walks.list (A:=X.A.in1) (I.ok.hd hc) _ l (QP lt) aj.toArray,
  ⟨⟨_,Qs _ rfl,rfl,rfl⟩,hl.push _⟩,fun i v s' Q' E' hP hQ=>?_,fun h' tk hk=>?_⟩)
 ·obtain⟨b,e,rfl⟩:=hb.get i v (by simpa using hP)
  simp only[e,Option.getD_some]at hQ
  exact ZT hQ
 ·have e:((List.range aj.toArray.size).all fun i=>(bs[i]?).getD true)=bs.all id:=by
   rw[Qm,hb.length];exact LSm.range_all bs
  rw[e]
  exact⟨.bl (bs.all id),H,I.kept fun b o z=>hk b o (fun m=>by rw[Qq.mp m]at z;exact Q0 _ (Qp z)) (Qd _ z),rfl,q⟩
def p6:List D->Option (List Bool)
 | []=>some []
 | .bl b::r=>(p6 r).map (b :: ·)
 | _=>none
def tZ:List D->Option D
 | [.lst ds]=>(p6 ds).map fun bs=>.bl (bs.all id)
 | _=>none
theorem FH:∀ {ds:List D} {vs:List V} {bs:List Bool},ae K H w o 0 ds vs []->p6 ds=some bs->vs=bs.map V.bl
 | ds,vs,bs,r,e=>by
  generalize hF:([]:List Addr)=F at r
  cases r with
  | nil=>cases e;rfl
  | @cons _ d v ck eS F' G' r1 r2 _=>
   have h2:G'=[]:=r2.zero
   subst h2
   cases r1 with
   | bl b=>
    unfold p6 at e
    cases e':p6 ck with
    | none=>rw[e']at e;cases e
    | some nH=>
     rw[e']at e
     cases e
     rw[FH r2 e']
     rfl
   | _=>cases e
theorem P6(hc:X.calm=true)(hm:X.mg "all" = none)(ha:gh X [a] g)(hg:Gl X "all":=by rfl)(he:starEach [a] X.env=(false,eval a X.env)::starEach [] X.env:=by rfl)(bS:(backTo pos (starEach [] X.env)).any (·.1)=false:=by rfl):QD X (.Call (.Name "all" p) [a] [] pos) (eB tZ g):=⟨have ha:=ha.o;PE.imp (n9 (P5 hc) hg hm PyProof.Rows.boot_all ha (by decide) (by decide) he bS) (yq fun ds d h=>by
  unfold tZ at h
  split at h
  next P7=>
   cases e:p6 P7 with
   | none=>rw[e]at h;cases h
   | some bs=>
    rw[e]at h
    cases h
    refine⟨_,rfl,fun H w vs wl r Q hq=>?_⟩
    obtain⟨v,rfl,rv⟩:=one r
    obtain⟨p,ys,rfl,hs,rs⟩:=rv.gf
    rw[FH rs e]at hs
    exact⟨p,bs,rfl,hs,hq⟩
  ·cases h)⟩
theorem P8{α:Type}(l:List α)(f:α->Bool):p6 (l.map fun i=>.bl (f i))=some (l.map f):=by
 induction l with
 | nil=>rfl
 | cons a l ih=>rw[QG,p6,ih];rfl
end
inductive IT where
 | int|bool|tuple|list|str
def IT.nm:IT->String
 | .int=>"int"
 | .bool=>"bool"
 | .tuple=>"tuple"
 | .list=>"list"
 | .str=>"str"
def mi:IT->D->Bool
 | .int,.int _=>true
 | .int,.bl _=>true
 | .bool,.bl _=>true
 | .tuple,.tup _=>true
 | .list,.lst _=>true
 | .str,.str _=>true
 | _,_=>false
def FI:D->String
 | .bo=>"NoneType"
 | .bl _=>"bool"
 | .int _=>"int"
 | .str _=>"str"
 | .tup _=>"tuple"
 | .gH _ _=>"dict"
 | .exc _=>"object"
 | .ob _ _ _ _=>"function"
 | .mp _ _=>"dict"
 | .lst _=>"list"
section
variable {X:Cx}{pins:List (Addr×Obj)}{σ:St}{H:Hp}{s:Shared}
theorem P9{x:V}{c:Value}{b:Bool}{A:Around}{E:Value->Shared->Prop}(I:Inv X pins σ H s)(rx:bw x u)(r:Rep X.K H w o q d x F)
  (e:PySem.W.kitOne X.K (.type (FI d)) c=some b) (hx:∀ nm,d ≠ .exc nm) (hi:∀ C fs ds,d ≠ .mp (.i C fs) ds) (h:∀ tk,Q (.bool b) { s with toks:=tk }):wpAny (model X.prog X.w) A (call (.builtin "isinstance") [u,c]) Q E s:=by
 cases r with
 | exc _ _ _=>exact absurd rfl (hx _)
 | ob h1 h2 x r=>
  cases rx
  obtain⟨e1,_⟩:=(show cZ X.prog X.w H s.heap _ (.fF _ _)from I.aB _ _ h1)
  exact Zo Ou I.gP ⟨_,e1,x.1⟩ e (fun z=>nomatch z) h
 | bo=>exact jK I rx .bo e h
 | bl y=>exact jK I rx (.bl y) e h
 | int i=>exact jK I rx (.int i) e h
 | str y=>exact jK I rx (.str y) e h
 | tup ha _=>exact jK I rx (.tup ha) e h
 | gH ha _ _=>exact jK I rx (.dK ha) e h
 | kl ha _=>
  obtain⟨ob,aj,n,hk,hc,hd,_⟩:=ha
  cases rx
  exact Zo Vh I.gP ⟨ob,I.gP _ _ hk,hc⟩ e (fun z=>nomatch z) h
 | shr ha _ _=>
  rcases ha with ha|⟨ob,ha⟩
  ·exact jK I rx (.lst ha) e h
  ·exact jK I rx (.fF ha) e h
 | own ha _ _ _=>exact jK I rx (.lst ha) e h
 | @nu a vs ds k y ha i _ _ _=>
  cases k with
  | t ks=>cases i;exact jK I rx (.dT ha) e h
  | k ks=>cases i;exact jK I rx (.dK ha) e h
  | i C fs=>exact absurd rfl (hi _ _ _)
 | @kK q a vs ds k y ha i _ _ _=>
  cases k with
  | t ks=>cases i;exact jK I rx (.dT ha) e h
  | k ks=>cases i;exact jK I rx (.dK ha) e h
  | i C fs=>exact absurd rfl (hi _ _ _)
theorem P_{C:Addr}{fs:List Str}{x:V}{A:Around}{E:Value->Shared->Prop}(I:Inv X pins σ H s)(rx:bw x u)(r:Rep X.K H w o q (.mp (.i C fs) ds) x F)
  (T:IT) (h:∀ tk,Q (.bool false) { s with toks:=tk }):wpAny (model X.prog X.w) A (call (.builtin "isinstance") [u,.type T.nm]) Q E s:=by
 cases r with
 | nu ha i _ _ _=>
  obtain⟨dx,rfl,c⟩:=i
  exact jK I rx (.ins ha c.cl c.ha c.hn c.uQ c.hm) (c.no _ (by cases T<;>simp[IT.nm])) h
 | kK ha i _ _ _=>
  obtain⟨dx,rfl,c⟩:=i
  exact jK I rx (.ins ha c.cl c.ha c.hn c.uQ c.hm) (c.no _ (by cases T<;>simp[IT.nm])) h
theorem Q_(T:IT)(d:D)(hx:∀ nm,d ≠ .exc nm):PySem.W.kitOne K (.type (FI d)) (.type T.nm)=some (mi T d):=by
 cases T<;>cases d<;>first|rfl|exact absurd rfl (hx _)
end
section
variable {X:Cx}{a b c e:Expr}{es:List Expr}{fa fb fc f:aA}{ga gb:cO}{g:cy}{pos p p1 p2 pT:Pos}
theorem Ra(T:IT):jt X (.builtin "isinstance") (fun xs H Q=>∃ x w o q F d,xs=[x,.ty T.nm]/\Rep X.K H w o q d x F/\Q (.bl (mi T d)) H):=by
 intro pins s σ H xs us Q I r h
 obtain⟨x,w,o,q,F,d,rfl,rd,hq⟩:=h
 obtain⟨u,v,rfl,ru,rv⟩:=Eb r
 cases rv
 by_cases hx:∃ nm,d=.exc nm
 ·obtain⟨nm,rfl⟩:=hx
  cases rd with
  | exc ha xo _=>
   obtain⟨C,hc,k⟩:=xo
   cases ru
   obtain⟨e1,_⟩:=(show cZ X.prog X.w H s.heap _ (.fF _ _)from I.aB _ _ ha)
   have hT:mi T (.exc nm)=false:=by cases T<;>rfl
   rw[hT]at hq
   refine Og (x:=_) I.gP ⟨e1,hc⟩ k.xc (by cases T<;>kernel_rfl) (k.no _ (by cases T<;>simp[IT.nm])) ⟨.bl false,H,I.tok _,rfl,hq⟩
 ·by_cases hi:∃ C fs ds,d=.mp (.i C fs) ds
  ·obtain⟨C,fs,ds,rfl⟩:=hi
   exact P_ I ru rd T fun tk=>⟨.bl (mi T (.mp (.i C fs) ds)),H,I.tok _,by cases T<;>rfl,hq⟩
  ·exact P9 I ru rd (Q_ T d fun nm z=>hx ⟨nm,z⟩) (fun nm z=>hx ⟨nm,z⟩) (fun C fs ds z=>hi ⟨C,fs,ds,z⟩) fun tk=>⟨.bl (mi T d),H,I.tok _,rfl,hq⟩
@[simp] def t4 (T:IT)(fa:aA):aA:=fun ρ=>match fa ρ with
 | some (d,_,ρ1)=>some (.bl (mi T d),9,ρ1)
 | none=>none
theorem yx(T:IT){t:Str}(hm:X.mg "isinstance" = none)(Rb:X.mg t=none)(Rc:bootBuiltins t=some (.type T.nm))(ha:QD X a fa)(hg:Gl X "isinstance":=by rfl)(Rf:Gl X t:=by rfl)(Rg:t ≠ "__name__":=by decide)(Rh:(t==("__debug__":Str))=false:=by decide)(hs:starEach [a,.Name t pT] X.env=(false,eval a X.env)::starEach [.Name t pT] X.env:=by rfl)(bS:(backTo pos (starEach [.Name t pT] X.env)).any (·.1)=false:=by rfl):QD X (.Call (.Name "isinstance" p) [a,.Name t pT] [] pos) (t4 T fa):=⟨have ha:=ha.o;PE.imp (n9 (Ra T) hg hm PyProof.Rows.boot_isinstance (i8 ha (i8 (Ld (v:=.ty T.nm) Rf Rb Rc rfl Rg Rh) j5 dG) hs) (by decide) (by decide) hs bS) fun σ H Q ai=>by
 obtain⟨ρ,w,t,r',q,ρ',gd,ee,k⟩:=ai
 unfold t4 at ee
 split at ee
 next d q1 ρ1 h1=>
  cases ee
  refine⟨ρ,w,t,_,_,_,gd,h1,fun v H1 w1 F1 g1 aJ r1=>?_⟩
  exact⟨v,w1,_,_,F1,d,rfl,r1,k _ H1 (bU t w1) [] g1.drop.up (aJ.drop gd.wt) (.bl _)⟩
 ·cases ee⟩
@[simp] def t5 (g1 g2:D->D->Option D)(fa fb fc:aA):aA:=fun ρ=>match fa ρ with
 | some (x,_,ρ1)=>match fb ρ1 with
  | some (y,_,ρ2)=>match g1 x y with
   | some (.bl true)=>match fc ρ2 with
    | some (z,_,fS)=>match g2 y z with
     | some d=>some (d,9,fS)
     | none=>none
    | none=>none
   | some (.bl false)=>some (.bl false,9,ρ2)
   | _=>none
  | none=>none
 | none=>none
theorem Ri{op qS:CmpOp}{g1 g2:Int->Int->Option D}{h1 h2:Int->Int->V}(ho:df X (compareOp op) (n4 h1))(iw:df X (compareOp qS) (n4 h2))(e1:∀ i j d,g1 i j=some d->oz d=some (h1 i j))(kQ:∀ i j d,g2 i j=some d->oz d=some (h2 i j))
  (ha:PD X a fa) (hb:PD X b fb) (hc:PD X c fc) (hm:lastMarks [op,qS] [b,c]=false:=by with_unfolding_all rfl):PD X (.Compare a [op,qS] [b,c] pos) (t5 (gI g1) (gI g2) fa fb fc):=PE.imp (Mi ho iw ha hb hc hm) fun σ H Q ai=>by
 obtain⟨ρ,w,t,r',q,ρ',gd,ee,k⟩:=ai
 unfold t5 at ee
 split at ee
 next x q1 ρ1 a1=>
  split at ee
  next y q2 ρ2 a2=>
   refine rl gd a1 a2 fun u v H2 w2 F1 F2 FJ bY r1 r2=>?_
   have gg:=FJ.drop (t':=t)
   split at ee
   next hg=>
    obtain⟨i,j,rfl,rfl,kR⟩:=vc hg
    refine⟨i,j,fH r1,fH r2,true,by have:=e1 i j _ kR;simpa [oz]using this.symm,?_⟩
    rw[Qj rfl]
    split at ee
    next z q3 fS a3=>
     refine⟨ρ2,bU t w2,t,z,q3,fS,gg,a3,fun v3 H3 w3 F3 g3 kN r3=>?_⟩
     split at ee
     next d hd=>
      cases ee
      obtain⟨j',l,ej,rfl,jq⟩:=vc hd
      cases ej
      exact⟨j,l,fH r2,fH r3,ou k gd g3 ((bY.drop gd.wt).trans kN) (Ba (kQ j l _ jq))⟩
     ·cases ee
    ·cases ee
   next hg=>
    obtain⟨i,j,rfl,rfl,kR⟩:=vc hg
    cases ee
    refine⟨i,j,fH r1,fH r2,false,by have:=e1 i j _ kR;simpa [oz]using this.symm,?_⟩
    rw[Qk (by decide)]
    exact ou k gd FJ bY (.bl false)
   ·cases ee
  ·cases ee
 ·cases ee
theorem Rj(ha:QD X a fa)(hb:QD X b fb)(hc:QD X c fc)(hm:lastMarks [.LtE,.Lt] [b,c]=false:=by with_unfolding_all rfl):QD X (.Compare a [.LtE,.Lt] [b,c] pos) (t5 E6 l9 fa fb fc):=⟨have ha:=ha.o;have hb:=hb.o;have hc:=hc.o;Ri Mf D7 (fun i j d h=>by cases h;rfl) (fun i j d h=>by cases h;rfl) ha hb hc hm⟩
@[simp] def j9g (fa:aA):aA:=fun ρ=>match fa ρ with
 | some (.int i,_,ρ1)=>some (.int (-i),9,ρ1)
 | _=>none
section
variable {prog:Program}{w:World}{A:Around}{E:Value->Shared->Prop}{s:Shared}
theorem Rk(l b:Addr)(us vs:Array Value)(n m:Nat)(d1 d2:Option Addr)(s1 s2:Array (Option Value))(h0:us.isEmpty=true) :
  Meets (Builtin.«tuple.__add__» ⟨[.ref l,.ref b],[]⟩) (fun _ R s=>s.heap.get? l=some { cls:=.type "tuple",dict:=d1,data:=.seq us n,slots:=s1 }/\s.heap.get? b=some { cls:=.type "tuple",dict:=d2,data:=.seq vs m,slots:=s2 }/\R (.ok (.ret (.ref b))) s):=
 .of_wp fun prog w A R s h=>by
  obtain⟨hp,g,d,tk,os⟩:=s
  obtain⟨hl,hb,h⟩:=h
  have f2:=AutoSeq1.sub_tuple_tuple
  wp_walk using wpAny_loadPart' hl,wpAny_loadPart' hb
  exact⟨_,rfl,h⟩
theorem Rl{t b:Addr}{ws:List Value}(ht:IsTup s.heap t #[])(hb:IsTup s.heap b ws.toArray)(h:Q (.ref b) s):wpAny (model prog w) A (binaryOp .Add (.ref t) (.ref b)) Q E s:=by
 obtain⟨⟨c1,d1,a1,s1⟩,e1,pY,n1,vt⟩:=id ht
 obtain⟨⟨c2,d2,a2,s2⟩,e2,nq,n2,FK⟩:=id hb
 simp only at pY vt nq FK
 subst pY vt nq FK
 exact VC ⟨_,e1,rfl⟩ ⟨_,e2,rfl⟩ Vu seq_tuple_add Yf J7 (JW _ _) (Rk t b #[] ws.toArray n1 n2 d1 d2 s1 s2 rfl) ⟨e1,e2,h⟩
end
theorem Rm:df X (binaryOp .Add) (fun x y H Q=>∃ a b ys,x=.ref a/\y=.ref b/\cR X.K H a []/\cR X.K H b ys/\Q (.ref b) H):=by
 intro pins s σ H x y v u Q I rx ry h
 obtain⟨a,b,ys,rfl,rfl,ha,hb,q⟩:=h
 cases rx
 cases ry
 obtain⟨aj,r1,p1,_⟩:=I.tuple ha
 obtain⟨gR,r2,p2,_⟩:=I.tuple hb
 cases r1
 exact Rl p1 p2 ⟨.ref b,H,I,rfl,q⟩
theorem df.or{f:Value->Value->Sem Value}{r r':R2}(h:df X f r)(h':df X f r'):df X f (fun x y H Q=>r x y H Q\/r' x y H Q):=fun pins s σ H x y v u Q I rx ry q=>q.elim (fun z=>h pins s σ H x y v u Q I rx ry z) fun z=>h' pins s σ H x y v u Q I rx ry z
@[simp] def yy (fa fb:aA):aA:=fun ρ=>match fa ρ with
 | some (.tup ds,_,ρ1)=>match fb ρ1 with
  | some (.tup es,_,ρ2)=>if ds.length+es.length<=1000 then some (.tup (ds++es),9,ρ2)else none
  | _=>none
 | _=>none
theorem FL(ha:QD X a fa)(hb:QD X b fb):QD X (.BinOp a .Add b pos) (yy fa fb):=⟨have ha:=ha.o;have hb:=hb.o;PE.imp (pF (df.or Rm MR) ha hb) fun σ H Q ai=>by
 obtain⟨ρ,w,t,r',q,ρ',gd,ee,k⟩:=ai
 unfold yy at ee
 split at ee
 next ds q1 ρ1 h1=>
  split at ee
  next es q2 ρ2 h2=>
   split at ee
   next hl=>
    cases ee
    refine rl gd h1 h2 fun u u' H2 w2 F1 F2 g2 go r1 r2=>?_
    have rP:=r1.drop (o:=.f) (Qi t)
    have yz:=r2.drop (o:=.f) (Jw t)
    have gg:=g2.drop (t':=t)
    have p7:=go.drop gd.wt
    obtain⟨p1,vs,rfl,oN,s1⟩:=rP.eJ
    obtain⟨p2,us,rfl,yA,s2⟩:=yz.eJ
    have l1:=s1.length
    have l2:=s2.length
    cases ds with
    | nil=>
     have:vs=[]:=Zj.mp (by rw[<- l1];rfl)
     subst this
     refine .inl ⟨p1,p2,us,rfl,rfl,oN,yA,k _ H2 (bU t w2) [] gg.up p7 ?_⟩
     exact(Rep.go gg.wl (fun a x e n=>⟨sm e,n⟩) yz nM:Rep X.K H2 (bU t w2) (.t t) 0 _ _ []).cV rfl |>.2 9
    | cons d ds=>
     refine .inr ⟨p1,p2,vs,us,rfl,rfl,oN,yA,(fun z=>by rw[z]at l1;cases l1),pS (by rw[<- l1,<- l2];exact hl),fun z=>?_,fun _ p hp=>?_⟩
     ·have:es=[]:=Zj.mp (by rw[l2,z];rfl)
      subst this
      rw[ZX]at k
      exact k _ H2 (bU t w2) [] gg.up p7 ((Rep.go gg.wl (fun a x e n=>⟨sm e,n⟩) rP nM:Rep X.K H2 (bU t w2) (.t t) 0 _ _ []).cV rfl |>.2 9)
     ·obtain⟨a1,a2,a3⟩:=tR gg hp (s2.app s1)
      exact k _ _ _ _ a1 (p7.trans a2) a3
   ·cases ee
  ·cases ee
 ·cases ee⟩
abbrev rQ:=aQ->Option (Option Int×aQ)
def Rn (K:PySem.W.Frag)(f:rQ):TO:=fun σ H Q=>∃ ρ w t o ρ',Good K ρ σ H w t/\f ρ=some (o,ρ')/\∀ H' w',Good K ρ' σ H' w' t->Go H w H' w'->Q o H'
abbrev Ro (X:Cx)(e:Option Expr)(f:rQ):Prop:=PO X e (Rn X.K f)
structure yB (X:Cx) (e:Option Expr) (f:rQ):Prop where mk::o:Ro X e f
@[simp] def BA:rQ:=fun ρ=>some (none,ρ)
@[simp] def yC (f:aA):rQ:=fun ρ=>match f ρ with
 | some (.int i,_,ρ1)=>some (some i,ρ1)
 | _=>none
theorem PO.imp{e:Option Expr}{t t':TO}(h:PO X e t)(i:∀ σ H Q,t' σ H Q->t σ H Q):PO X e t':=fun pins s σ H Q I q=>h pins s σ H Q I (i σ H Q q)
theorem FN:yB X none BA:=⟨PO.imp MJ fun σ H Q ai=>by
 obtain⟨ρ,w,t,o,ρ',gd,ee,k⟩:=ai
 cases ee
 exact k H w gd Go.refl⟩
theorem FO(h:QD X e f):yB X (some e) (yC f):=⟨have h:=h.o;PO.imp (ML h) fun σ H Q ai=>by
 obtain⟨ρ,w,t,o,ρ',gd,ee,k⟩:=ai
 unfold yC at ee
 split at ee
 next i q1 ρ1 h1=>
  cases ee
  exact⟨ρ,w,t,_,_,_,gd,h1,fun v H1 w1 F1 g1 aJ r1=>⟨i,fH r1,k H1 (bU t w1) g1.drop (aJ.drop gd.wt)⟩⟩
 ·cases ee⟩
section
variable {prog:Program}{w:World}{A:Around}{E:Value->Shared->Prop}{s:Shared}
theorem Rp{t sl:Addr}{us:Array Value}{vl vu:Value}{lo hi:Option Int}(ht:IsTup s.heap t us)(hs:s.heap.IsSliceOf sl vl vu .none)(pl:IsPart vl lo)(pu:IsPart vu hi)
  (hw:HT.bp us.size 0 lo=0/\HT.bp us.size us.size hi=us.size) (h:Q (.ref t) s):wpAny (model prog w) A (getItem (.ref t) (.ref sl)) Q E s:=by
 obtain⟨os,qW,xG,uT⟩:=id hs
 have ts:s.TypeIs (.ref sl) "slice":=⟨os,qW,xG⟩
 unfold getItem
 try with_reducible refine Q4 ?_
 first|refine Qa (Qe ?_)|skip
 refine Qa (wpAny_sequenceKey ht.typeIs (by decide) (Qa (Zq (name:=Str.ofString "__getitem__") ht.typeIs Zm (Zg Zm ht.typeIs entry_tuple_getitem ?_ (args_tuple_getitem _ _)))))
 show wpAny _ _ (Builtin.Tuple.tupleItemsOf (.ref t) >>= _) _ _ s
 refine Qa (tupleItemsOf_ ht (Qa (JP ts ?_)))
 rw[Qj (by decide)]
 refine Qa (HT.En hs pl pu ?_)
 have yes:(((HT.bp us.size 0 lo:Nat):Int)==0&&(1:Int)==1&&(HT.bp us.size us.size hi-HT.bp us.size 0 lo)==us.size)=true:=by rw[hw.1,hw.2];simp
 show wpAny _ _ (if(((HT.bp us.size 0 lo:Nat):Int)==0&&(1:Int)==1&&(HT.bp us.size us.size hi-HT.bp us.size 0 lo)==us.size)=true then _ else _) _ _ s
 rw[Qj yes]
 refine Qa (m:=Builtin.Tuple.tupleIsExact _) ?_
 unfold Builtin.Tuple.tupleIsExact
 refine Qa (JP ht.typeIs (Qe ?_))
 rw[Qj (by decide)]
 exact Qa (Yu (Qe ⟨_,rfl,Qe h⟩))
end
def oO (xs:List D)(lo hi:Option Int):List D:=(xs.drop (HT.bp xs.length 0 lo)).take (HT.bp xs.length xs.length hi-HT.bp xs.length 0 lo)
@[simp] def yD (fa:aA)(fl fh:rQ):aA:=fun ρ=>match fa ρ with
 | some (.tup ds,_,ρ1)=>match fl ρ1 with
  | some (lo,ρ2)=>match fh ρ2 with
   | some (hi,fS)=>some (.tup (oO ds lo hi),9,fS)
   | none=>none
  | none=>none
 | _=>none
theorem ae.p_:∀ {ds:List D} {vs:List V} (i:Nat),ae K H w .f 0 ds vs []->ae K H w .f 0 (ds.take i) (vs.take i) []
 | _,_,0,_=>by rw[V1,V1];exact .nil
 | ds,vs,i+1,r=>by
  generalize hF:([]:List Addr)=F at r
  cases r with
  | nil=>exact .nil
  | cons r s _=>
   have h2:=s.zero
   have h1:=r.zero
   subst h2
   subst h1
   exact .cons (F:=[]) (G:=[]) r (ae.p_ i s) nM
theorem Rq:pK X (fun x lo hi H Q=>∃ a xs,x=.ref a/\cR X.K H a xs/\(HT.bp xs.length 0 lo=0/\HT.bp xs.length xs.length hi=xs.length)/\Q (.ref a) H):=by
 intro pins s σ H x v vl vu lo hi sl Q I rx hs pl pu h
 obtain⟨a,xs,rfl,hx,hw,q⟩:=h
 cases rx
 obtain⟨aj,r,ht,hz⟩:=I.tuple hx
 have hlen:aj.toArray.size=xs.length:=by rw[Qm];exact r.length.symm
 exact⟨"tuple",_,Zm.lookup,ht.typeIs,Rp ht hs pl pu (by rw[hlen];exact hw) ⟨.ref a,H,I,rfl,q⟩⟩
theorem FP{lo hi:Option Expr}{fl fh:rQ}(ha:QD X a fa)(hl:yB X lo fl)(hh:yB X hi fh):QD X (.Subscript a (.Slice lo hi none p2) pos) (yD fa fl fh):=⟨have ha:=ha.o;have hl:=hl.o;have hh:=hh.o;PE.imp (MN (Rq.or MP) ha hl hh) fun σ H Q ai=>by
 obtain⟨ρ,w,t,r',q,ρ',gd,ee,k⟩:=ai
 unfold yD at ee
 split at ee
 next ds q1 ρ1 h1=>
  split at ee
  next lo ρ2 h2=>
   split at ee
   next hi fS h3=>
    cases ee
    refine⟨ρ,w,t,_,_,_,gd,h1,fun v H1 w1 F1 g1 aJ r1=>?_⟩
    have rR:=g1.drop (t':=t)
    have r0:=r1.drop (o:=.f) (Qi t)
    refine⟨ρ1,bU t w1,t,_,_,rR,h2,fun H2 w2 g2 bY=>⟨ρ2,w2,t,_,_,g2,h3,fun H3 w3 g3 kN=>?_⟩⟩
    have r3:=(r0.oD rR.wl bY.bJ).oD g2.wl kN.bJ
    obtain⟨p1,vs,rfl,oN,s1⟩:=r3.eJ
    have l1:=s1.length
    by_cases hw:HT.bp ds.length 0 lo=0/\HT.bp ds.length ds.length hi=ds.length
    ·have ec:oO ds lo hi=ds:=by unfold oO;rw[hw.1,hw.2,List.drop_zero,Ub,ZG]
     rw[ec]at k
     refine .inl ⟨p1,vs,rfl,oN,by rw[<- l1];exact hw,?_⟩
     exact k _ H3 w3 [] g3.up (((aJ.drop gd.wt).trans bY).trans kN) ((Rep.go g3.wl (fun a x e n=>⟨sm e,n⟩) r3 nM:Rep X.K H3 w3 (.t t) 0 _ _ []).cV rfl |>.2 9)
    ·refine .inr ⟨p1,vs,rfl,oN,by rw[<- l1];exact hw,fun p hp=>?_⟩
     have s4:ae X.K H3 w3 .f 0 (oO ds lo hi) (pL vs lo hi) []:=by
      unfold oO pL
      rw[<- l1]
      exact(s1.pW _).p_ _
     obtain⟨a1,a2,a3⟩:=tR g3 hp s4
     exact k _ _ _ _ a1 ((((aJ.drop gd.wt).trans bY).trans kN).trans a2) a3
   ·cases ee
  ·cases ee
 ·cases ee⟩
end
section
variable {X:Cx}{k b n:Nat}{a c e tg:Expr}{es:List Expr}{pt:eT}{ps:oK}{pos:Pos}{fa fb f:aA}
theorem FQ{p q r:eT}:∀ ds ρ ρ',cE p (cE q (cE r iH)) ds ρ=some ρ'->ds.length=3:=fun ds ρ ρ' h=>by
 match ds with
 | []=>cases h
 | [_]=>unfold cE at h;simp at h;split at h<;>cases h
 | [_,_]=>unfold cE at h;simp at h;split at h;(split at h<;>cases h);cases h
 | [_,_,_]=>rfl
 | _::_::_::_::_=>
  exfalso
  unfold cE at h
  simp at h
  split at h
  ·split at h
   ·split at h<;>cases h
   ·cases h
  ·cases h
@[simp] def vw (f:aA)(pt:eT):aH:=fun ρ=>match f ρ with
 | some (d,_,ρ1)=>match pt d ρ1 with
  | some ρ2=>some (.nx ρ2)
  | none=>none
 | none=>none
theorem Rr(he:QD X e f)(hg:rC X 0 tg pt)(hs:swapsWithSole [tg] e pos.line X.env=pure false:=by rfl)(hw:swappedStores [tg] e X.env=pure none:=by rfl)(h1:(assignEach [tg] X.env).map (·.2)=[assign tg X.env]:=by rfl):jN X (.Assign [tg] e pos) (vw f pt):=⟨have he:=he.o;have hg:=hg.o;PS.imp (zX he hg hs hw h1) fun D σ H ai=>by
 obtain⟨ρ,w,o,g,ee,k⟩:=ai
 unfold vw at ee
 split at ee
 next d q ρ1 h1=>
  split at ee
  next ρ2 h2=>
   cases ee
   refine⟨ρ,w,0,d,q,ρ1,g,h1,fun v H1 w1 F1 g1 aJ r1=>?_⟩
   exact⟨d,ρ1,bU 0 w1,0,ρ2,g1.drop,r1.drop (Qi 0),h2,fun aK H' w' hl _ g' f_=>k aK H' w' hl g' ((aJ.drop g.wt).trans f_)⟩
  ·cases ee
 ·cases ee⟩
end
theorem Rt:fillsNumberSlot (.type "tuple") "mul" = pure false:=PySem.fillsNumberSlot_seq (id:="tuple.__mul__") (r:=some (.builtin "tuple.__rmul__")) Yx.lookup (by decide +kernel) F.slot_tuple_rmul.lookup (by decide +kernel)
theorem Ru:seqRepeat? (.type "tuple")=pure (some (.builtin "tuple.__mul__")):=by
 unfold seqRepeat?
 rw[PySem.seqSlot_of (T:="tuple") (name:="__mul__") (id:="tuple.__mul__") Yx.lookup (by decide +kernel),PySem.seqSlot_of (T:="tuple") (name:="__rmul__") (id:="tuple.__rmul__") F.slot_tuple_rmul.lookup (by decide +kernel)];rfl
theorem Rv(a:Int)(t:Tok)(l:Addr)(us:Array Value)(n:Nat)(dd:Option Addr)(sl:Array (Option Value)) :
  Meets (Builtin.«int.__rmul__» ⟨[.int a t,.ref l],[]⟩) (fun _ R s=>s.heap.get? l=some { cls:=.type "tuple",dict:=dd,data:=.seq us n,slots:=sl }/\R (.ok (.ret Value.notImplemented)) s):=.of_wp fun prog w A R s h=>by
 obtain⟨hp,g,d,tk,os⟩:=s
 obtain⟨hl,h⟩:=h
 wp_walk
 exact⟨_,rfl,h⟩
theorem Rw(t:Tok)(l:Addr)(us:Array Value)(n:Nat)(dd:Option Addr)(sl:Array (Option Value)) :
  Meets (Builtin.«tuple.__mul__» ⟨[.ref l,.int 1 t],[]⟩) (fun _ R s=>s.heap.get? l=some { cls:=.type "tuple",dict:=dd,data:=.seq us n,slots:=sl }/\R (.ok (.ret (.ref l))) s):=.of_wp fun prog w A R s h=>by
 obtain⟨hp,g,d,tk,os⟩:=s
 obtain⟨hl,h⟩:=h
 have f1:=AutoSeq1.idx_int
 wp_walk using wpAny_loadPart' hl
 exact⟨_,rfl,h⟩
theorem Rx(k:Int)(t:Tok)(l:Addr)(us:Array Value)(n:Nat)(dd:Option Addr)(sl:Array (Option Value))(h2:¬ (decide (k < -(2 ^ 63))||decide (k ≥ 2 ^ 63))=true)(h3:¬ (us.isEmpty||k==1)=true)(h4:¬ (decide (k<=0)||us.isEmpty)=true)(h5:¬ (us.size:Int)*k > (2 ^ 63-1) / 8)(h6:¬ Builtin.Tuple.tupleTooMany ((us.size:Int)*k)=true)(hsz:(List.foldl (· ++ ·) #[] (List.replicate k.toNat us)).size<=sizeLine) :
  Meets (Builtin.«tuple.__mul__» ⟨[.ref l,.int k t],[]⟩) (fun _ R s=>s.heap.get? l=some { cls:=.type "tuple",dict:=dd,data:=.seq us n,slots:=sl }/\R (.ok (.ret (.ref s.heap.objs.size))) { s with heap:=s.heap.push { cls:=.type "tuple",data:=.seq (List.foldl (· ++ ·) #[] (List.replicate k.toNat us)) } }):=.of_wp fun prog w A R s h=>by
 obtain⟨hp,g,d,tk,os⟩:=s
 obtain⟨hl,h⟩:=h
 have f1:=AutoSeq1.idx_int
 wp_walk using wpAny_loadPart' hl
 rw[Qk h2]
 wp_walk using wpAny_loadPart' hl
 rw[Qk h5]
 wp_walk using wpAny_loadPart' hl
 exact⟨_,rfl,h⟩
section
variable {X:Cx}{a b c e:Expr}{fa fb fc f:aA}{pos:Pos}
theorem Ry:df X (binaryOp .Mult) (fun x y H Q=>∃ a k xs,x=.ref a/\y=.int k/\cR X.K H a xs/\xs ≠ []/\1<=k/\xs.length*k.toNat<=1000/\(k=1->Q (.ref a) H)/\(k≠1->∀ p,H p=none->Q (.ref p) (upd H p (.tup (List.replicate k.toNat xs).flatten)))):=by
 intro pins s σ H x y v u Q I rx ry h
 obtain⟨l,k,xs,rfl,rfl,hq,cC,h1,hz,q1,q2⟩:=h
 cases rx
 obtain⟨t,rfl⟩:=ry
 obtain⟨aj,r,pt,_⟩:=I.tuple hq
 obtain⟨⟨c1,d1,a1,s1⟩,e,pY,n1,vt⟩:=id pt
 simp only at pY vt
 subst pY vt
 have hl:=r.length
 have rS:0<aj.length:=by rw[<- hl];exact Z1.mpr cC
 refine Ve (T:="tuple") (U:="int") (by decide) ⟨_,e,rfl⟩ (fun s'=>VD s' k t) Rt F.fills_int_mul YJ Ru F.slot_int_index.lookup
  (JJ YJ (VD s k t) F.entry_int_rmul (F.args_int_rmul_2 _ _) (Rv k t l aj.toArray n1 d1 s1) ⟨e,rfl,⟨_,e,rfl⟩,?_⟩)
 by_cases hk:k=1
 ·subst hk
  exact JJ Yx ⟨_,e,rfl⟩ F.entry_tuple_mul (F.args_tuple_mul_2 _ _) (Rw t l aj.toArray n1 d1 s1) ⟨e,⟨.ref l,H,I,rfl,q1 rfl⟩⟩
 ·have hm:aj.length*k.toNat<=1000:=by rw[<- hl];exact hz
  have ki:k.toNat<=1000:=by
   have:=Nat.le_mul_of_pos_left k.toNat rS
   omega
  have f0:List.foldl (fun x1 x2=>x1++x2) #[] (List.replicate k.toNat aj.toArray)=(List.replicate k.toNat aj).flatten.toArray:=by
   have:=Ap aj k.toNat []
   rw[List.nil_append]at this
   exact this
  have lf:(List.replicate k.toNat aj).flatten.length<=1000:=by rw[Aq,YY];exact hm
  have em:((aj.toArray.size:Nat):Int)*k=((aj.length*k.toNat:Nat):Int):=by
   rw[Qm,Int.natCast_mul,YV (by omega)]
  refine JJ Yx ⟨_,e,rfl⟩ F.entry_tuple_mul (F.args_tuple_mul_2 _ _) (Rx k t l aj.toArray n1 d1 s1 (by simp;omega) (by simp[hk];exact Vg rS) (by simp;exact⟨by omega,Vg rS⟩) (by rw[em];omega) (by
   unfold Builtin.Tuple.tupleTooMany
   rw[em]
   simp only[gt_iff_lt,ZL,Int.not_lt]
   have:(1000:Nat)<=sizeLine:=by decide
   omega) (by rw[f0,Qm];exact pS lf)) ⟨e,?_⟩
  rw[f0]
  refine⟨.ref s.heap.objs.size,_,I.laid (t':=s.toks) (o:=.tup (List.replicate k.toNat xs).flatten) (fun b ob q=>Qd _ q) (Qi _) ?_,rfl,q2 hk _ (I.aB.fresh (Qi _))⟩
  exact⟨pS (by rw[Aq,YY];exact hz),_,r.rep k.toNat,kH.new _ _⟩
@[simp] def yE (fa fb:aA):aA:=fun ρ=>match fa ρ with
 | some (.tup ds,_,ρ1)=>match fb ρ1 with
  | some (.int n,_,ρ2)=>if ds.isEmpty=false/\1<=n/\ds.length*n.toNat<=1000 then some (.tup (List.replicate n.toNat ds).flatten,9,ρ2)else none
  | _=>none
 | _=>none
theorem RA(ha:QD X a fa)(hb:QD X b fb):QD X (.BinOp a .Mult b pos) (yE fa fb):=⟨have ha:=ha.o;have hb:=hb.o;PE.imp (pF Ry ha hb) fun σ H Q ai=>by
 obtain⟨ρ,w,t,r',q,ρ',gd,ee,k⟩:=ai
 unfold yE at ee
 split at ee
 next ds q1 ρ1 h1=>
  split at ee
  next n q2 ρ2 h2=>
   split at ee
   next hl=>
    cases ee
    obtain⟨hd,hn,hz⟩:=hl
    refine rl gd h1 h2 fun u u' H2 w2 F1 F2 g2 go r1 r2=>?_
    have rP:=r1.drop (o:=.f) (Qi t)
    have gg:=g2.drop (t':=t)
    have p7:=go.drop gd.wt
    obtain⟨p1,vs,rfl,oN,s1⟩:=rP.eJ
    have l1:=s1.length
    refine⟨p1,n,vs,rfl,fH r2,oN,fun z=>?_,hn,by rw[<- l1];exact hz,fun z=>?_,fun _ p hp=>?_⟩
    ·subst z
     have:ds=[]:=Zj.mp l1
     subst this
     cases hd
    ·subst z
     have e:(List.replicate (Int.toNat 1) ds).flatten=ds:=by show(List.replicate 1 ds).flatten=ds;simp
     rw[e]at k
     exact k _ H2 (bU t w2) [] gg.up p7 ((Rep.go gg.wl (fun a x e n=>⟨sm e,n⟩) rP nM:Rep X.K H2 (bU t w2) (.t t) 0 _ _ []).cV rfl |>.2 9)
    ·obtain⟨a1,a2,a3⟩:=tR gg hp (s1.times n.toNat)
     exact k _ _ _ _ a1 (p7.trans a2) a3
   ·cases ee
  ·cases ee
 ·cases ee⟩
end
section
variable {X:Cx}{a b c e:Expr}{es:List Expr}{fa fb fc f:aA}{ga gb:cO}{g:cy}{pos p p1 p2 az apos:Pos}
@[simp] def vx (i:Nat)(f:aA):aA:=fun ρ=>if rG ρ[i]? = true then match f ρ with
 | some (.lst es,1,ρ1)=>match ρ1[i]? with
  | some (some (.lst ds,1))=>if ds.length+es.length<=1000 then some (.bo,9,ρ1.set i (some (.lst (ds++es),1)))else none
  | _=>none
 | _=>none
 else none
theorem RB(h:QE X (.Name x p1) (eV i))(ha:QD X e f)(cA:attributeBase (.Name x p1) "extend" X.env (eval (.Name x p1) X.env)=eval (.Name x p1) X.env:=by rfl)(dY:((backTo az (starEach [e] X.env)).all (fun x=>!x.1)&&(backToKw az (keywordEach [] X.env)).all (fun x=>x.1.isSome)
   && decide ([e].length+([]:List Keyword).length+(if([]:List Keyword).isEmpty then 0 else 1)<30))=true:=by rfl) (cB:(apos.endLine==az.line)=true:=by rfl) (hs:starEach [e] X.env=(false,eval e X.env)::starEach [] X.env:=by rfl) (cU:(backTo az (starEach [] X.env)).any (·.1)=false:=by rfl):QD X (.Call (.Attribute (.Name x p1) "extend" apos) [e] [] az) (vx i f):=⟨have h:=h.o;have ha:=ha.o;PE.imp (xH Ya PySem.F.slot_list_extend PySem.F.type_list_extend M9 h (i8 ha j5 hs) cA dY cB hs cU) fun σ H Q ai=>by
 obtain⟨ρ,w,t,r',q,ρ',gd,ee,k⟩:=ai
 unfold vx at ee
 split at ee
 next hl=>
  obtain⟨l,cX,us,hq⟩:=gd.cJ hl
  split at ee
  next jr ρ1 h1=>
   split at ee
   next ds e1=>
    split at ee
    next hlen=>
     cases ee
     refine⟨_,cX,.inl ⟨rfl,us,hq⟩,ρ,w,t,_,_,_,gd,h1,fun v H1 w1 F1 g1 aJ r1=>?_⟩
     obtain⟨l',ws,cT,hH,rs,mk⟩:=g1.mut e1
     rw[cX]at cT
     cases cT
     cases r1 with
     | own hb _ rz _=>
      have z0:=rz.zero
      subst z0
      have yF:ae X.K H1 w1 .f 0 jr _ []:=rz.any g1.wl
      obtain⟨m1,m2⟩:=mk _ _ (yF.app rs)
      refine⟨l,_,ws,_,rfl,rfl,hH,hb,pS (by rw[<- rs.length,<- yF.length];exact hlen),?_⟩
      exact k .bo _ w1 [] m1 (aJ.trans m2) .bo
    ·cases ee
   ·cases ee
  ·cases ee
 ·cases ee⟩
end
section
variable {X:Cx}{a b c e:Expr}{es:List Expr}{fa fb fc f:aA}{ga gb gc:cO}{g:cy}{qa qb:kP}{s:aH}{pos p p1 p2 az apos:Pos}
@[simp] def BB:aH:=fun _=>none
theorem RC:jN X st BB:=⟨PS.imp LK fun D σ H ai=>by obtain⟨ρ,w,o,g,ee,k⟩:=ai;cases ee⟩
def mj (c:cO)(b:aH):Nat->aQ->Option Out
 | 0,_=>none
 | m+1,ρ=>match c ρ with
  | none=>none
  | some (t,ρ1)=>if t=true then match b ρ1 with
    | none=>none
    | some (.nx ρ2)=>mj c b m ρ2
    | some (.ct ρ2)=>mj c b m ρ2
    | some (.bk ρ2)=>some (.nx ρ2)
    | some (.rt d q)=>some (.rt d q)
   else some (.nx ρ1)
def qc (c:cO)(b:aH):aH:=mj c b 1000
theorem yG{body:List Stmt}(hp:PassesOwn (model X.prog X.w) X.A X.env X.xe)(hc:iS X c gc)(hb:gV X body s):jN X (.While c body [] pos) (qc gc s):=⟨have hc:=hc.o;have hb:=hb.o;PS.imp (LW hp hc hb) fun D σ H ai=>by
 obtain⟨ρ,w,o,g,ee,k⟩:=ai
 refine⟨fun m aK H'=>aK.length=σ.length/\∃ ρ' w',Good X.K ρ' aK H' w' 0/\mj gc s m ρ'=some o/\nz X.K D σ.length H' w' o,⟨1000,rfl,ρ,w,g,ee,k⟩,?_⟩
 rintro m aK H' ⟨cX,ρ',w',g',e',k'⟩
 cases m with
 | zero=>cases e'
 | succ m=>
  unfold mj at e'
  split at e'
  ·cases e'
  next t ρ1 h1=>
   refine⟨ρ',w',0,t,ρ1,g',h1,fun H1 w1 g1 aJ=>?_⟩
   cases t with
   | true=>
    rw[Qj rfl]at e' ⊢
    refine⟨fun lM H2=>lM.length=σ.length/\∃ ρ2 w2,Good X.K ρ2 lM H2 w2 0/\mj gc s m ρ2=some o/\nz X.K D σ.length H2 w2 o,fun lM H2 n2=>⟨m,Zv m,n2⟩,?_⟩
    have nx:∀ {iU:aQ},mj gc s m iU=some o->∀ jQ H5 w5,jQ.length=aK.length->Good X.K iU jQ H5 w5 0->Go H1 w1 H5 w5->jQ.length=σ.length/\∃ ρ2 w2,Good X.K ρ2 jQ H5 w2 0/\mj gc s m ρ2=some o/\nz X.K D σ.length H5 w2 o:=fun {iU} e5 jQ H5 w5 l5 g5 ja=>⟨by rw[l5,cX],iU,w5,g5,e5,k'.trans (aJ.trans ja)⟩
    cases h6:s ρ1 with
    | none=>rw[h6]at e';cases e'
    | some o6=>
     rw[h6]at e'
     refine⟨ρ1,w1,o6,g1,h6,?_⟩
     cases o6 with
     | nx iU=>exact nx e'
     | ct iU=>exact nx e'
     | bk iU=>
      cases e'
      exact fun jQ H5 w5 l5 g5 ja=>k' jQ H5 w5 (by rw[l5,cX]) g5 (aJ.trans ja)
     | rt d q=>
      cases e'
      exact fun v H5 w5 F Bi ja r5=>k' v H5 w5 F Bi (aJ.trans ja) r5
   | false=>
    rw[Qk (by decide)]at e' ⊢
    cases e'
    exact k' aK H1 w1 cX g1 aJ⟩
@[simp] def yH (n:Nat)(qi:kP)(fe:aA):aH:=fun ρ=>match fe ρ with
 | some (d,_,ρ1)=>match qi ρ1,ρ1[n]? with
  | some i,some (some (.lst ds,1))=>match ib ds.length i with
   | some m=>some (.nx (ρ1.set n (some (.lst (ds.set m d),1))))
   | none=>none
  | _,_=>none
 | none=>none
theorem FR(h:QE X (.Name x p1) (eV n))(ha:QQ X a qa)(he:QD X e f)(rK:∀ v,assign (.Subscript (.Name x p1) a p) X.env v=(do
   let ov <- holding [v] (eval (.Name x p1) X.env)
   let iv <- holding [v,ov] (eval a X.env)
   standAt p
   holding [v,ov,iv] (setItem ov iv v)
   release [v,ov,iv] []):=by exact fun _=>rfl) (hs:swapsWithSole [.Subscript (.Name x p1) a p] e pos.line X.env=pure false:=by rfl):jN X (.Assign [.Subscript (.Name x p1) a p] e pos) (yH n qa f):=⟨have h:=h.o;have ha:=ha.o;have he:=he.o;by
 refine PS.imp (zX he (D2 h ha Eu rK) hs) fun D σ H ⟨ρ,w,o,gd,ee,k⟩=>?_
 unfold yH at ee
 split at ee
 next d q0 ρ1 h1=>
  split at ee
  next i ds hi er=>
   split at ee
   next m hm=>
    cases ee
    refine⟨ρ,w,0,d,q0,ρ1,gd,h1,fun v H1 w1 F1 g1 aJ r1=>?_⟩
    have rv:=r1.drop (o:=.f) (Qi 0)
    have gg:=g1.drop (t':=0)
    obtain⟨l,vs,m1,m2,m3,mk⟩:=gg.mut er
    refine⟨_,m1,ρ1,bU 0 w1,0,i,gg,hi,l,vs,i,m,rfl,rfl,m2,?_,?_⟩
    ·rw[<- m3.length];exact hm
    ·obtain⟨n1,n2⟩:=mk _ _ (m3.rH rv m)
     exact k _ _ _ rfl n1 ((aJ.drop gd.wt).trans n2)
   ·cases ee
  ·cases ee
 ·cases ee⟩
def RD (K:PySem.W.Frag):R2:=fun x y H Q=>∃ l b xs zs,x=.ref l/\y=.ref b/\cH K H l xs/\cH K H b zs/\xs.length+zs.length<=sizeLine/\∀ p,H p=none->Q (.ref p) (upd H p (.lst (xs++zs)))
theorem RE:df X (binaryOp .Add) (RD X.K):=by
 intro pins s σ H x y v u Q I rx ry h
 obtain⟨l,b,xs,zs,rfl,rfl,hH,hB,hz,q⟩:=h
 cases rx
 cases ry
 obtain⟨aj,r,pl,z⟩:=I.list hH
 obtain⟨gR,r2,BC,z2⟩:=I.list hB
 obtain⟨⟨cls,dd,data,sl⟩,n,ho,hc,_,hd⟩:=pl
 obtain⟨⟨Aj,tw,data2,xF⟩,n2,qV,nq,_,hd2⟩:=BC
 simp only at hc hd nq hd2
 subst hc hd nq hd2
 have l1:=r.length
 have l2:=r2.length
 refine VC ⟨_,ho,rfl⟩ ⟨_,qV,rfl⟩ noFill_list_add seq_list_add PySem.F.slot_list_add PySem.F.entry_list_add (PySem.F.args_list_add_2 _ _) (list_addW l b aj.toArray gR.toArray n n2 dd tw sl xF (by rw[Qm,Qm,<- l1,<- l2];exact hz)) ⟨ho,qV,?_⟩
 have e:aj.toArray++gR.toArray=(aj++gR).toArray:=by simp
 rw[e]
 exact⟨.ref _,_,I.uX (t':=s.toks) (r.append r2) (by rw[Qn];omega),rfl,q _ I.fresh⟩
@[simp] def qd (fa fb:aA):aA:=fun ρ=>match fa ρ with
 | some (.lst ds,_,ρ1)=>match fb ρ1 with
  | some (.lst es,_,ρ2)=>if ds.length+es.length<=1000 then some (.lst (ds++es),1,ρ2)else none
  | _=>none
 | _=>none
theorem BD(ha:QD X a fa)(hb:QD X b fb):QD X (.BinOp a .Add b pos) (qd fa fb):=⟨have ha:=ha.o;have hb:=hb.o;PE.imp (pF RE ha hb) fun σ H Q ai=>by
 obtain⟨ρ,w,t,r',q,ρ',gd,ee,k⟩:=ai
 unfold qd at ee
 split at ee
 next ds q1 ρ1 h1=>
  split at ee
  next es q2 ρ2 h2=>
   split at ee
   next hl=>
    cases ee
    refine rl gd h1 h2 fun u u' H2 w2 F1 F2 g2 go r1 r2=>?_
    have rP:=r1.drop (o:=.f) (Qi t)
    have yz:=r2.drop (o:=.f) (Jw t)
    have gg:=g2.drop (t':=t)
    have p7:=go.drop gd.wt
    obtain⟨p1,vs,rfl,oN,s1⟩:=rP.gf
    obtain⟨p2,us,rfl,yA,s2⟩:=yz.gf
    refine⟨p1,p2,vs,us,rfl,rfl,oN,yA,pS (by rw[<- s1.length,<- s2.length];exact hl),fun p hp=>?_⟩
    obtain⟨a1,a2,a3⟩:=lj gg hp (s2.app s1)
    exact k _ _ _ _ a1 (p7.trans a2) a3
   ·cases ee
  ·cases ee
 ·cases ee⟩
end
section
variable {X:Cx}{a b c e:Expr}{es:List Expr}{fa fb fc f:aA}{ga gb gc:cO}{g:cy}{qa qb:kP}{s:aH}{pos p p1 p2 p3 az apos:Pos}
@[simp] def qe (n:Nat)(c:Int):kP:=fun ρ=>match ρ[n]? with
 | some (some (.tup es,_))=>match L2.dC es c with
  | some d=>match eU d with
   | some m=>some (Int.ofNat m)
   | none=>none
  | none=>none
 | _=>none
theorem FT{n j:Nat}{c:Int}(hm:X.mg "len" = none)(h:QE X (.Name x p1) (eV n))(hg:Gl X "len":=by rfl)(hs:tz (.Constant (.int c) j p2):=by exact fun _ _=>rfl)(he:starEach [.Subscript (.Name x p1) (.Constant (.int c) j p2) p3] X.env=(false,eval (.Subscript (.Name x p1) (.Constant (.int c) j p2) p3) X.env)::starEach [] X.env:=by rfl)(bS:(backTo pos (starEach [] X.env)).any (·.1)=false:=by rfl):QQ X (.Call (.Name "len" p) [.Subscript (.Name x p1) (.Constant (.int c) j p2) p3] [] pos) (qe n c):=⟨have h:=h.o;PE.imp (n9 An hg hm VY (i8 (uU uV h DZ hs) j5 he) (by decide) (by decide) he bS) fun σ H Q ai=>by
 obtain⟨ρ,w,t,i,gd,ee,k⟩:=ai
 unfold qe at ee
 split at ee
 next es q e0=>
  split at ee
  next d hd=>
   split at ee
   next m fT=>
    cases ee
    obtain⟨v,F,h1,h2⟩:=gd.slot n _ _ e0
    obtain⟨p0,vs,rfl,hq,rs⟩:=h2.eJ
    obtain⟨u,hu,ru⟩:=rs.dC hd
    obtain⟨p',ys,rfl,jv,hl⟩:=ru.len fT
    exact⟨_,h1,.inr (.inl ⟨p0,vs,c,_,rfl,rfl,hq,hu,p',ys,rfl,jv,by rw[hl];exact k⟩)⟩
   ·cases ee
  ·cases ee
 ·cases ee⟩
@[simp] def vy (k l:Str)(qa qb:kP):aA:=fun ρ=>match qa ρ,qb ρ with
 | some i,some j=>some (.gH [k,l] [.int i,.int j],9,ρ)
 | _,_=>none
theorem RF{t:Nat}{H1:Hp}{p:Addr}{ks:List Str}{w1:Wn}(g:Good K ρ σ H1 w1 t)(hp:H1 p=none)(r:ae K H1 w1 .f 0 ds vs []) :
  Good K ρ σ (upd H1 p (.dK (lZ ks vs))) w1 (t+1)/\Go H1 w1 (upd H1 p (.dK (lZ ks vs))) w1/\Rep K (upd H1 p (.dK (lZ ks vs))) w1 (.t t) 9 (.gH ks ds) (.ref p) []:=by
 have ne:∀ a x,H1 a=some x->a≠p:=fun a x e=>h_ e hp
 have nw:∀ a o,w1 a=some o->a≠p:=fun a o e=>by obtain⟨vs,q⟩:=g.wl a o e;exact ne a _ q
 have st:dh H1 w1 (upd H1 p (.dK (lZ ks vs))) w1:=fun a x e n=>⟨sm (by rw[aZ (ne a x e)];exact e),n⟩
 refine⟨⟨⟨fun a o e=>?_,g.wl.tb.upd rfl (.inl hp)⟩,g.ws,fun a i e=>Zk (g.wt a i e),g.len,fun i d q e=>?_⟩,⟨st,fun a o e _=>⟨aZ (nw a o e),e⟩⟩,?_⟩
 ·obtain⟨us,q⟩:=g.wl a o e
  exact⟨us,by rw[aZ (nw a o e)];exact q⟩
 ·obtain⟨v,F,h1,h2⟩:=g.slot i d q e
  exact⟨v,F,h1,Rep.go g.wl st h2 fun a m=>⟨aZ (nw a _ (h2.aE a m)),h2.aE a m⟩⟩
 ·exact .gH fO (by
   cases q:w1 p with
   | none=>rfl
   | some o=>exact absurd rfl (nw p o q)) (ae.go g.wl st r nM)
theorem RG{k l:Str}{j1 j2:Nat}(RH:k≠l)(ha:QQ X a qa)(hb:QQ X b qb):QD X (.Dict [some (.Constant (.str k) j1 p1),some (.Constant (.str l) j2 p2)] [a,b] pos) (vy k l qa qb):=⟨have ha:=ha.o;have hb:=hb.o;PE.imp (NL (EK zT ha (EK zT hb NJ)) rfl rfl (by simp) (by show 2<=15;decide)) fun σ H Q ai=>by
 obtain⟨ρ,w,t,r',q,ρ',gd,ee,kk⟩:=ai
 unfold vy at ee
 split at ee
 next i j hi hj=>
  cases ee
  intro p0 hp
  have ne:∀ a x,H a=some x->upd H p0 (.dK []) a=some x:=fun a x e=>by rw[aZ (h_ e hp)];exact e
  obtain⟨g1,aJ⟩:=gd.more ⟨ne,fun t=>t.upd rfl (.inl hp)⟩
  refine⟨ρ,w,t,i,g1,hi,ρ,w,t,j,g1,hj,fO,[(.inr k,.int i),(.inr l,.int j)],rfl,by show 2<=15;decide,?_⟩
  have e:q_ [] [((.inr k:Key),V.int i),(.inr l,.int j)]=lZ [k,l] [.int i,.int j]:=by
   have BE:¬ ((Sum.inr k:Key)=.inr l):=fun z=>RH (Ug z)
   simp[q_,eX,lZ,BE]
  rw[e,K2]
  obtain⟨a1,a2,a3⟩:=RF (ks:=[k,l]) (ds:=[.int i,.int j]) (vs:=[.int i,.int j]) gd hp (.cons (F:=[]) (G:=[]) (.int i) (.cons (F:=[]) (G:=[]) (.int j) .nil nM) nM)
  exact kk _ _ _ _ a1 a2 a3
 ·cases ee⟩
def jB:List Str->List D->Str->Option D
 | x::ks,d::ds,k=>if x=k then some d else jB ks ds k
 | _,_,_=>none
@[simp] def BF (fo fe ff:aA):aA:=fun ρ=>match fo ρ with
 | some (.gH ks ds,_,ρ1)=>match fe ρ1 with
  | some (.str k,_,ρ2)=>match ff ρ2 with
   | some (z,_,fS)=>some ((jB ks ds k).getD z,fy ((jB ks ds k).getD z),fS)
   | none=>none
  | _=>none
 | _=>none
theorem FU(k:Str):∀ {ks:List Str} {ds:List D} {vs:List V},ae K H w o 0 ds vs []->
  (∀ d,jB ks ds k=some d->∃ v,fx (lZ ks vs) (.inr k)=some v/\Rep K H w o 0 d v [])/\(jB ks ds k=none->fx (lZ ks vs) (.inr k)=none)
 | [],ds,vs,r=>by
  refine⟨fun d h=>?_,fun _=>rfl⟩
  unfold jB at h
  cases h
 | x::ks,ds,vs,r=>by
  generalize hF:([]:List Addr)=F at r
  cases r with
  | nil=>exact⟨(fun d h=>by unfold jB at h;cases h),fun _=>rfl⟩
  | @cons _ d' v' ck eS F' G' r s _=>
   have h1:F'=[]:=r.zero
   have h2:G'=[]:=s.zero
   subst h1 h2
   have ih:=FU k (ks:=ks) s
   by_cases hx:x=k
   ·subst hx
    refine⟨fun d h=>?_,fun h=>?_⟩
    ·unfold jB at h
     rw[Qj rfl]at h
     cases h
     exact⟨v',u0 rfl,r⟩
    ·unfold jB at h
     rw[Qj rfl]at h
     cases h
   ·have hk:¬ ((Sum.inr x:Key)=.inr k):=fun z=>hx (Ug z)
    have e:fx (lZ (x::ks) (v'::eS)) (.inr k)=fx (lZ ks eS) (.inr k):=u4 hk
    rw[e]
    unfold jB
    rw[Qk hx]
    exact ih
theorem RI{k:Nat}(hr:a_ k X.A)(ho:QD X a fa)(he:QD X b fb)(hf:QD X c fc)(cA:attributeBase a "get" X.env (eval a X.env)=eval a X.env:=by rfl)(dY:((backTo az (starEach [b,c] X.env)).all (fun x=>!x.1)&&(backToKw az (keywordEach [] X.env)).all (fun x=>x.1.isSome)
   && decide (([b,c]:List Expr).length+([]:List Keyword).length+(if([]:List Keyword).isEmpty then 0 else 1)<30))=true:=by rfl) (cB:(apos.endLine==az.line)=true:=by rfl) (vz:backTo az (starEach [b,c] X.env)=[(false,eval b X.env),(false,eval c X.env)]:=by rfl):QD X (.Call (.Attribute a "get" apos) [b,c] [] az) (BF fa fb fc):=⟨have ho:=ho.o;have he:=he.o;have hf:=hf.o;PE.imp (NQ (tF hr) ho he hf ⟨cA,dY,cB,vz⟩) fun σ H Q ai=>by
 obtain⟨ρ,w,t,r',q,ρ',gd,ee,kk⟩:=ai
 unfold BF at ee
 split at ee
 next ks ds q1 ρ1 h1=>
  split at ee
  next k0 q2 ρ2 h2=>
   split at ee
   next z q3 fS h3=>
    cases ee
    refine⟨ρ,w,t,_,_,_,gd,h1,fun x H1 w1 F1 g1 aJ r1=>?_⟩
    have RJ:=r1
    cases RJ with
    | @gH _ a0 _ NN _ RK _ _=>
     refine⟨a0,rfl,.inl ⟨_,.inl RK⟩,ρ1,w1,t+1,_,_,_,g1,h2,fun y H2 w2 F2 g2 bY r2=>⟨ρ2,w2,t+2,_,_,_,g2,h3,fun zv H3 w3 F3 g3 kN r3=>?_⟩⟩
     have hy:y=kV (.inr k0):=by cases r2;rfl
     subst hy
     have RL:=(r1.gone g1.wl (bY.trans kN)).drop (o:=.t t) (Qi t)
     have rz:=r3.drop (o:=.t t) (t':=t) (by omega)
     have go:=(aJ.trans bY).trans kN
     cases RL with
     | @gH _ _ _ vs _ hH _ rs=>
      obtain⟨v1,v2⟩:=FU (ks:=ks) k0 rs
      refine⟨_,jL.k hH,?_⟩
      cases hg:jB ks ds k0 with
      | none=>
       rw[v2 hg]
       rw[hg]at kk
       exact ou kk gd g3 go rz.jw
      | some d=>
       obtain⟨v,ev,rv⟩:=v1 d hg
       rw[ev]
       rw[hg]at kk
       exact ou kk gd g3 go rv.jw
   ·cases ee
  ·cases ee
 ·cases ee⟩
theorem RM{br:List Expr}{env:Env}{ks:List (Option Expr)}{vs:List Expr}:starEach (.Dict ks vs pos::br) env=(false,eval (.Dict ks vs pos) env)::starEach br env:=by simp only[starEach]
end
theorem RN{prog:Program}{w:World}{A:Around}(hh:A.handled=none)(it p:Addr)(cC:p≠it)(items:Array Value) :
  Draws prog w A it [it,p] items.size (fun i v=>items[i]? = some v) (fun i h=>h.IsTupleIter it p i/\h.IsTuple p items) where
 live:=fun _ _ st=>by obtain⟨⟨o,ho,_⟩,_⟩:=st;exact⟨o,ho⟩
 frame:=fun _ _ _ st hk=>by
  obtain⟨a,⟨o,e,r⟩⟩:=st
  exact⟨a.at fun o e=>hk it (by simp) o e,⟨o,hk p (by simp) o e,r⟩⟩
 item:=fun i s Q E hi st hQ=>by
  refine PY st.1 st.2 (v:=items[i]) (by simp[hi]) fun h' oP jv=>?_
  exact hQ _ h' s.toks (by simp[hi]) ⟨oP,st.2.extBut jv.extBut cC⟩ jv
 done:=fun s Q E st hE=>PZ hh st.1 st.2 (by simp) hE
section
variable {prog:Program}{w:World}{A:Around}{E:Value->Shared->Prop}{s:Shared}
theorem RO{xs:Array Value}(t1:s.heap.IsTuple p xs)
  (k:∀ h',IsEnum h' (s.heap.objs.size+1) s.heap.objs.size 0 .none->h'.IsTupleIter s.heap.objs.size p 0->h'.objs.size=s.heap.objs.size+2->
    (∀ b o,s.heap.get? b=some o->h'.get? b=some o)->Q (.ref (s.heap.objs.size+1)) { s with heap:=h' }) :
  wpAny (model prog w) A (call (.type "enumerate") [.ref p]) Q E s:=by
 have mt:Meets (Builtin.«enumerate.__new__» ⟨[.type "enumerate",.ref p],[]⟩) (fun _ R s'=>s'=s /\
   R (.ok (.ret (.ref (s.heap.push { cls:=.type "tuple_iterator",data:=.fields #[.ref p,.int 0 0] }).objs.size)))
    { s with heap:=(s.heap.push { cls:=.type "tuple_iterator",data:=.fields #[.ref p,.int 0 0] }).push { cls:=.type "enumerate",data:=.fields #[.none,.bool false,.ref s.heap.objs.size,rawInt 0,.none,.none] } }):=.of_wp fun prog w A R s' h=>by
  obtain⟨rfl,h⟩:=h
  have du:=sub_enumerate
  obtain⟨hp,gn,dr,tk,os⟩:=s'
  have q1:Heap.IsTuple (Shared.heap ⟨hp,gn,dr,tk,os⟩) p xs:=t1
  wp_walk using Jz q1
  refine wpAny_stack_any fun st=>Qe ?_
  split
  next c _ _ _ _ _=>
   cases (c==Value.type "enumerate")
   ·wp_walk using Jz q1
    exact⟨_,rfl,h⟩
   ·wp_walk using Jz q1
    exact⟨_,rfl,h⟩
  ·wp_walk using Jz q1
   exact⟨_,rfl,h⟩
 refine callType_new F.called_enumerate (by decide) (F.typeCall_enumerate_1 _) (F.newCall_enumerate_1 _) (fun obj=>F.args_object_init_2 obj _) F.entry_enumerate_new mt ⟨rfl,?_⟩
 have hz:(s.heap.push { cls:=.type "tuple_iterator",data:=.fields #[.ref p,.int 0 0] }).objs.size=s.heap.objs.size+1:=ZK ..
 show _/\_
 rw[hz]
 have he:IsEnum ((s.heap.push { cls:=.type "tuple_iterator",data:=.fields #[.ref p,.int 0 0] }).push
   { cls:=.type "enumerate",data:=.fields #[.none,.bool false,.ref s.heap.objs.size,rawInt 0,.none,.none] }) (s.heap.objs.size+1) s.heap.objs.size 0 .none:=by
  have:=Qs (s.heap.push { cls:=.type "tuple_iterator",data:=.fields #[.ref p,.int 0 0] })
   (o:={ cls:=.type "enumerate",data:=.fields #[.none,.bool false,.ref s.heap.objs.size,rawInt 0,.none,.none] }) rfl
  rw[hz]at this;exact this
 exact⟨⟨_,he,rfl⟩,k _ he ⟨_,Qd _ (Qs _ rfl),rfl,rfl⟩ (by rw[ZK,hz]) fun b o x=>Qd _ (Qd _ x)⟩
end
structure Src (P:Program) (w:World) (K:PySem.W.Frag) (it p:Addr) (Sq:Hp->List V->Prop) (tn:Nat->Heap->Prop):Prop where
 keep:∀ i h h',tn i h->(∀ o,h.get? it=some o->h'.get? it=some o)->tn i h'
 obj:∀ i h,tn i h->∃ o vs,h.get? it=some o/\o.data=.fields vs
 draw:∀ (X:Cx),X.prog=P->X.w=w->X.K=K->X.calm=true->∀ (pins:List (Addr×Obj)) (s:Shared) (σ:St) (H:Hp) (xs:List V),Inv X pins σ H s->Sq H xs->∃ (us:List Value) (St:Nat->Heap->Prop),bc xs us /\
  Draws P w X.A.in1 it [it,p] us.length (fun i v=>us[i]? = some v) St/\(∀ i,tn i s.heap->St i s.heap)/\(∀ i h,St i h->tn i h)/\∀ ys,Sq H ys->ys=xs
theorem RP{w:World}(cC:p≠it):Src P w K it p (fun H xs=>cH K H p xs) (fun i h=>h.IsListIter it p i) where
 keep:=fun i h h' st k=>st.at k
 obj:=fun i h st=>by obtain⟨o,e,c,d⟩:=st;exact⟨o,_,e,d⟩
 draw:=fun X hP hw hK hc pins s σ H xs I hq=>by
  subst hP hw hK
  obtain⟨aj,rv,pl,_⟩:=I.list hq
  have D:=Draws.list (prog:=X.prog) (w:=X.w) (A:=X.A.in1) (I.ok.hd hc) it p cC aj.toArray
  rw[Qm]at D
  exact⟨aj,(fun i h=>h.IsListIter it p i/\h.IsList p aj.toArray),rv,(by simpa using D),fun i st=>⟨st,pl.isList⟩,fun i h st=>st.1,fun ys hy=>I.i7 hy hq⟩
theorem RQ{w:World}(cC:p≠it):Src P w K it p (fun H xs=>cR K H p xs) (fun i h=>h.IsTupleIter it p i) where
 keep:=fun i h h' st k=>st.at k
 obj:=fun i h st=>by obtain⟨o,e,c,d⟩:=st;exact⟨o,_,e,d⟩
 draw:=fun X hP hw hK hc pins s σ H xs I hq=>by
  subst hP hw hK
  obtain⟨aj,rv,pl,_⟩:=I.tuple hq
  have D:=RN (prog:=X.prog) (w:=X.w) (A:=X.A.in1) (I.ok.hd hc) it p cC aj.toArray
  rw[Qm]at D
  exact⟨aj,(fun i h=>h.IsTupleIter it p i/\h.IsTuple p aj.toArray),rv,(by simpa using D),fun i st=>⟨st,pl⟩,fun i h st=>st.1,fun ys hy=>I.ia hy hq⟩
def vA (Sq:Hp->List V->Prop):It:=
 ⟨fun i H=>∃ xs x,Sq H xs/\xs[i]? = some x,
  fun i H v H'=>∃ T x,v=.ref T/\H T=none/\(∀ xs,Sq H xs->xs[i]? = some x)/\H'=upd H T (.tup [.int (Int.ofNat i),x]),
  fun i H=>∃ xs,Sq H xs/\xs.length=i⟩
theorem RT{w:World}{elts:List Expr}{kt:Nat}{tp:Pos}{e:Addr}{tn:Nat->Heap->Prop}(S:Src P w K it p Sq tn)(cC:e≠it)(hp:e≠p) :
  Turn P w K (.Tuple elts kt tp) (vA Sq) [e,it] e (fun i h=>(∃ old,IsEnum h e it i old)/\tn i h) where
 mem:=by simp
 obj:=fun i h st b hb=>by
  obtain⟨⟨old,he⟩,st⟩:=st
  simp only[Qw,QI,Vx]at hb
  rcases hb with rfl|rfl
  ·exact⟨_,he,fun v e=>nomatch e⟩
  ·obtain⟨o,vs,e,d⟩:=S.obj i h st
   exact⟨o,e,fun v z=>by rw[d]at z;cases z⟩
 keep:=fun i h h' st k=>by
  obtain⟨⟨old,he⟩,st⟩:=st
  exact⟨⟨old,k e (by simp) _ he⟩,S.keep i h h' st fun o z=>k it (by simp) o z⟩
 item:=by
  intro X hP hw hK hc i pins s σ H E I hf st hg
  obtain⟨⟨old,he⟩,st⟩:=st
  obtain⟨xs,x,hq,hx⟩:=hg
  obtain⟨us,St,rv,D,s1,s2,inj⟩:=S.draw X hP hw hK hc pins s σ H xs I hq
  obtain⟨u,hu,ru⟩:=rv.get hx
  have bX:i<us.length:=(Qy.mp hu).1
  refine wpAny_pyNext_enum_itemD D he (s1 i st) bX cC (by simp[cC,hp]) fun u' g tk FV ho jv hT hsz hk=>?_
  have eu:u'=u:=by rw[hu]at FV;exact(QH FV).symm
  subst eu
  refine⟨_,rfl,wpAny_letOwnedTupleGo_enum (s:={ s with heap:=g,toks:=tk+1 }) ho fun g' vB sb=>?_⟩
  have vC:Heap.SameBut e g g':=sb
  have fr:H s.heap.objs.size=none:=I.aB.fresh (Qi _)
  have ri:bw (.int (Int.ofNat i)) (.int i tk):=⟨tk,rfl⟩
  have I1:Inv X pins σ (upd H s.heap.objs.size (.tup [.int (Int.ofNat i),x])) { s with heap:=s.heap.push { cls:=.type "tuple",data:=.seq #[.int i tk,u'] } }:=
   I.laid (t':=s.toks) (fun b q e=>Qd _ e) (Qi _) (show cZ X.prog X.w _ _ _ (.tup _)from⟨(by show 2<=sizeLine;decide),[.int i tk,u'],.cons ri (.cons ru .nil),kH.new _ _⟩)
  have lt:∀ b ∈ [e,it],b<s.heap.objs.size:=fun b hb=>by
   simp only[Qw,QI,Vx]at hb
   rcases hb with rfl|rfl
   ·exact Qp he
   ·obtain⟨o,_,e,_⟩:=S.obj i _ st;exact Qp e
  have hn:∀ b ∈ [e,it],upd H s.heap.objs.size (.tup [.int (Int.ofNat i),x]) b=none:=fun b hb=>by rw[aZ (QP (lt b hb))];exact(hf b hb).1
  have I2:Inv X pins σ (upd H s.heap.objs.size (.tup [.int (Int.ofNat i),x])) { s with heap:=g',toks:=tk+1 }:=P1 (s:={ s with heap:=s.heap.push { cls:=.type "tuple",data:=.seq #[.int i tk,u'] } }) (t':=tk+1) (ch:=[e,it]) I1 (fun b q nb z=>by
   have b1:b≠e:=fun h=>nb (by simp[h])
   have b2:b≠it:=fun h=>nb (by simp[h])
   rcases Heap.get?_push_cases z with⟨rfl,rfl⟩|z'
   ·exact vC.extBut _ _ b1 hT
   ·exact vC.extBut _ _ b1 (hk b q b1 b2 z')) fun b hb=>by
     obtain⟨f0,f1,f2,f3,f4,f5⟩:=hf b hb
     exact⟨hn b hb,f1,f2,f3,f4,f5⟩
  refine⟨.ref s.heap.objs.size,_,I2,rfl,⟨s.heap.objs.size,x,rfl,fr,fun zs hz=>?_,rfl⟩,⟨⟨_,vB⟩,?_⟩,hn⟩
  ·rw[inj zs hz];exact hx
  ·exact S.keep _ _ _ (s2 _ _ jv) fun o z=>vC.extBut _ _ (Jt cC) z
 done:=by
  intro X hP hw hK hc i pins s σ H E I hf st hg
  obtain⟨⟨old,he⟩,st⟩:=st
  obtain⟨xs,hq,hx⟩:=hg
  obtain⟨us,St,rv,D,s1,s2,inj⟩:=S.draw X hP hw hK hc pins s σ H xs I hq
  have hl:us.length=i:=by rw[<- rv.length];exact hx
  subst hl
  refine wpAny_pyNext_enum_endD D he (s1 _ st) fun g kp=>⟨rfl,?_⟩
  obtain⟨f0,f1,f2,f3,f4,f5⟩:=hf it (by simp)
  exact I.turned (t':=s.toks) (fun b o hb z=>kp b o hb z) f0 f1 f3 f4 f5
 self:=fun _ _ _ _ _ st h=>by
  obtain⟨⟨old,he⟩,_⟩:=st
  exact wpAny_pyIter_enum he h
section
variable {X:Cx}{a b c e:Expr}{es elts:List Expr}{fa fb fc f:aA}{g:cy}{pos p p1 p2 tp:Pos}{kt:Nat}
def RU (K:PySem.W.Frag)(ta:TA):TI:=fun σ H R=>ta σ H fun vs H1=>∃ p,vs=[.ref p]/\(((∃ xs,cH K H1 p xs)/\R (vA fun H xs=>cH K H p xs) H1)\/((∃ xs,cR K H1 p xs)/\R (vA fun H xs=>cR K H p xs) H1))
theorem RV{ta:TA}(hg:Gl X "enumerate")(hm:X.mg "enumerate" = none)(ha:PA X [a] ta)(hs:starEach [a] X.env=[(false,eval a X.env)]:=by rfl) :
  PI X (.Tuple elts kt tp) (.Call (.Name "enumerate" p) [a] [] pos) (RU X.K ta):=by
 intro pins s σ H R I h
 refine Call_ (tj I hg hm boot_enumerate (Z3 (aW (ha pos pins s σ H _ I h) fun us s1 ⟨vs,H1,I1,r1,q1⟩=>?_) hs rfl))
 obtain⟨q,ee,hq⟩:=q1
 subst ee
 cases r1 with
 | cons r rr=>
  cases rr
  cases r
  have ne1:s1.heap.objs.size+1≠s1.heap.objs.size:=Nat.succ_ne_self _
  have fin:∀ {g:Heap} {Sq:Hp->List V->Prop} {tn:Nat->Heap->Prop},q<s1.heap.objs.size->Src X.prog X.w X.K s1.heap.objs.size q Sq tn->IsEnum g (s1.heap.objs.size+1) s1.heap.objs.size 0 .none->tn 0 g->(∀ b o,s1.heap.get? b=some o->g.get? b=some o)->R (vA Sq) H1->
    wpAny (model X.prog X.w) X.A (pyIter (.ref (s1.heap.objs.size+1))) (zY X pins σ (.Tuple elts kt tp) R) X.xe { s1 with heap:=g }:=fun {g Sq tn} lq S he ht kp hR=>by
   have ne2:s1.heap.objs.size+1≠q:=VB (Zk lq)
   refine wpAny_pyIter_enum he ⟨s1.heap.objs.size+1,[s1.heap.objs.size+1,s1.heap.objs.size],_,_,H1,rfl,I1.kept (t':=s1.toks) kp,RT S ne1 ne2,⟨⟨_,he⟩,ht⟩,fun b hb=>?_,hR⟩
   have FW:s1.heap.objs.size<=b:=by
    simp only[Qw,QI,Vx]at hb
    rcases hb with rfl|rfl
    ·exact Yv _ _
    ·exact Qi _
   exact I1.nZ FW (I1.aB.fresh FW)
  rcases hq with⟨⟨xs,hx⟩,hR⟩|⟨⟨xs,hx⟩,hR⟩
  ·obtain⟨aj,rv,pl,_⟩:=I1.list hx
   have lq:q<s1.heap.objs.size:=by obtain⟨_,e,_⟩:=pl.isList;exact Qp e
   exact call_enumerate_list pl.isList fun g he hi _ kp=>fin lq (RP (QP lq)) he hi kp hR
  ·obtain⟨aj,rv,pl,_⟩:=I1.tuple hx
   have lq:q<s1.heap.objs.size:=by obtain⟨_,e,_⟩:=pl;exact Qp e
   exact RO (show s1.heap.IsTuple q aj.toArray from pl) fun g he hi _ kp=>fin lq (RQ (QP lq)) he hi kp hR
def mn (ds:List D):List D:=ds.zipIdx.map fun x=>.tup [.int (Int.ofNat x.2),x.1]
theorem yI(ds:List D):(mn ds).length=ds.length:=by simp[mn]
theorem RW(ds:List D)(i:Nat):(mn ds)[i]? = (ds[i]?).map fun d=>.tup [.int (Int.ofNat i),d]:=by
 simp only[mn,Ql,List.getElem?_zipIdx,Option.map_map]
 cases ds[i]? with
 | none=>rfl
 | some d=>simp
@[simp] def vD (g:cy):jP:=fun ρ=>match g ρ with
 | some ([.lst ds],ρ1)=>if ds.length<=1000 then some (mn ds,ρ1)else none
 | some ([.tup ds],ρ1)=>if ds.length<=1000 then some (mn ds,ρ1)else none
 | _=>none
theorem It.enum{P:Hp->Wn->Prop}(hl:ds.length=vs.length)(sq:∀ H w,P H w->Sq H vs/\ae K H w .f 0 ds vs [])(ps:∀ H w H' w',P H w->WL K w H->dh H w H' w'->P H' w'):l_ K (vA Sq) (mn ds) P:=by
 refine⟨fun i H w p hi=>⟨vs,vs[i]'(by rw[yI]at hi;omega),(sq H w p).1,by simp⟩,fun i H w x H' d p wl hd y=>?_,fun H w p=>⟨vs,(sq H w p).1,by rw[yI];exact hl.symm⟩,ps⟩
 obtain⟨T,v,rfl,hT,hv,rfl⟩:=y
 obtain⟨q1,r1⟩:=sq H w p
 rw[RW]at hd
 cases hz:ds[i]? with
 | none=>rw[hz]at hd;cases hd
 | some d0=>
  rw[hz]at hd
  cases hd
  obtain⟨v',vE,rv⟩:=r1.get hz
  have ev:v'=v:=by have:=hv vs q1;rw[vE]at this;exact QH this
  subst ev
  have mo:∀ a o,H a=some o->upd H T (.tup [.int (Int.ofNat i),v']) a=some o:=fun a o e=>by rw[aZ (h_ e hT)];exact e
  have st:dh H w (upd H T (.tup [.int (Int.ofNat i),v'])) w:=fun a x e n=>⟨sm (mo a x e),n⟩
  exact⟨⟨mo,fun t=>t.upd rfl (.inl hT)⟩,.tup fO (.cons (F:=[]) (G:=[]) (.int _) (.cons (F:=[]) (G:=[]) (Rep.oD rv wl st) .nil nM) nM),ps _ _ _ _ p wl st⟩
theorem RX(hm:X.mg "enumerate" = none)(ha:gh X [a] g)(hg:Gl X "enumerate":=by rfl)(hs:starEach [a] X.env=[(false,eval a X.env)]:=by rfl):tV X (.Tuple elts kt tp) (.Call (.Name "enumerate" p) [a] [] pos) (vD g):=⟨have ha:=ha.o;PI.imp (RV hg hm ha hs) fun σ H R ai=>by
 obtain⟨ρ,w,t,ds,ρ',gd,ee,k⟩:=ai
 unfold vD at ee
 split at ee
 next d1 ρ1 h1=>
  split at ee
  next hl=>
   cases ee
   refine⟨ρ,w,t,_,_,gd,h1,fun vs H1 w1 g1 aJ r1=>?_⟩
   obtain⟨v,rfl,rv⟩:=one r1
   have hz:(mn d1).length<sizeLine:=by rw[yI];exact lh hl
   cases rv with
   | kl h r=>exact⟨_,rfl,.inl ⟨⟨_,h.sq⟩,k _ _ H1 w1 g1 aJ (It.enum (P:=fun H w=>(KL X.K _ _\/False)/\ae X.K H w .f 0 d1 _ []) r.length (fun H w p=>⟨p.1.elim (fun z=>z.sq) fun z=>z.elim,p.2⟩) fun H w H' w' p wl st=>⟨p.1,ae.go wl st p.2 nM⟩) ⟨.inl h,r⟩ hz⟩⟩
   | shr h n r=>exact⟨_,rfl,.inl ⟨⟨_,.inl h⟩,k _ _ H1 w1 g1 aJ (It.enum (P:=fun H w=>(Rd H _ (.lst _)/\w _=none)/\ae X.K H w .f 0 d1 _ []) r.length (fun H w p=>⟨.inl p.1.1,p.2⟩) fun H w H' w' p wl st=>⟨xU.go st p.1.2 p.1.1,ae.go wl st p.2 nM⟩) ⟨⟨h,n⟩,r⟩ hz⟩⟩
  ·cases ee
 next d1 ρ1 h1=>
  split at ee
  next hl=>
   cases ee
   refine⟨ρ,w,t,_,_,gd,h1,fun vs H1 w1 g1 aJ r1=>?_⟩
   obtain⟨v,rfl,rv⟩:=one r1
   have hz:(mn d1).length<sizeLine:=by rw[yI];exact lh hl
   obtain⟨p1,as,rfl,q1,s1⟩:=rv.eJ
   exact⟨p1,rfl,.inr ⟨⟨_,q1⟩,k _ _ H1 w1 g1 aJ (It.enum (P:=fun H w=>cR X.K H p1 as/\ae X.K H w .f 0 d1 as []) s1.length (fun H w p=>p) fun H w H' w' p wl st=>⟨cR.go wl st p.1,ae.go wl st p.2 nM⟩) ⟨q1,s1⟩ hz⟩⟩
  ·cases ee
 ·cases ee⟩
end
end L3
namespace L3
open PySem PySem.Spec PyProof.Rows PySem.W L2
structure RY (P:Program) (w:World) (outer:List Env) (H:Hp) (s:Shared) (a C t:Addr) (B:Heap) (H':Hp) (s':Shared):Prop where
 os:s'.os=s.os
 bare:AllBare s'.gens
 un:Un (jo outer) [] H H' s.heap s'.heap
 aB:de P w H' s'.heap
 fl:Heap.FlyingW B outer a (.ref C) (.ref t) s'.heap
 old:∀ b o,s.heap.get? b=some o->H b=none->b ∉ jo outer->B.get? b=some o
 RZ:∀ b o,s.heap.get? b=some o->b ∉ jo outer->∃ o',B.get? b=some o'
 uH:∀ b u o,H' b=some u->s'.heap.get? b=some o->B.get? b=some o
 free:H' a=none
abbrev j9j:=aQ->Option Str
theorem Good.grow{K:PySem.W.Frag}{ρ:aQ}{σ:St}{H H':Hp}{w:Wn}{t:Nat}(g:Good K ρ σ H w t)(h:∀ b o,H b=some o->Sm o (H' b))(tb:TB K H'):Good K ρ σ H' w t/\Go H w H' w:=by
 have st:dh H w H' w:=fun a x e n=>⟨h a x e,n⟩
 have kp:∀ a o,w a=some o->H' a=H a:=fun a o e=>by
  obtain⟨vs,q⟩:=g.wl a o e
  rw[q,(h a _ q).eq (by cases vs<;>rfl)]
 refine⟨⟨⟨fun a o e=>?_,tb⟩,g.ws,g.wt,g.len,fun i d q e=>?_⟩,st,fun a o e _=>⟨kp a o e,e⟩⟩
 ·obtain⟨vs,q⟩:=g.wl a o e
  exact⟨vs,(h a _ q).eq (by cases vs<;>rfl)⟩
 ·obtain⟨v,F,h1,h2⟩:=g.slot i d q e
  exact⟨v,F,h1,Rep.go g.wl st h2 fun a m=>⟨kp a _ (h2.aE a m),h2.aE a m⟩⟩
end L3
namespace L3
open PySem PySem.Spec PyProof.Rows PySem.W L2 PySem.SeqAt
end L3
namespace L3
open PySem PySem.Spec PyProof.Rows L2
end L3
namespace L3
open PySem PySem.Spec PyProof.Rows PySem.W L2
abbrev j9i:=aQ->Option (Str×aQ)
def CE (Y:Cx)(pins:List (Addr×Obj))(σ:St)(H:Hp)(w:Wn)(nm:Str)(ρ1:aQ)(ev:Value)(s':Shared):Prop:=
 ∃ s1 H1 w1 a C t B H',ev=.ref a/\Inv Y.nh pins σ H1 s1/\Good Y.K ρ1 σ H1 w1 0/\Go H w H1 w1/\RY Y.prog Y.w Y.stack H1 s1 a C t B H' s'/\nsIn Y.K mainGlobals nm=some (some (.ref C))/\(∀ b o,H1 b=some o->Sm o (H' b))/\TB Y.K H'
end L3
namespace L3
open PySem PySem.Spec PyProof.Rows L2
@[simp] def BG (i:Nat):aA:=fun ρ=>match ρ[i]? with
 | some (some (.lst ds,q))=>if q<=1 then some (.lst ds,1,ρ)else none
 | some (some (.tup ds,_))=>some (.lst ds,1,ρ)
 | _=>none
theorem Rep.rT{K:PySem.W.Frag}{H:Hp}{w:Wn}{o:Ow}{q:Nat}{ds:List D}{v:V}{F:List Addr}(r:Rep K H w o q (.lst ds) v F)(hq:q<=1):∃ a vs,v=.ref a/\cH K H a vs/\ae K H w o 0 ds vs []:=by
 cases r with
 | kl h r=>exact⟨_,_,rfl,h.sq,r⟩
 | shr h n r=>exact⟨_,_,rfl,.inl h,r⟩
 | own h n r ne=>
  rename_i q' _ _ _
  obtain rfl:q'=0:=by omega
  have e:=r.zero
  subst e
  exact⟨_,_,rfl,cH.of h,r⟩
section
variable {X:Cx}{pos p p1 p2:Pos}
theorem R0{i:Nat}{x:Str}(hm:X.mg "list" = none)(hb:bootBuiltins "list" = some (.type "list"))(h:QE X (.Name x p1) (eV i))(hg:Gl X "list":=by rfl)(he:starEach [.Name x p1] X.env=(false,eval (.Name x p1) X.env)::starEach [] X.env:=by rfl)(bS:(backTo pos (starEach [] X.env)).any (·.1)=false:=by rfl):QD X (.Call (.Name "list" p) [.Name x p1] [] pos) (BG i):=⟨have h:=h.o;PE.imp (pJ Ew hg hm hb (i8 h j5 he) (by decide) (by decide) he bS) fun σ H Q ai=>by
 obtain⟨ρ,w,t,r',q,ρ',gd,ee,k⟩:=ai
 unfold BG at ee
 split at ee
 next ds q0 e0=>
  split at ee
  next hq=>
   cases ee
   obtain⟨v,F,h1,h2⟩:=gd.slot i _ q0 e0
   obtain⟨p,ys,rfl,hs,rs⟩:=h2.rT hq
   refine⟨_,h1,p,ys,rfl,.inl hs,fun l hl=>?_⟩
   obtain⟨a1,a2,a3⟩:=lj gd hl (rs.any gd.wl)
   exact k _ _ _ _ a1 a2 a3
  ·cases ee
 next ds q0 e0=>
  cases ee
  obtain⟨v,F,h1,h2⟩:=gd.slot i _ q0 e0
  obtain⟨p,ys,rfl,hs,rs⟩:=h2.eJ
  refine⟨_,h1,p,ys,rfl,.inr hs,fun l hl=>?_⟩
  obtain⟨a1,a2,a3⟩:=lj gd hl (rs.any gd.wl)
  exact k _ _ _ _ a1 a2 a3
 ·cases ee⟩
end
end L3
namespace L3
open PySem PySem.Spec PyProof.Rows PySem.W L2
variable {Q:Bool->Shared->Prop}
abbrev met (ks:List Int):List Int:=firstMet (fun i=>ks.getD i 0) ks.length
theorem FX{K:PySem.W.Frag}{H:Hp}{w:Wn}{o:Ow}:∀ {ks:List Int} {vs:List V} {F:List Addr},ae K H w o 0 (ks.map D.int) vs F->vs=ks.map V.int
 | [],_,_,h=>by cases h;rfl
 | k::ks,_,_,h=>by
  cases h with
  | cons r rs _=>rw[fH r,FX rs];rfl
def bl (m:Nat):List Nat:=(List.range 5).filter fun i=>m.testBit i
def bt (m:Nat)(led:Bool):SetTable:={ mask:=if(bl m).length<5 then 7 else 31,place:=(bl m).toArray,dummies:=#[],finger:=0,led:=led,moves:=if(bl m).length<5 then 0 else 1,plain:=true }
def BH (m:Nat)(z:Nat->Tok):Array (Int×Value):=((bl m).map fun v:Nat=>(Int.ofNat v,Value.int (Int.ofNat v) (z v))).toArray
def so (m:Nat)(z:Nat->Tok)(ep:Nat)(led:Bool):Obj:={ cls:=.type "set",dict:=none,data:=.set (BH m z) ep (bt m led) }
def bor (m v:Nat):Nat:=m ||| 1 <<< v
def mb (val:Nat->Nat):Nat->Nat
 | 0=>0
 | i+1=>bor (mb val i) (val i)
section
variable {prog:Program}{w:World}{A:Around}{E:Value->Shared->Prop}{s:Shared}
abbrev fV (w:World):Bool:=w.params.followText "set-order"
theorem FY(led:Bool):(so 0 (fun _=>0) 0 led)={ cls:=.type "set",dict:=none,data:=.set #[] 0 (.fresh 0 0 led) }:=by unfold so;congr 1
theorem R1(a:Value){Q₁:Value->Shared->Prop}(h:Q₁ (.ref s.heap.objs.size) { s with heap:=s.heap.push (so 0 (fun _=>0) 0 (!fV w)) }) :
  codeAny (model prog w) A (.call (.builtin "set.__new__") ⟨[.type "set",a],[]⟩) (wants Q₁ E) s:=by
 refine codeAny_of_tree ?_
 show wpAny _ A.in1 (do checkBuiltinCall "set.__new__" ⟨[.type "set",a],[]⟩;again (.builtin "set.__new__" ⟨[.type "set",a],[]⟩)) _ _ s
 refine Qa (V0 (PySem.F.newCall_set_1 a) (Qe ⟨plainId_quiet VR _,ZY PySem.F.entry_set_new ?_⟩))
 rw[Jk VR _]
 unfold Builtin.«set.__new__» Builtin.Frozenset.newClass
 have du:=sub_set_self
 obtain⟨hp,g,d,tk,os⟩:=s
 dsimp only
 wp_walk
 refine Vy (Qe ?_)
 dsimp only
 simp only[newObj]
 refine Qa (wpAny_alloc (Qe ?_))
 rw[FY]at h
 exact Qe h
end
theorem FZ{α:Type}(next:Nat->Nat):∀ (fuel k:Nat) (bK:List α) (out:Array α),bK.length=fuel->(pickOrder.go next fuel k bK out).toList.Perm (out.toList++bK)
 | 0,k,bK,out,h=>by
  rw[List.eq_nil_of_length_eq_zero h,ZX];exact .rfl
 | fuel+1,k,bK,out,h=>by
  unfold pickOrder.go
  have bX:next k % bK.length<bK.length:=VH _ (by omega)
  rw[Qb bX]
  dsimp only
  refine(FZ next fuel (k+1) _ _ (by rw[V2,Qj bX];omega)).trans ?_
  rw[Array.toList_push,ZD]
  refine VS _ ?_
  rw[List.eraseIdx_eq_take_drop_succ]
  have e:bK=bK.take (next k % bK.length)++bK[next k % bK.length]::bK.drop (next k % bK.length+1):=by
   rw[List.getElem_cons_drop];exact(Yq _ _).symm
  conv=>rhs;rw[e]
  show List.Perm (bK[next k % bK.length]::(bK.take (next k % bK.length)++bK.drop (next k % bK.length+1))) _
  exact List.perm_middle.symm
theorem R3{α:Type}(next:Nat->Nat)(xs:Array α):(pickOrder next xs).toList.Perm xs.toList:=by
 unfold pickOrder
 exact FZ next _ 0 _ #[] (by simp)
theorem R4:entryFor table "set.__iter__" = some Builtin.«frozenset.__iter__»:=
 entryFor_alias (id':="frozenset.__iter__") (by kernel_rfl) rfl (by decide +kernel) (by kernel_rfl)
theorem t6:Slot "set_iterator" "__next__" "set_iterator.__next__" :=
 .of (owner:="set_iterator") (n:="__next__") (by rw[YL,JE];kernel_rfl) (by decide +kernel) (by decide +kernel) (by decide +kernel)
  (by first|exact .inl (by decide +kernel)|exact .inr (by decide +kernel)) (by rw[Yg];kernel_rfl)
theorem F4:entryFor table "set_iterator.__next__" = some Builtin.«set_iterator.__next__»:=entryFor_of_tree (by kernel_rfl)
theorem F5(a:Value):argsOk "set_iterator.__next__" ⟨[a],[]⟩:=by unfold argsOk;kernel_rfl
theorem F7:Slot "set_iterator" "__iter__" "set_iterator.__iter__" :=
 .of (owner:="set_iterator") (n:="__iter__") (by rw[YL,JE];kernel_rfl) (by decide +kernel) (by decide +kernel) (by decide +kernel)
  (by first|exact .inl (by decide +kernel)|exact .inr (by decide +kernel)) (by rw[Yg];kernel_rfl)
theorem R5(a:Value):argsOk "set_iterator.__iter__" ⟨[a],[]⟩:=by unfold argsOk;kernel_rfl
theorem R6:entryFor table "set_iterator.__iter__" = some Builtin.«dict_keyiterator.__iter__»:=
 entryFor_alias (id':="dict_keyiterator.__iter__") (by kernel_rfl) rfl (by decide +kernel) (by kernel_rfl)
def io (a:Addr)(sl i n ep:Nat):Obj:={ cls:=.type "set_iterator",dict:=none,data:=.fields #[.int (Int.ofNat sl) 0,.int (Int.ofNat i) 0,.ref a,.int (Int.ofNat n) 0,.int (Int.ofNat ep) 0],slots:=#[] }
def wk (w:World)(a:Addr)(m:Nat)(z:Nat->Tok)(ep:Nat):Array (Int×Value):=if fV w then pickOrder (w.params.setOrder a ep) (BH m z)else BH m z
section
variable {prog:Program}{w:World}{A:Around}{E:Value->Shared->Prop}{s:Shared}{a I:Addr}{m ep:Nat}{z:Nat->Tok}
theorem BI(h:Q (fV w) s):wpAny (model prog w) A setsByText Q E s:=by
 unfold setsByText
 exact Qa (Vy (Qe h))
theorem R7(hT:s.TypeIs (.ref a) "set")(h:Q false s):wpAny (model prog w) A (Builtin.List.listLengthHint (.ref a)) Q E s:=by
 unfold Builtin.List.listLengthHint
 refine Qa (YK hT PySem.F.slot_set_len.lookup ?_)
 generalize F8:("set.__len__":String)=R8
 wp_delta
 rw[show splitId R8=some ("set","__len__")from by subst F8;decide +kernel]
 subst F8
 refine Qa (Yy (T:="set") (b:=true) hT (by rw[Yg];kernel_rfl) ?_)
 refine wpAny_ite_split (fun mq=>absurd mq (by decide)) (fun _=>?_)
 refine wpAny_ite_split (fun _=>?_) (fun mq=>absurd (by decide +kernel) mq)
 refine Qa (JP hT ?_)
 exact Qe h
end
section
variable {X:Cx}{pins:List (Addr×Obj)}{σ:St}{H:Hp}{s:Shared}{a:Addr}{h1 h':Heap}{o:HO}{t':Nat}
theorem yJ{P:Program}{w:World}{h:Heap}(x:de P w H h)(k:∀ b u,h.get? b=some u->h1.get? b=some u)(hp:h1.objs.size<=a):H a=none:=by
 cases q:H a with
 | none=>rfl
 | some u=>exact absurd (QB ((x a u q).ip (h':=h1) (H':=H) (fun b u _ e=>k b u e) (fun _ e=>e) (fun _ _ e=>e)).lt hp) (Q0 _)
theorem BJ(I:Inv X pins σ H s)(k1:∀ b u,s.heap.get? b=some u->h1.get? b=some u)(hp:h1.objs.size<=a)(k:∀ b u,s.heap.get? b=some u->h'.get? b=some u)(new:cZ X.prog X.w (upd H a o) h' a o) :
  Inv X pins σ (upd H a o) { s with heap:=h',toks:=t' }:=by
 have hn:=yJ I.aB k1 hp
 refine I.un ⟨fun b u q _ _ _=>k b u q,fun b u q _ _ _=>⟨u.slots,k b u q⟩,fun b u q n _=>?_,fun b u q _=>⟨u,k b u q⟩,fun b xs q=>by rw[aZ (h_ q hn)];exact q,fun b u xs q=>by rw[aZ (h_ q hn)];exact q,
  fun b ps q=>⟨#[],by rw[aZ (h_ q hn),q];simp⟩⟩ fun b u e=>?_
 ·rw[aZ (QP (QB (Qp (k1 b u q)) hp))];exact n
 ·by_cases hb:b=a
  ·subst hb;rw[fO]at e;cases e;exact new
  ·rw[aZ hb]at e
   exact(I.aB b u e).ip (fun c v _ q=>k c v q) (fun c q=>by rw[aZ (h_ q hn)];exact q) fun c xs q=>by rw[aZ (h_ q hn)];exact q
end
theorem xI:∀ {ks:List Int} {us:List Value},IntsAre us ks->bc (ks.map V.int) us
 | _,_,.nil=>.nil
 | _,_,.cons k t r=>.cons ⟨t,rfl⟩ (xI r)
end L3
namespace L3
open PySem PySem.Spec PyProof.Rows L2
end L3
namespace L3
open PySem PySem.Spec PyProof.Rows PySem.W L2
end L3
namespace L3
open PySem PySem.Spec PyProof.Rows L2
variable {i:Nat}
def qf (fa:aA)(i:Nat):aA:=fun ρ=>match fa ρ with
 | some (d,_,ρ1)=>match ρ1[i]? with
  | some (some (e,_))=>match vh d e with
   | some r=>some (r,9,ρ1)
   | none=>none
  | _=>none
 | none=>none
section
variable {X:Cx}{a:Expr}{fa:aA}{pos p1:Pos}
theorem R9{K:PySem.W.Frag}:∀ σ H Q,tD K (qf fa i) σ H Q->j3 (yo K true) (tD K fa) (eV i) σ H Q:=fun σ H Q ai=>by
 obtain⟨ρ,w,t,r',q,ρ',gd,ee,k⟩:=ai
 unfold qf at ee
 split at ee
 next d q0 ρ1 h1=>
  split at ee
  next e q1 e1=>
   split at ee
   next r hd=>
    cases ee
    unfold vh at hd
    split at hd
    next hk=>
     cases hi:inD d e with
     | none=>rw[hi]at hd;cases hd
     | some b=>
      rw[hi]at hd
      cases hd
      refine⟨ρ,w,t,d,q0,ρ',gd,h1,fun v H1 w1 F g1 aJ r1=>?_⟩
      obtain⟨u,F',h3,h4⟩:=g1.slot i _ q1 e1
      exact⟨u,h3,d,e,b,⟨_,_,_,_,r1⟩,⟨_,_,_,_,h4⟩,hk.1,hk.2,hi,k _ H1 _ [] (g1.drop (t':=t)).up (aJ.drop gd.wt) (.bl _)⟩
    ·cases hd
   ·cases ee
  ·cases ee
 ·cases ee
theorem F9{k:Nat}{x:Str}(hr:a_ k X.A)(ha:QD X a fa)(hb:QE X (.Name x p1) (eV i))(hm:behindInMarks .NotIn (.Name x p1)=false:=by with_unfolding_all rfl):iS X (.Compare a [.NotIn] [.Name x p1] pos) (bB (qf fa i)):=⟨have ha:=ha.o;have hb:=hb.o;PT.imp (D9 (O_ (Bm hr)) ha hb hm) (E5 R9)⟩
end
end L3
namespace L3
open PySem PySem.Spec PyProof.Rows PySem.W L2
end L3
namespace L3
open PySem PySem.Spec PyProof.Rows L2
@[simp] def j9f:List D->Option D
 | [.int i,.int j]=>some (.int (if j<i then j else i))
 | _=>none
@[simp] def yK:List D->Option D
 | [.int i]=>some (.int i)
 | [.bl k]=>some (.int (if k then 1 else 0))
 | _=>none
section
variable {X:Cx}{a:Expr}{es:List Expr}{g:cy}{p pos:Pos}
theorem R_(hm:X.mg "int" = none)(ha:gh X [a] g)(hb:bootBuiltins "int" = some (.type "int"):=by kernel_rfl)(hg:Gl X "int":=by rfl)(he:starEach [a] X.env=(false,eval a X.env)::starEach [] X.env:=by rfl)(bS:(backTo pos (starEach [] X.env)).any (·.1)=false:=by rfl):QD X (.Call (.Name "int" p) [a] [] pos) (eB yK g):=⟨have ha:=ha.o;PE.imp (pJ Mp hg hm hb ha (by decide) (by decide) he bS) (yq fun ds d h=>by
  unfold yK at h
  split at h
  next i=>
   cases h
   refine⟨_,rfl,fun H w vs wl r Q hq=>?_⟩
   obtain⟨v,rfl,r1⟩:=one r
   exact .inl ⟨i,by rw[fH r1],hq⟩
  next k=>
   cases h
   refine⟨_,rfl,fun H w vs wl r Q hq=>?_⟩
   obtain⟨v,rfl,r1⟩:=one r
   cases r1
   exact .inr ⟨k,rfl,hq⟩
  ·cases h)⟩
end
end L3
namespace L3
open PySem PySem.Spec PyProof.Rows PySem.W L2
theorem Sa{α β:Type}{f:α->β}{ps qs:List β}(h:ps.Perm qs):∀ {l:List α},qs=l.map f->∃ l':List α,l'.Perm l/\ps=l'.map f:=by
 induction h with
 | nil=>
  intro l e
  have:=JT.mp e.symm
  subst this
  exact⟨[],.nil,rfl⟩
 | cons x _ ih=>
  intro l e
  cases l with
  | nil=>cases e
  | cons a l=>
   rw[QG]at e
   cases e
   obtain⟨l',p,e'⟩:=ih rfl
   exact⟨a::l',p.cons a,by rw[e'];rfl⟩
 | swap x y _=>
  intro l e
  match l,e with
  | [],e=>cases e
  | [a],e=>simp at e
  | a::b::l,e=>
   rw[QG,QG]at e
   cases e
   exact⟨b::a::l,.swap a b l,rfl⟩
 | trans _ _ l0 l3=>
  intro l e
  obtain⟨l2,p2,e2⟩:=l3 e
  obtain⟨l1,p1,e1⟩:=l0 e2
  exact⟨l1,p1.trans p2,e1⟩
end L3
namespace L3
open PySem PySem.SetTable
variable {Q:Bool->Shared->Prop}{a bx:Addr}{e ep i j m mask n:Nat}{h h':Heap}{hs kx:List Int}{o:Obj}{xs:Array Nat}
def Rs (xs:Array Nat):Prop:=∀ a b,a<b->b<xs.size->xs.getD a 0<xs.getD b 0
theorem F_(h:i<xs.size)(a b:Nat):xs.getD i a=xs.getD i b:=by
 unfold Array.getD
 rw[V6 h,V6 h]
theorem BK(r:Rs xs)(j:Nat):∀ (fuel lo hi:Nat),hi-lo<=fuel->lo<=hi->hi<=xs.size->(∀ i,i<lo->xs.getD i 0<j)->(∀ i,hi<=i->i<xs.size->j<=xs.getD i 0)->
  below.go xs j fuel lo hi<=xs.size/\(∀ i,i<below.go xs j fuel lo hi->xs.getD i 0<j)/\(∀ i,below.go xs j fuel lo hi<=i->i<xs.size->j<=xs.getD i 0)
 | 0,lo,hi,hf,hl,hs,h1,h2=>by
  unfold below.go
  exact⟨by omega,h1,fun i a b=>h2 i (by omega) b⟩
 | fuel+1,lo,hi,hf,hl,hs,h1,h2=>by
  unfold below.go
  by_cases c:lo<hi
  ·rw[Qj c]
   have hm:(lo+hi) / 2<xs.size:=by omega
   by_cases d:xs.getD ((lo+hi) / 2) j<j
   ·rw[Qj d]
    rw[F_ hm j 0]at d
    refine BK r j fuel _ hi (by omega) (by omega) hs (fun i cD=>?_) h2
    by_cases e:i=(lo+hi) / 2
    ·rw[e];exact d
    ·exact JQ (r i _ (by omega) hm) d
   ·rw[Qk d]
    rw[F_ hm j 0]at d
    refine BK r j fuel lo _ (by omega) (by omega) (by omega) h1 (fun i a b=>?_)
    by_cases e:i=(lo+hi) / 2
    ·rw[e];omega
    ·have:=r ((lo+hi) / 2) i (by omega) b
     omega
  ·rw[Qk c]
   exact⟨by omega,h1,fun i a b=>h2 i (by omega) b⟩
theorem vF(r:Rs xs)(j:Nat):below xs j<=xs.size/\(∀ i,i<below xs j->xs.getD i 0<j)/\(∀ i,below xs j<=i->i<xs.size->j<=xs.getD i 0):=
 BK r j xs.size 0 xs.size (by omega) (by omega) (Qi _) (fun _ h=>absurd h (Q8 _)) (fun i a b=>by omega)
theorem Sb(r:Rs xs)(h:xs[i]? = some j):below xs j=i:=by
 obtain⟨a,b,c⟩:=vF r j
 have hi:i<xs.size:=(Jb.mp h).1
 have e:xs.getD i 0=j:=by rw[QJ,h];rfl
 by_cases l:i<below xs j
 ·have:=b i l;omega
 ·by_cases l2:below xs j<i
  ·have h1:=c (below xs j) (Qi _) (by omega)
   have h2:=r (below xs j) i l2 hi
   omega
  ·omega
theorem vG{t:SetTable}(r:Rs t.place)(h:t.place[i]? = some j):t.slot j=.live i:=by
 unfold SetTable.slot
 rw[Sb r h]
 show(if(t.place[i]? == some j)=true then Slot.live i else _)=_
 rw[h]
 simp
theorem Sd{t:SetTable}(hd:t.dummies = #[])(h:∀ i:Nat,t.place[i]? ≠ some j):t.slot j=.empty:=by
 unfold SetTable.slot SetTable.has
 rw[hd]
 have:(t.place[below t.place j]? == some j)=false:=by
  rw[Z0];exact h _
 simp[this]
theorem vH{t:SetTable}(r:Rs t.place)(hd:t.dummies = #[])(j:Nat):(∃ i:Nat,t.place[i]? = some j/\t.slot j=.live i)\/((∀ i:Nat,t.place[i]? ≠ some j)/\t.slot j=.empty):=by
 by_cases h:∃ i:Nat,t.place[i]? = some j
 ·obtain⟨i,e⟩:=h
  exact .inl ⟨i,e,vG r e⟩
 ·have h':∀ i:Nat,t.place[i]? ≠ some j:=fun i e=>h ⟨i,e⟩
  exact .inr ⟨h',Sd hd h'⟩
def km (mask:Nat)(p:Probe):Probe:=if p.more > 0 then { p with j:=p.j+1,more:=p.more-1 }else { p with j:=(leap mask p.i p.perturb).1,more:=runEnd mask (leap mask p.i p.perturb).1-(leap mask p.i p.perturb).1,i:=(leap mask p.i p.perturb).1,perturb:=(leap mask p.i p.perturb).2 }
def bL (mask:Nat)(h:Int):Probe:={ j:=bits h % (mask+1),more:=runEnd mask (bits h % (mask+1))-bits h % (mask+1),i:=bits h % (mask+1),perturb:=bits h,dummy:=none }
def ba (mask:Nat)(p:Probe):Nat->Probe
 | 0=>p
 | m+1=>ba mask (km mask p) m
theorem mr(mask:Nat):∀ (m k:Nat) (p:Probe),ba mask p (m+k)=ba mask (ba mask p m) k
 | 0,k,p=>by rw[Yj];rfl
 | m+1,k,p=>by
  rw[Uc]
  exact mr mask m k (km mask p)
def lp (mask a pb:Nat):Probe:={ j:=a,more:=runEnd mask a-a,i:=a,perturb:=pb,dummy:=none }
theorem BL(mask:Nat):∀ (k:Nat) (p:Probe),k<=p.more->ba mask p k={ p with j:=p.j+k,more:=p.more-k }
 | 0,p,_=>rfl
 | k+1,p,h=>by
  show ba mask (km mask p) k=_
  have e:km mask p={ p with j:=p.j+1,more:=p.more-1 }:=by unfold km;rw[Qj (by omega)]
  rw[e,BL mask k _ (by show k<=p.more-1;omega)]
  show({ p with j:=p.j+1+k,more:=p.more-1-k }:Probe)={ p with j:=p.j+(k+1),more:=p.more-(k+1) }
  congr 1
  ·omega
  ·omega
theorem Se(mask a:Nat):runEnd mask a-a<=9:=by unfold runEnd;split<;>omega
theorem Ga(mask a pb:Nat):ba mask (lp mask a pb) (runEnd mask a-a+1)=lp mask (leap mask a pb).1 (leap mask a pb).2:=by
 rw[mr,BL mask (runEnd mask a-a) (lp mask a pb) (Qi _)]
 show km mask { lp mask a pb with j:=a+(runEnd mask a-a),more:=runEnd mask a-a-(runEnd mask a-a) }=_
 unfold km
 rw[Qk (by show ¬ runEnd mask a-a-(runEnd mask a-a) > 0;omega)]
 rfl
def lst (mask:Nat):Nat->Nat×Nat->Nat×Nat
 | 0,x=>x
 | s+1,x=>lst mask s (leap mask x.1 x.2)
theorem Gb(mask:Nat):∀ (s:Nat) (x:Nat×Nat),∃ m,m<=10*s/\ba mask (lp mask x.1 x.2) m=lp mask (lst mask s x).1 (lst mask s x).2
 | 0,x=>⟨0,Qi _,rfl⟩
 | s+1,x=>by
  obtain⟨m,hm,e⟩:=Gb mask s (leap mask x.1 x.2)
  have h:=Se mask x.1
  refine⟨runEnd mask x.1-x.1+1+m,by omega,?_⟩
  rw[mr,Ga]
  exact e
theorem Gc(mask:Nat):∀ (s r:Nat) (x:Nat×Nat),lst mask (s+r) x=lst mask r (lst mask s x)
 | 0,r,x=>by rw[Yj];rfl
 | s+1,r,x=>by rw[Uc];exact Gc mask s r _
theorem Gd(mask:Nat):∀ (s:Nat) (x:Nat×Nat),(lst mask s x).2=x.2 / 32 ^ s
 | 0,x=>by rw[Nat.pow_zero,Nat.div_one];rfl
 | s+1,x=>by
  show(lst mask s (leap mask x.1 x.2)).2=_
  rw[Gd mask s,Nat.pow_succ']
  show x.2 / 32 / 32 ^ s=_
  rw[Nat.div_div_eq_div_mul]
theorem Ge(mask:Nat):∀ (s:Nat) (x:Nat×Nat),x.1<=mask->(lst mask s x).1<=mask
 | 0,_,h=>h
 | s+1,x,_=>Ge mask s _ (by show(x.1*5+1+x.2 / 32) % (mask+1)<=mask;exact YO.mp (VH _ (JA mask)))
def nI (mask:Nat):Nat->Nat->Nat
 | 0,a=>a
 | s+1,a=>nI mask s ((a*5+1) % (mask+1))
theorem Gf(mask:Nat):∀ (s a:Nat),lst mask s (a,0)=(nI mask s a,0)
 | 0,_=>rfl
 | s+1,a=>by
  show lst mask s ((a*5+1+0 / 32) % (mask+1),0 / 32)=_
  rw[Nat.zero_div,Nat.add_zero]
  exact Gf mask s _
theorem yL(mask:Nat):∀ (s r a:Nat),nI mask (s+r) a=nI mask r (nI mask s a)
 | 0,r,a=>by rw[Yj];rfl
 | s+1,r,a=>by rw[Uc];exact yL mask s r _
def BM (mask:Nat):Nat->Nat->List Nat
 | 0,_=>[]
 | s+1,a=>a::BM mask s ((a*5+1) % (mask+1))
theorem Gg(mask:Nat):∀ (n a:Nat) {e:Nat},e∈BM mask n a->∃ s,s<n/\nI mask s a=e
 | 0,_,_,h=>nomatch h
 | n+1,a,e,h=>by
  rcases Qw.mp h with rfl|h
  ·exact⟨0,JA _,rfl⟩
  ·obtain⟨s,hs,q⟩:=Gg mask n _ h
   exact⟨s+1,Nat.succ_lt_succ hs,q⟩
structure Mk (mask:Nat):Prop where
 all:∀ e,e<=mask->∃ s,s<mask+1/\nI mask s 0=e
 back:nI mask (mask+1) 0=0
 odd:mask % 2=1
 dM:mask<=511
theorem Mk.of(mask:Nat)(o:mask % 2=1)(fw:mask<=511)(h:((List.range (mask+1)).all fun e=>(BM mask (mask+1) 0).contains e)=true)(b:nI mask (mask+1) 0=0):Mk mask:=
 ⟨fun e he=>Gg mask _ 0 (by
   have:=Ju.mp h e (Qz.mpr (by omega))
   exact List.contains_iff_mem.mp this),b,o,fw⟩
theorem Gh:Mk 7:=.of 7 rfl (by decide) (by decide +kernel) (by decide +kernel)
theorem Sf:Mk 31:=.of 31 rfl (by decide) (by decide +kernel) (by decide +kernel)
theorem Sg:Mk 127:=.of 127 rfl (by decide) (by decide +kernel) (by decide +kernel)
theorem Si:Mk 511:=.of 511 rfl (by decide) (by decide +kernel) (by decide +kernel)
theorem Mk.any(k:Mk mask){a:Nat}(ha:a<=mask)(he:e<=mask):∃ s,s<mask+1/\nI mask s a=e:=by
 obtain⟨s0,h0,e0⟩:=k.all a ha
 obtain⟨s1,h1,e1⟩:=k.all e he
 by_cases c:s0<=s1
 ·refine⟨s1-s0,by omega,?_⟩
  rw[<- e0,<- yL,show s0+(s1-s0)=s1 by omega]
  exact e1
 ·refine⟨s1+(mask+1)-s0,by omega,?_⟩
  rw[<- e0,<- yL,show s0+(s1+(mask+1)-s0)=(mask+1)+s1 by omega,yL,k.back]
  exact e1
theorem Sj(h:Int):bits h<2 ^ 64:=by unfold bits;omega
theorem BN(k:Mk mask)(h:Int)(he:e<=mask):∃ m,m<10*turns mask/\(ba mask (bL mask h) m).j=e/\∃ s,s<turns mask/\(lst mask s (bits h % (mask+1),bits h)).1=e:=by
 have h0:bits h % (mask+1)<=mask:=YO.mp (VH _ (JA mask))
 have z:(lst mask 13 (bits h % (mask+1),bits h)).2=0:=by
  rw[Gd]
  exact Vz (QB (Sj h) (by decide))
 have Sk:=Ge mask 13 (bits h % (mask+1),bits h) h0
 obtain⟨s,hs,es⟩:=k.any Sk he
 have e1:lst mask (13+s) (bits h % (mask+1),bits h)=(e,0):=by
  rw[Gc]
  have:lst mask 13 (bits h % (mask+1),bits h)=((lst mask 13 (bits h % (mask+1),bits h)).1,0):=by rw[<- z]
  rw[this,Gf,es]
 obtain⟨m,hm,em⟩:=Gb mask (13+s) (bits h % (mask+1),bits h)
 rw[e1]at em
 refine⟨m,by unfold turns;omega,?_,13+s,by unfold turns;omega,by rw[e1]⟩
 have:bL mask h=lp mask (bits h % (mask+1)) (bits h):=rfl
 rw[this,em]
 rfl
theorem Gi(mask:Nat):∀ (m:Nat) (p:Probe),p.dummy=none->(ba mask p m).dummy=none
 | 0,_,h=>h
 | m+1,p,h=>Gi mask m _ (by unfold km;split<;>exact h)
theorem Gj(t:SetTable)(hashAt:Nat->Int)(h:Int)(r:Rs t.place)(hd:t.dummies = #[]):∀ (fuel:Nat) (p:Probe),p.dummy=none->(∃ m,m<fuel/\t.slot (ba t.mask p m).j=.empty)->
  ∃ m,m<fuel/\(∀ m',m'<m->∃ i,t.slot (ba t.mask p m').j=.live i/\hashAt i≠h)/\((t.slot (ba t.mask p m).j=.empty/\probe.go t hashAt h fuel p=some (.empty (ba t.mask p m).j none))\/∃ i,t.slot (ba t.mask p m).j=.live i/\hashAt i=h/\probe.go t hashAt h fuel p=some (.candidate (ba t.mask p m).j i (ba t.mask p (m+1))))
 | 0,_,_,⟨m,hm,_⟩=>absurd hm (Q8 _)
 | fuel+1,p,hp,⟨M,hM,eM⟩=>by
  rcases vH r hd p.j with⟨i,_,e⟩|⟨_,e⟩
  ·by_cases c:hashAt i=h
   ·refine⟨0,JA _,fun _ z=>absurd z (Q8 _),.inr ⟨i,e,c,?_⟩⟩
    show probe.go t hashAt h (fuel+1) p=some (.candidate p.j i (km t.mask p))
    unfold probe.go
    rw[e]
    show(if(hashAt i==h)=true then _ else _)=_
    rw[Qj (by rw[c];exact Z6 h)]
    rfl
   ·have n0:M≠0:=fun z=>by
     subst z
     have:t.slot p.j=.empty:=eM
     rw[e]at this;cases this
    obtain⟨M',rfl⟩:=YD n0
    have j9:(km t.mask p).dummy=none:=by unfold km;split<;>exact hp
    obtain⟨m,hm,a,b⟩:=Gj t hashAt h r hd fuel (km t.mask p) j9 ⟨M',by omega,eM⟩
    have go:probe.go t hashAt h (fuel+1) p=probe.go t hashAt h fuel (km t.mask p):=by
     conv=>lhs;unfold probe.go
     rw[e]
     show(if(hashAt i==h)=true then _ else _)=_
     rw[Qk (by rw[Jq];exact c)]
     rfl
    refine⟨m+1,by omega,fun m' fT=>?_,?_⟩
    ·match m' with
     | 0=>exact⟨i,e,c⟩
     | m'+1=>exact a m' (by omega)
    ·rw[go]
     exact b
  ·refine⟨0,JA _,fun _ z=>absurd z (Q8 _),.inl ⟨e,?_⟩⟩
   show probe.go t hashAt h (fuel+1) p=some (.empty p.j none)
   unfold probe.go
   rw[e]
   show some (Met.empty p.j p.dummy)=_
   rw[hp]
structure fM (t:SetTable) (hs:List Int):Prop where
 sz:t.place.size=hs.length
 rs:Rs t.place
 nd:t.dummies = #[]
 rd:Mk t.mask
 le:∀ (i j:Nat),t.place[i]? = some j->j<=t.mask
 room:hs.length<=t.mask
 vI:∀ (i j:Nat) (h:Int),t.place[i]? = some j->hs[i]? = some h->∃ m,m<10*turns t.mask/\(ba t.mask (bL t.mask h) m).j=j/\∀ m',m'<m->∃ i',t.slot (ba t.mask (bL t.mask h) m').j=.live i'
theorem BO:∀ {l l':List Nat},l.Nodup->(∀ x∈l,x∈l')->l.length<=l'.length
 | [],_,_,_=>QS _
 | a::l,l',nd,h=>by
  have ha:=h a Qh
  have i:=BO (l:=l) (l':=l'.erase a) (Q7.mp nd).2 fun x hx=>by
   have ne:x≠a:=fun z=>(Q7.mp nd).1 (z ▸ hx)
   exact(YE ne).mpr (h x (Qg _ hx))
  rw[JY ha]at i
  have:0<l'.length:=Yk ha
  show l.length+1<=l'.length
  omega
section
variable {t:SetTable}{hs:List Int}(T:fM t hs)
include T
theorem fM.hole:∃ e,e<=t.mask/\t.slot e=.empty:=by
 by_cases h:∃ e,e<=t.mask/\t.slot e=.empty
 ·exact h
 ·have all:∀ e∈List.range (t.mask+1),e∈t.place.toList:=fun e he=>by
   have vB:=Qz.mp he
   rcases vH T.rs T.nd e with⟨i,a,_⟩|⟨_,a⟩
   ·obtain⟨hi,q⟩:=Jb.mp a
    rw[<- q]
    exact YC.mpr (Vk hi)
   ·exact absurd ⟨e,by omega,a⟩ h
  have:=BO Yz all
  rw[QM,QN,T.sz]at this
  have:=T.room
  omega
theorem fM.met(h:Int):∃ m,m<10*turns t.mask/\t.slot (ba t.mask (bL t.mask h) m).j=.empty/\∀ m',m'<m->∃ i,t.slot (ba t.mask (bL t.mask h) m').j=.live i:=by
 obtain⟨e,he,q⟩:=T.hole
 obtain⟨M,hM,eM,_⟩:=BN T.rd h he
 have ex:∃ m,t.slot (ba t.mask (bL t.mask h) m).j=.empty:=⟨M,by rw[eM];exact q⟩
 have key:∀ k,(∃ m,m<k/\t.slot (ba t.mask (bL t.mask h) m).j=.empty)->∃ m,m<k/\t.slot (ba t.mask (bL t.mask h) m).j=.empty/\∀ m',m'<m->t.slot (ba t.mask (bL t.mask h) m').j ≠ .empty:=by
  intro k
  induction k with
  | zero=>exact fun⟨m,hm,_⟩=>absurd hm (Q8 _)
  | succ k ih=>
   intro ⟨m,hm,em⟩
   by_cases c:∃ m,m<k/\t.slot (ba t.mask (bL t.mask h) m).j=.empty
   ·obtain⟨m',a,b⟩:=ih c
    exact⟨m',by omega,b⟩
   ·exact⟨m,hm,em,fun m' fT z=>c ⟨m',by omega,z⟩⟩
 obtain⟨m,hm,em,bm⟩:=key (10*turns t.mask) ⟨M,hM,by rw[eM];exact q⟩
 refine⟨m,hm,em,fun m' fT=>?_⟩
 rcases vH T.rs T.nd (ba t.mask (bL t.mask h) m').j with⟨i,_,a⟩|⟨_,a⟩
 ·exact⟨i,a⟩
 ·exact absurd a (bm m' fT)
end
theorem tq{α:Type}(xs:Array α)(p:Nat)(x:α)(hp:p<=xs.size)(i:Nat):(insertAt xs p x)[i]? = if i<p then xs[i]? else if i=p then some x else xs[i-1]?:=by
 have e:(insertAt xs p x).toList=xs.toList.take p++x::xs.toList.drop p:=by
  unfold insertAt
  simp
  exact Yl (by rw[ZO,QN];exact Qi _)
 rw[<- Q5,e]
 by_cases h1:i<p
 ·rw[Qj h1,QW (by rw[Za,QN];omega),ZP h1,Q5]
 ·rw[Qk h1,Zp (by rw[Za,QN];omega),Za,QN,Nat.min_eq_left hp]
  by_cases h2:i=p
  ·rw[Qj h2,h2,Ud];rfl
  ·rw[Qk h2]
   obtain⟨k,rfl⟩:∃ k,i=p+k+1:=⟨i-p-1,by omega⟩
   rw[show p+k+1-p=k+1 by omega,Zy,List.getElem?_drop,Q5]
   rfl
theorem Gk{α:Type}(xs:Array α)(p:Nat)(x:α)(hp:p<=xs.size):(insertAt xs p x).size=xs.size+1:=by
 unfold insertAt
 simp
 omega
theorem BP(h:xs[i]? = some j):xs.getD i 0=j:=by rw[QJ,h];rfl
theorem yM(h:i<xs.size):xs[i]? = some (xs.getD i 0):=by
 unfold Array.getD
 rw[V6 h]
 exact Zd h
theorem Sl(r:Rs xs)(hj:∀ i:Nat,xs[i]? ≠ some j):Rs (insertAt xs (below xs j) j):=by
 obtain⟨a,b,c⟩:=vF r j
 have sz:=Gk xs (below xs j) j a
 have g:∀ i,i<xs.size+1->(insertAt xs (below xs j) j).getD i 0=if i<below xs j then xs.getD i 0 else if i=below xs j then j else xs.getD (i-1) 0:=fun i hi=>by
  refine BP ?_
  rw[tq xs _ j a]
  by_cases h1:i<below xs j
  ·rw[Qj h1,Qj h1];exact yM (by omega)
  ·rw[Qk h1,Qk h1]
   by_cases h2:i=below xs j
   ·rw[Qj h2,Qj h2]
   ·rw[Qk h2,Qk h2];exact yM (by omega)
 have c':∀ i,below xs j<=i->i<xs.size->j<xs.getD i 0:=fun i h1 h2=>by
  have:=c i h1 h2
  have ne:xs.getD i 0≠j:=fun z=>hj i (by rw[yM h2,z])
  omega
 intro x y Sr hy
 rw[sz]at hy
 rw[g x (by omega),g y hy]
 by_cases h1:y<below xs j
 ·rw[Qj (by omega),Qj h1];exact r x y Sr (by omega)
 ·rw[Qk h1]
  by_cases h2:y=below xs j
  ·rw[Qj h2,Qj (by omega)];exact b x (by omega)
  ·rw[Qk h2]
   by_cases h3:x<below xs j
   ·rw[Qj h3]
    have:=b x h3
    have:=c' (y-1) (by omega) (by omega)
    omega
   ·rw[Qk h3]
    by_cases h4:x=below xs j
    ·rw[Qj h4];exact c' (y-1) (by omega) (by omega)
    ·rw[Qk h4];exact r (x-1) (y-1) (by omega) (by omega)
def gZ {α:Type}(l:List α)(p:Nat)(x:α):List α:=l.take p++x::l.drop p
theorem BQ{α:Type}(l:List α)(p:Nat)(x:α)(hp:p<=l.length)(i:Nat):(gZ l p x)[i]? = if i<p then l[i]? else if i=p then some x else l[i-1]?:=by
 unfold gZ
 by_cases h1:i<p
 ·rw[Qj h1,QW (by rw[Za];omega),ZP h1]
 ·rw[Qk h1,Zp (by rw[Za];omega),Za,Nat.min_eq_left hp]
  by_cases h2:i=p
  ·rw[Qj h2,h2,Ud];rfl
  ·rw[Qk h2]
   obtain⟨k,rfl⟩:∃ k,i=p+k+1:=⟨i-p-1,by omega⟩
   rw[show p+k+1-p=k+1 by omega,Zy,List.getElem?_drop]
   rfl
theorem rU{α:Type}(l:List α)(p:Nat)(x:α):(gZ l p x).length=l.length+1:=by
 unfold gZ
 rw[Qn,QO,Za,ZO]
 omega
theorem fM.put{t:SetTable}(T:fM t hs){h:Int}(hm:m<10*turns t.mask)(em:t.slot (ba t.mask (bL t.mask h) m).j=.empty)(bm:∀ m',m'<m->∃ i,t.slot (ba t.mask (bL t.mask h) m').j=.live i)(hj:(ba t.mask (bL t.mask h) m).j<=t.mask)(hr:hs.length+1<=t.mask) :
  (t.put (ba t.mask (bL t.mask h) m).j).2<=hs.length/\(t.put (ba t.mask (bL t.mask h) m).j).1.mask=t.mask/\fM (t.put (ba t.mask (bL t.mask h) m).j).1 (gZ hs (t.put (ba t.mask (bL t.mask h) m).j).2 h):=by
 generalize BR:(ba t.mask (bL t.mask h) m).j=j at *
 have ne:∀ i:Nat,t.place[i]? ≠ some j:=fun i e=>by rw[vG T.rs e]at em;cases em
 have pe:t.put j=({ t with place:=insertAt t.place (below t.place j) j,dummies:=#[] },below t.place j):=by
  unfold SetTable.put SetTable.has
  rw[T.nd]
  simp
 rw[pe]
 obtain⟨a,b,c⟩:=vF T.rs j
 have sz:=T.sz
 have oI:Rs (insertAt t.place (below t.place j) j):=Sl T.rs ne
 have lv:∀ (k i:Nat),t.slot k=.live i->∃ i',({ t with place:=insertAt t.place (below t.place j) j,dummies:=#[] }:SetTable).slot k=.live i':=fun k i e=>by
  rcases vH T.rs T.nd k with⟨i',e',_⟩|⟨_,e'⟩
  ·refine⟨if i'<below t.place j then i' else i'+1,vG oI ?_⟩
   show(insertAt t.place (below t.place j) j)[_]? = some k
   rw[tq t.place _ j a]
   by_cases h1:i'<below t.place j
   ·rw[Qj h1,Qj h1];exact e'
   ·rw[Qk h1,Qk (by omega),Qk (by omega)]
    exact e'
  ·rw[e]at e';cases e'
 refine⟨by show below t.place j<=hs.length;omega,rfl,?_⟩
 refine⟨by show(insertAt t.place (below t.place j) j).size=_;rw[Gk _ _ _ a,rU];omega,oI,rfl,T.rd,fun i k e=>?_,by rw[rU];exact hr,fun i k h' e eh=>?_⟩
 ·have e':(insertAt t.place (below t.place j) j)[i]? = some k:=e
  rw[tq t.place _ j a]at e'
  by_cases h1:i<below t.place j
  ·rw[Qj h1]at e';exact T.le i k e'
  ·rw[Qk h1]at e'
   by_cases h2:i=below t.place j
   ·rw[Qj h2]at e';cases e';exact hj
   ·rw[Qk h2]at e';exact T.le _ k e'
 ·have e':(insertAt t.place (below t.place j) j)[i]? = some k:=e
  have qg:(gZ hs (below t.place j) h)[i]? = some h':=eh
  rw[tq t.place _ j a]at e'
  rw[BQ hs _ h (by omega)]at qg
  have old:∀ i0,t.place[i0]? = some k->hs[i0]? = some h'->∃ m,m<10*turns t.mask/\(ba t.mask (bL t.mask h') m).j=k/\∀ m',m'<m->∃ i',({ t with place:=insertAt t.place (below t.place j) j,dummies:=#[] }:SetTable).slot (ba t.mask (bL t.mask h') m').j=.live i':=fun i0 x y=>by
   obtain⟨m0,q1,q2,q3⟩:=T.vI i0 k h' x y
   refine⟨m0,q1,q2,fun m' fT=>?_⟩
   obtain⟨i',q⟩:=q3 m' fT
   exact lv _ _ q
  by_cases h1:i<below t.place j
  ·rw[Qj h1]at e' qg;exact old _ e' qg
  ·rw[Qk h1]at e' qg
   by_cases h2:i=below t.place j
   ·rw[Qj h2]at e' qg
    cases e'
    cases qg
    refine⟨m,hm,BR,fun m' fT=>?_⟩
    obtain⟨i',q⟩:=bm m' fT
    exact lv _ _ q
   ·rw[Qk h2]at e' qg;exact old _ e' qg
theorem vJ(mask:Nat)(h:Int)(m:Nat):(ba mask (bL mask h) m).j<=mask:=by
 have key:∀ (m:Nat) (p:Probe),p.j+p.more<=mask->(ba mask p m).j<=mask:=by
  intro m
  induction m with
  | zero=>intro p hp;show p.j<=mask;omega
  | succ m ih=>
   intro p hp
   refine ih _ ?_
   unfold km
   split
   ·show p.j+1+(p.more-1)<=mask;omega
   ·show(leap mask p.i p.perturb).1+(runEnd mask (leap mask p.i p.perturb).1-(leap mask p.i p.perturb).1)<=mask
    have:(leap mask p.i p.perturb).1<=mask:=YO.mp (VH _ (JA mask))
    unfold runEnd
    split<;>omega
 refine key m _ ?_
 show bits h % (mask+1)+(runEnd mask (bits h % (mask+1))-bits h % (mask+1))<=mask
 have:bits h % (mask+1)<=mask:=YO.mp (VH _ (JA mask))
 unfold runEnd
 split<;>omega
theorem fM.fresh(finger moves:Nat)(led:Bool):fM (.fresh finger moves led) []:=
 ⟨rfl,fun a b _ h=>absurd h (Q8 _),rfl,Gh,fun i j e=>by
   have:(#[]:Array Nat)[i]? = some j:=e
   simp at this,QS _,fun i j h e _=>by
   have:(#[]:Array Nat)[i]? = some j:=e
   simp at this⟩
abbrev lC:=Array (Option Nat)
def jR (ow:lC)(j:Nat):Bool:=(ow.getD j (some 0)).isNone
theorem Ss{p:Nat->Bool}:(∃ k,k<n/\(List.range n).find? p=some k/\p k=true/\∀ k',k'<k->p k'=false)\/((List.range n).find? p=none/\∀ k',k'<n->p k'=false):=by
 cases h:(List.range n).find? p with
 | none=>exact .inr ⟨rfl,fun k' hk=>by
   have:=List.find?_eq_none.mp h k' (Qz.mpr hk)
   simpa using this⟩
 | some k=>
  rw[List.find?_range_eq_some]at h
  refine .inl ⟨k,Qz.mp h.2.1,rfl,h.1,fun k' ki=>?_⟩
  have:=h.2.2 k' ki
  simpa using this
theorem Gm(mask:Nat)(ow:lC):∀ (fuel:Nat) (x:Nat×Nat),(∃ s,s<fuel/\jR ow (lst mask s x).1=true)->∃ m,layClean.free mask ow fuel x.1 x.2=some (ba mask (lp mask x.1 x.2) m).j/\jR ow (ba mask (lp mask x.1 x.2) m).j=true/\∀ m',m'<m->jR ow (ba mask (lp mask x.1 x.2) m').j=false
 | 0,_,⟨s,hs,_⟩=>absurd hs (Q8 _)
 | fuel+1,x,⟨s,hs,es⟩=>by
  have run:∀ k,k<=runEnd mask x.1-x.1->(ba mask (lp mask x.1 x.2) k).j=x.1+k:=fun k hk=>by rw[BL mask k _ hk];rfl
  have ge:x.1<=runEnd mask x.1:=by unfold runEnd;split<;>omega
  rcases Ss (n:=runEnd mask x.1+1-x.1) (p:=fun k=>(ow.getD (x.1+k) (some 0)).isNone)with⟨k,hk,e,pk,bk⟩|⟨e,bk⟩
  ·refine⟨k,?_,?_,fun m' fT=>?_⟩
   ·unfold layClean.free
    rw[e,run k (by omega)]
   ·rw[run k (by omega)];exact pk
   ·rw[run m' (by omega)];exact bk m' fT
  ·have s0:s≠0:=fun z=>by
    subst z
    have h1:(ow.getD (x.1+0) (some 0)).isNone=false:=bk 0 (by omega)
    have h2:(ow.getD x.1 (some 0)).isNone=true:=es
    rw[Nat.add_zero,h2]at h1
    cases h1
   obtain⟨s',rfl⟩:=YD s0
   obtain⟨m,a,b,c⟩:=Gm mask ow fuel (leap mask x.1 x.2) ⟨s',by omega,es⟩
   have go:∀ m,ba mask (lp mask x.1 x.2) (runEnd mask x.1-x.1+1+m)=ba mask (lp mask (leap mask x.1 x.2).1 (leap mask x.1 x.2).2) m:=fun m=>by rw[mr,Ga]
   refine⟨runEnd mask x.1-x.1+1+m,?_,?_,fun m' fT=>?_⟩
   ·rw[go,<- a]
    conv=>lhs;unfold layClean.free
    rw[e]
   ·rw[go];exact b
   ·by_cases h1:m'<=runEnd mask x.1-x.1
    ·rw[run m' h1];exact bk m' (by omega)
    ·obtain⟨q,rfl⟩:∃ q,m'=runEnd mask x.1-x.1+1+q:=⟨m'-(runEnd mask x.1-x.1+1),by omega⟩
     rw[go]
     exact c q (by omega)
def fB (mask:Nat)(ow:lC):List (Nat×Nat):=(List.range (mask+1)).filterMap fun j=>(ow.getD j none).map (j,·)
theorem BS{α β:Type}{f g:α->Option β}:∀ {l:List α},(∀ x∈l,g x=f x)->l.filterMap g=l.filterMap f
 | [],_=>rfl
 | x::l,h=>by
  rw[Js,Js,h x Qh,BS fun y hy=>h y (Qg _ hy)]
theorem Gn{α β:Type}[DecidableEq α]{f g:α->Option β}{a:α}{b:β}(hf:f a=none)(hg:g a=some b):∀ {l:List α},l.Nodup->a∈l->(∀ x∈l,x≠a->g x=f x)->(l.filterMap g).Perm (b::l.filterMap f)
 | [],_,h,_=>nomatch h
 | x::l,nd,h,e=>by
  by_cases c:x=a
  ·subst c
   have same:l.filterMap g=l.filterMap f:=BS fun y hy=>e y (Qg _ hy) fun z=>(Q7.mp nd).1 (z ▸ hy)
   rw[Jr hg,JZ hf,same]
  ·have ha:a∈l:=by
    rcases Qw.mp h with z|z
    ·exact absurd z.symm c
    ·exact z
   have ih:=Gn hf hg (Q7.mp nd).2 ha fun y hy=>e y (Qg _ hy)
   have ex:=e x Qh c
   cases q:f x with
   | none=>
    rw[q]at ex
    rw[JZ ex,JZ q]
    exact ih
   | some y=>
    rw[q]at ex
    rw[Jr ex,Jr q]
    exact(ih.cons y).trans (List.Perm.swap b y _)
structure iI (mask:Nat) (hs:List Int) (ow:lC) (js:List Nat):Prop where
 sz:ow.size=mask+1
 pm:(fB mask ow).Perm js.zipIdx
 vI:∀ j k,j<=mask->ow.getD j none=some k->∃ h m,hs[k]? = some h/\m<10*turns mask/\(ba mask (bL mask h) m).j=j/\∀ m',m'<m->jR ow (ba mask (bL mask h) m').j=false
theorem vK{ow:lC}(h:j<ow.size):jR ow j=(ow.getD j none).isNone:=by
 unfold jR Array.getD
 rw[V6 h,V6 h]
theorem yN{ow:lC}{k:Nat}:(j,k)∈fB mask ow ↔ j<=mask/\ow.getD j none=some k:=by
 unfold fB
 rw[Y2]
 constructor
 ·rintro ⟨x,hx,e⟩
  rw[Qv]at e
  obtain⟨y,a,b⟩:=e
  cases b
  exact⟨by have:=Qz.mp hx;omega,a⟩
 ·rintro ⟨a,b⟩
  exact⟨j,Qz.mpr (by omega),by rw[b];rfl⟩
theorem Su{ow:lC}(sz:ow.size=mask+1)(h:(fB mask ow).length<=mask):∃ e,e<=mask/\jR ow e=true:=by
 by_cases c:∃ e,e<=mask/\jR ow e=true
 ·exact c
 ·have all:∀ e∈List.range (mask+1),e∈(fB mask ow).map (·.1):=fun e he=>by
   have vB:=Qz.mp he
   cases q:ow.getD e none with
   | none=>exact absurd ⟨e,by omega,by rw[vK (by omega),q];rfl⟩ c
   | some k=>exact Qr.mpr ⟨(e,k),yN.mpr ⟨by omega,q⟩,rfl⟩
  have:=BO Yz all
  rw[QM,Qc]at this
  omega
theorem iI.add(K:Mk mask){ow:lC}{js:List Nat}(O:iI mask hs ow js)(h:Int)(hh:hs[js.length]? = some h)(room:js.length<=mask) :
  ∃ j,layClean.free mask ow (turns mask) (bits h % (mask+1)) (bits h)=some j/\iI mask hs (ow.setIfInBounds j (some js.length)) (js++[j]):=by
 have len:(fB mask ow).length=js.length:=by rw[O.pm.length_eq,Y9]
 obtain⟨e,he,q⟩:=Su O.sz (by omega)
 obtain⟨_,_,_,s,jv,es⟩:=BN K h he
 obtain⟨m,a,b,c⟩:=Gm mask ow (turns mask) (bits h % (mask+1),bits h) ⟨s,jv,by rw[es];exact q⟩
 have a':layClean.free mask ow (turns mask) (bits h % (mask+1)) (bits h)=some (ba mask (bL mask h) m).j:=a
 have b':jR ow (ba mask (bL mask h) m).j=true:=b
 have c':∀ m',m'<m->jR ow (ba mask (bL mask h) m').j=false:=c
 have hm:m<10*turns mask:=by
  obtain⟨M,hM,eM,_⟩:=BN K h he
  by_cases z:m<10*turns mask
  ·exact z
  ·have:=c' M (by omega)
   rw[eM,q]at this
   cases this
 have jl:=vJ mask h m
 refine⟨(ba mask (bL mask h) m).j,a',?_⟩
 generalize hj:(ba mask (bL mask h) m).j=j at *
 have sz:=O.sz
 have get:∀ x,(ow.setIfInBounds j (some js.length)).getD x none=if x=j then some js.length else ow.getD x none:=fun x=>by
  rw[QJ,QJ,Array.getElem?_setIfInBounds]
  by_cases z:x=j
  ·subst z;rw[Qj rfl,Qj (by omega),Qj rfl];rfl
  ·rw[Qk fun y=>z y.symm,Qk z]
 have jn:ow.getD j none=none:=by
  have:=b'
  rw[vK (by omega)]at this
  exact Option.isNone_iff_eq_none.mp this
 have hl:∀ x,x<=mask->jR ow x=false->jR (ow.setIfInBounds j (some js.length)) x=false:=fun x hx y=>by
  rw[vK (by omega)]at y
  rw[vK (by rw[Vq];omega),get]
  by_cases z:x=j
  ·rw[Qj z];rfl
  ·rw[Qk z];exact y
 refine⟨by rw[Vq];exact sz,?_,fun x k hx e=>?_⟩
 ·have p1:(fB mask (ow.setIfInBounds j (some js.length))).Perm ((j,js.length)::fB mask ow):=Gn (a:=j) (by rw[jn];rfl) (by rw[get,Qj rfl];rfl) Yz (Qz.mpr (by omega)) fun x _ z=>by rw[get,Qk z]
  have e:(js++[j]).zipIdx=js.zipIdx++[(j,js.length)]:=by rw[List.zipIdx_append];simp
  rw[e]
  exact p1.trans ((O.pm.cons _).trans (List.perm_append_singleton _ _).symm)
 ·rw[get]at e
  by_cases z:x=j
  ·rw[Qj z]at e
   cases e
   subst z
   exact⟨h,m,hh,hm,hj,fun m' fT=>hl _ (vJ mask h m') (c' m' fT)⟩
  ·rw[Qk z]at e
   obtain⟨h',m0,q1,q2,q3,q4⟩:=O.vI x k hx e
   exact⟨h',m0,q1,q2,q3,fun m' fT=>hl _ (vJ mask h' m') (q4 m' fT)⟩
theorem iI.start(mask:Nat)(hs:List Int):iI mask hs (Array.replicate (mask+1) none) []:=by
 have g:∀ j,(Array.replicate (mask+1) (none:Option Nat)).getD j none=none:=fun j=>by
  rw[QJ,Array.getElem?_replicate]
  split<;>rfl
 refine⟨Array.size_replicate,?_,fun j k _ e=>by rw[g]at e;cases e⟩
 have:fB mask (Array.replicate (mask+1) none)=[]:=by
  unfold fB
  exact List.filterMap_eq_nil_iff.mpr fun j _=>by rw[g];rfl
 rw[this]
 exact List.Perm.nil
theorem Sv(K:Mk mask)(hs:List Int)(room:hs.length<=mask):∃ ow js,layClean mask hs.toArray=some ow/\js.length=hs.length/\iI mask hs ow js:=by
 have key:∀ (r:List Int) (ow:lC) (js:List Nat),iI mask hs ow js->(∀ i h,r[i]? = some h->hs[js.length+i]? = some h)->js.length+r.length<=mask->
   ∃ yO vM,r.foldl (fun(acc:Option (lC×Nat)) h=>(do
    let (owner,k) <- acc
    let j <- layClean.free mask owner (turns mask) (bits h % (mask+1)) (bits h)
    pure (owner.setIfInBounds j (some k),k+1))) (some (ow,js.length))=some (yO,vM.length)/\vM.length=js.length+r.length/\iI mask hs yO vM:=by
  intro r
  induction r with
  | nil=>intro ow js O _ _;exact⟨ow,js,rfl,rfl,O⟩
  | cons h r ih=>
   intro ow js O e len
   rw[QO]at len
   obtain⟨j,ej,O'⟩:=O.add K h (e 0 h rfl) (by omega)
   obtain⟨yO,vM,e1,e2,e3⟩:=ih _ (js++[j]) O' (fun i x hx=>by
    have:=e (i+1) x (by rw[Zy];exact hx)
    rw[Qn]
    show hs[js.length+1+i]? = some x
    rw[show js.length+1+i=js.length+(i+1)by omega]
    exact this) (by rw[Qn];show js.length+1+r.length<=mask;omega)
   refine⟨yO,vM,?_,by rw[e2,Qn];show js.length+1+r.length=js.length+(r.length+1);omega,e3⟩
   rw[List.foldl_cons]
   have:(do
    let (owner,k) <- some (ow,js.length)
    let j <- layClean.free mask owner (turns mask) (bits h % (mask+1)) (bits h)
    pure (owner.setIfInBounds j (some k),k+1):Option (lC×Nat))=some (ow.setIfInBounds j (some js.length),(js++[j]).length):=by
    show(layClean.free mask ow (turns mask) (bits h % (mask+1)) (bits h)).bind _=_
    rw[ej,Qn]
    rfl
   rw[this]
   exact e1
 obtain⟨ow,js,e1,e2,e3⟩:=key hs _ [] (iI.start mask hs) (fun i h e=>by rw[Jf,Yj];exact e) (by rw[Jf,Yj];exact room)
 refine⟨ow,js,?_,by rw[e2,Jf,Yj],e3⟩
 unfold layClean
 rw[List.foldl_toArray]
 have Gp:=e1
 rw[Jf]at Gp
 rw[Gp]
 rfl
theorem Sw(mask:Nat)(ow:lC):(fB mask ow).Pairwise fun a b=>a.1<b.1:=by
 unfold fB
 refine List.Pairwise.filterMap _ (fun a a' h b hb b' iW=>?_) List.pairwise_lt_range
 have e1:(ow.getD a none).map (a,·)=some b:=hb
 have e2:(ow.getD a' none).map (a',·)=some b':=iW
 obtain⟨_,_,rfl⟩:=Qv.mp e1
 obtain⟨_,_,rfl⟩:=Qv.mp e2
 exact h
theorem Sx(K:Mk mask)(hs:List Int)(room:hs.length<=mask)(finger moves:Nat)(led plain:Bool):∃ (pl od:List Nat),laid mask finger moves led plain hs.toArray=some ({ mask,place:=pl.toArray,dummies:=#[],finger,led,moves,plain },od.toArray)/\od.Perm (List.range hs.length) /\
  fM { mask,place:=pl.toArray,dummies:=#[],finger,led,moves,plain } (od.map fun k=>hs.getD k 0):=by
 obtain⟨ow,js,e,hl,O⟩:=Sv K hs room
 have up:=Sw mask ow
 have len:(fB mask ow).length=hs.length:=by rw[O.pm.length_eq,Y9,hl]
 refine⟨(fB mask ow).map (·.1),(fB mask ow).map (·.2),?_,?_,?_⟩
 ·unfold laid
  rw[e]
  rfl
 ·have:=O.pm.map (·.2)
  rw[List.zipIdx_map_snd,hl,<- VZ]at this
  exact this
 ·have get:∀ (i j:Nat),((fB mask ow).map (·.1)).toArray[i]? = some j->∃ k,(fB mask ow)[i]? = some (j,k):=fun i j h=>by
   rw[Jc,Ql,Qv]at h
   obtain⟨⟨a,b⟩,h1,h2⟩:=h
   exact⟨b,by rw[h1];cases h2;rfl⟩
  have rs:Rs ((fB mask ow).map (·.1)).toArray:=fun a b mq hb=>by
   rw[Qm,Qc]at hb
   have h1:((fB mask ow).map (·.1)).toArray[a]? = some ((fB mask ow)[a]'(by omega)).1:=by rw[Jc,Ql,Qb (by omega)];rfl
   have h2:((fB mask ow).map (·.1)).toArray[b]? = some ((fB mask ow)[b]'hb).1:=by rw[Jc,Ql,Qb hb];rfl
   rw[BP h1,BP h2]
   exact Jd.mp up a b (by omega) hb mq
  have mem:∀ {i:Nat} {x:Nat×Nat},(fB mask ow)[i]? = some x->x∈fB mask ow:=fun h=>by
   obtain⟨hi,q⟩:=Qy.mp h
   rw[<- q];exact QR hi
  refine⟨?_,rs,rfl,K,fun i j h=>?_,?_,fun i j h hp hh=>?_⟩
  ·show((fB mask ow).map (·.1)).toArray.size=_
   rw[Qm,Qc,Qc,Qc]
  ·obtain⟨k,q⟩:=get i j h
   exact(yN.mp (mem q)).1
  ·rw[Qc,Qc,len];exact room
  ·obtain⟨k,q⟩:=get i j hp
   rw[Ql,Ql,q]at hh
   have Sy:hs.getD k 0=h:=by cases hh;rfl
   obtain⟨jm,ek⟩:=yN.mp (mem q)
   obtain⟨h',m,q1,q2,q3,q4⟩:=O.vI j k jm ek
   have:h'=h:=by rw[<- Sy,Qf,q1];rfl
   subst this
   refine⟨m,q2,q3,fun m' fT=>?_⟩
   have rV:=q4 m' fT
   have Sz:=vJ mask h' m'
   rw[vK (by rw[O.sz];omega)]at rV
   cases c:ow.getD (ba mask (bL mask h') m').j none with
   | none=>rw[c]at rV;cases rV
   | some k'=>
    have mm:=yN.mpr ⟨Sz,c⟩
    obtain⟨i',cD,qi⟩:=Q2 mm
    refine⟨i',vG rs ?_⟩
    show((fB mask ow).map (·.1)).toArray[i']? = some _
    rw[Jc,Ql,Qb cD,qi]
    rfl
theorem Gq:∀ n,n<512->(sizeAbove n-1=7/\n<8)\/(sizeAbove n-1=15/\8<=n/\n<16)\/(sizeAbove n-1=31/\16<=n/\n<32)\/(sizeAbove n-1=63/\32<=n/\n<64)\/(sizeAbove n-1=127/\64<=n/\n<128)\/(sizeAbove n-1=255/\128<=n/\n<256)\/(sizeAbove n-1=511/\256<=n/\n<512):=by decide +kernel
theorem SA:Mk 15:=.of 15 rfl (by decide) (by decide +kernel) (by decide +kernel)
theorem SD:Mk 63:=.of 63 rfl (by decide) (by decide +kernel) (by decide +kernel)
theorem SE:Mk 255:=.of 255 rfl (by decide) (by decide +kernel) (by decide +kernel)
theorem Gr(h:n<512):Mk (sizeAbove n-1)/\n<=sizeAbove n-1:=by
 rcases Gq n h with⟨e,a⟩|⟨e,_,a⟩|⟨e,_,a⟩|⟨e,_,a⟩|⟨e,_,a⟩|⟨e,_,a⟩|⟨e,_,a⟩<;>rw[e]
 ·exact⟨Gh,by omega⟩
 ·exact⟨SA,by omega⟩
 ·exact⟨Sf,by omega⟩
 ·exact⟨SD,by omega⟩
 ·exact⟨Sg,by omega⟩
 ·exact⟨SE,by omega⟩
 ·exact⟨Si,by omega⟩
section
variable {prog:Program}{w:World}{K:Type}[DecidableEq K]{knd:KeyKind prog w K}{A:Around}{E:Value->Shared->Prop}{s:Shared}
theorem SF(n:Nat){v:Value}(h:carriedByValue v=true):ofAClassStatement n v=pure false:=by
 cases v with
 | ref a=>simp[carriedByValue]at h
 | _=>first|rfl|simp[ofAClassStatement]|(unfold ofAClassStatement;rfl)
theorem Gs{ks:List K}(n:Nat)(hk:IsTupleKey knd s.heap ks a)(h:Q false s):wpAny (model prog w) A (ofAClassStatement (n+1) (.ref a)) Q E s:=by
 have hT:=hk.typeIs
 obtain⟨o,items,k,ho,hc,hd,hi⟩:=hk
 unfold ofAClassStatement
 refine Qa (JP hT ?_)
 dsimp only
 rw[Qj (by decide)]
 refine Qa (Qe ?_)
 simp only[Z5,Qt,Zl]
 refine Qa (Y7 ho hd ?_)
 dsimp only
 refine Qa ?_
 show wpAny _ _ (forIn items _ _) _ _ s
 rw[<- Array.forIn_toList]
 refine JR _ (fun br r s'=>r.1=none/\s'=s/\∀ v∈br,carriedByValue v=true) _ ?_ ?_ _ _ ⟨rfl,rfl,hi.byValue⟩
 ·rintro v br r s' ⟨hr,rfl,eI⟩
  rw[SF _ (eI v Qh)]
  refine Qa (Qe ?_)
  simp only[Qt,Zl]
  exact Qe ⟨rfl,rfl,fun u rp=>eI u (Qg _ rp)⟩
 ·rintro ⟨r1,r2⟩ s' ⟨hr,rfl,_⟩
  simp only at hr
  subst hr
  exact Qe h
theorem SG{kx:List K}(hx:IsTupleKey knd s.heap kx bx)(l:List Value)(hl:∀ y∈l,∃ k b,y=.ref b/\IsTupleKey knd s.heap k b)(h:Q false s):wpAny (model prog w) A (searchCouldBeSeen (.ref bx) l) Q E s:=by
 unfold searchCouldBeSeen
 refine Qa ?_
 refine JR _ (fun br r s'=>r.1=none/\s'=s/\∀ y∈br,∃ k b,y=.ref b/\IsTupleKey knd s.heap k b) _ ?_ ?_ _ _ ⟨rfl,rfl,hl⟩
 ·rintro y br r s' ⟨hr,rfl,eI⟩
  obtain⟨k,b,rfl,hb⟩:=eI y Qh
  have qh:∀ y∈br,∃ k b,y=.ref b/\IsTupleKey knd s'.heap k b:=fun u hu=>eI u (Qg _ hu)
  dsimp only
  by_cases c:(bx==b||(carriedByValue (.ref bx)&&carriedByValue (.ref b)))=true
  ·rw[Qj c]
   exact Qe ⟨rfl,rfl,qh⟩
  ·rw[Qk c]
   refine Qa (wpAny_eqIsQuiet_tuple hx ?_)
   simp only[Z5,Qt,Zl]
   refine Qa (wpAny_eqIsQuiet_tuple hb ?_)
   simp only[Z5,Qt,Zl]
   refine Qa (Gs 7 hx ?_)
   simp only[Qt,Zl]
   refine Qa (Gs 7 hb ?_)
   simp only[Qt,Zl]
   exact Qe ⟨rfl,rfl,qh⟩
 ·rintro ⟨r1,r2⟩ s' ⟨hr,rfl,_⟩
  simp only at hr
  subst hr
  exact Qe h
structure dO (knd:KeyKind prog w K) (h:Heap) (es:Array (Int×Value)) (t:SetTable) (kl:List (List K)) (bs:List Addr):Prop where
 es:es.toList=(kl.zip bs).map fun x=>(tupleKeyHash knd x.1,Value.ref x.2)
 len:kl.length=bs.length
 is:∀ (i:Nat) (k:List K) (b:Addr),kl[i]? = some k->bs[i]? = some b->IsTupleKey knd h k b
 tb:fM t (kl.map (tupleKeyHash knd))
 nd:kl.Nodup
section
variable {es:Array (Int×Value)}{t:SetTable}{kl:List (List K)}{bs:List Addr}
theorem dO.size(S:dO knd h es t kl bs):es.size=kl.length:=by
 rw[<- QN,S.es,Qc,ZZ,S.len,JB]
theorem dO.fits(S:dO knd h es t kl bs):t.fits es.size=true:=by
 unfold SetTable.fits SetTable.fill
 have e1:=S.tb.sz
 have e2:=S.tb.room
 have e3:=S.size
 rw[Qc]at e1 e2
 rw[S.tb.nd,e3,e1]
 simp
 exact e2
theorem dO.get(S:dO knd h es t kl bs){k:List K}(hk:kl[i]? = some k):∃ b,bs[i]? = some b/\es[i]? = some (tupleKeyHash knd k,Value.ref b)/\IsTupleKey knd h k b:=by
 obtain⟨hi,_⟩:=Qy.mp hk
 have hb:bs[i]? = some (bs[i]'(by rw[<- S.len];exact hi)):=Qb _
 refine⟨_,hb,?_,S.is i k _ hk hb⟩
 rw[<- Q5,S.es,Ql,List.zip,Yr,hk,hb]
 rfl
theorem dO.of(S:dO knd h es t kl bs){x:Int×Value}(hx:es[i]? = some x):∃ k b,kl[i]? = some k/\x=(tupleKeyHash knd k,Value.ref b)/\IsTupleKey knd h k b:=by
 have hi:i<kl.length:=by rw[<- S.size];exact(Jb.mp hx).1
 obtain⟨b,_,e,q⟩:=S.get (Qb hi)
 rw[hx]at e
 exact⟨_,b,Qb hi,QH e,q⟩
theorem SH{kx:List K}{Q:SetFound->Shared->Prop}(hu:A.units<cLine)(ho:s.heap.get? a=some o)(hd:o.data=.set es ep t)(S:dO knd s.heap es t kl bs)(hx:IsTupleKey knd s.heap kx bx)
  {M:Nat} (hM:M<10*turns t.mask) (eM:t.slot (ba t.mask (bL t.mask (tupleKeyHash knd kx)) M).j=.empty) (bM:∀ m',m'<M->∃ i,t.slot (ba t.mask (bL t.mask (tupleKeyHash knd kx)) m').j=.live i)
  (q1:kx∈kl->Q (.there none) s) (q2:kx ∉ kl->Q (.free (ba t.mask (bL t.mask (tupleKeyHash knd kx)) M).j false) s) :
  ∀ (fuel m:Nat) (kn:Option Probe),kn.getD (t.probeStart (tupleKeyHash knd kx))=ba t.mask (bL t.mask (tupleKeyHash knd kx)) m->m<=M->M-m<fuel->
   (∀ m',m'<m->∀ i,t.slot (ba t.mask (bL t.mask (tupleKeyHash knd kx)) m').j=.live i->kl[i]? ≠ some kx)->wpAny (model prog w) A (setSearchFrom a (.ref bx) (tupleKeyHash knd kx) true fuel kn) Q E s:=by
 intro fuel
 induction fuel with
 | zero=>intro m kn _ _ h _;exact absurd h (Q8 _)
 | succ fuel ih=>
  intro m kn iR hm hf inv
  generalize hh:tupleKeyHash knd kx=h at *
  unfold setSearchFrom
  refine Qa (ZV ho hd S.fits ?_)
  dsimp only
  have gw:t.gaveWay=false:=by
   unfold SetTable.gaveWay
   rw[S.tb.rd.odd]
   rfl
  rw[gw]
  simp only[Qt,Zl]
  rw[iR]
  have pn:(ba t.mask (bL t.mask h) m).dummy=none:=Gi _ _ _ rfl
  have ex:∃ m1,m1<10*turns t.mask/\t.slot (ba t.mask (ba t.mask (bL t.mask h) m) m1).j=.empty:=⟨M-m,by omega,by rw[<- mr,show m+(M-m)=M by omega];exact eM⟩
  have key:∀ (hashAt:Nat->Int),(∀ i x,es[i]? = some x->hashAt i=x.1)->∃ met,t.probe hashAt h (ba t.mask (bL t.mask h) m)=some met/\((∃ j,met=.empty j none/\kx ∉ kl/\j=(ba t.mask (bL t.mask h) M).j)\/∃ m1 i k b,m+m1<M/\met=.candidate (ba t.mask (bL t.mask h) (m+m1)).j i (ba t.mask (bL t.mask h) (m+m1+1))/\t.slot (ba t.mask (bL t.mask h) (m+m1)).j=.live i/\kl[i]? = some k/\es[i]? = some (tupleKeyHash knd k,Value.ref b)/\IsTupleKey knd s.heap k b/\∀ m',m'<m+m1->∀ i,t.slot (ba t.mask (bL t.mask h) m').j=.live i->kl[i]? ≠ some kx):=by
   intro hashAt hA
   obtain⟨m1,h1,bf,c⟩:=Gj t hashAt h S.tb.rs S.tb.nd (10*turns t.mask) (ba t.mask (bL t.mask h) m) pn ex
   have mv:∀ m',m'<m+m1->∀ i,t.slot (ba t.mask (bL t.mask h) m').j=.live i->kl[i]? ≠ some kx:=fun m' fT i e z=>by
    by_cases l:m'<m
    ·exact inv m' l i e z
    ·obtain⟨i',e',ne⟩:=bf (m'-m) (by omega)
     rw[<- mr,show m+(m'-m)=m' by omega,e]at e'
     cases e'
     obtain⟨b,_,q,_⟩:=S.get z
     exact ne (by rw[hA i _ q];exact hh)
   rcases c with⟨e,g⟩|⟨i,e,eh,g⟩
   ·rw[<- mr]at e g
    have SI:m+m1=M:=by
     by_cases l:m+m1<M
     ·obtain⟨i,q⟩:=bM _ l
      rw[e]at q;cases q
     ·by_cases l2:M<m+m1
      ·obtain⟨i',e',_⟩:=bf (M-m) (by omega)
       rw[<- mr,show m+(M-m)=M by omega,eM]at e'
       cases e'
      ·omega
    refine⟨_,g,.inl ⟨_,rfl,fun z=>?_,by rw[SI]⟩⟩
    obtain⟨i,hi,q⟩:=Q2 z
    have hk:kl[i]? = some kx:=by rw[Qb hi,q]
    have bS:t.place[i]? = some (t.place[i]'(by rw[S.tb.sz,Qc];exact hi)):=Zd _
    obtain⟨m0,z1,z2,z3⟩:=S.tb.vI i _ h bS (by rw[Ql,hk];exact ZQ some hh)
    have lv:=vG S.tb.rs bS
    rw[<- z2]at lv
    by_cases l:m0<M
    ·exact mv m0 (by omega) i lv hk
    ·by_cases l2:m0=M
     ·rw[l2,eM]at lv;cases lv
     ·obtain⟨i',q'⟩:=z3 M (by omega)
      rw[eM]at q';cases q'
   ·rw[<- mr]at e g
    have lt:m+m1<M:=by
     by_cases l:m+m1<M
     ·exact l
     ·by_cases l2:m+m1=M
      ·rw[l2,eM]at e;cases e
      ·obtain⟨i',e',_⟩:=bf (M-m) (by omega)
       rw[<- mr,show m+(M-m)=M by omega,eM]at e'
       cases e'
    have bS:∃ j,t.place[i]? = some j:=by
     rcases vH S.tb.rs S.tb.nd (ba t.mask (bL t.mask h) (m+m1)).j with⟨i',a',b'⟩|⟨_,b'⟩
     ·rw[e]at b';cases b';exact⟨_,a'⟩
     ·rw[e]at b';cases b'
    obtain⟨j,hj⟩:=bS
    have hi:i<kl.length:=by
     have:=(Jb.mp hj).1
     rw[S.tb.sz,Qc]at this
     exact this
    obtain⟨b,_,q,r⟩:=S.get (Qb hi)
    refine⟨_,g,.inr ⟨m1,i,_,b,lt,?_,e,Qb hi,q,r,mv⟩⟩
    rw[<- mr]
    rfl
  obtain⟨met,pr,cs⟩:=key _ fun i x hx=>show(es[i]?.map (·.1)).getD 0=x.1 by rw[hx];rfl
  generalize hp:t.probe _ h (ba t.mask (bL t.mask h) m)=SJ
  have BU:SJ=some met:=by rw[<- hp];exact pr
  subst BU
  clear hp
  dsimp only
  rcases cs with⟨j,rfl,nk,rfl⟩|⟨m1,i,k,b,lt,rfl,lv,ek,ee,kb,mv⟩
  ·exact Qe (q2 nk)
  ·dsimp only
   have sm:t.sameMemory t.moves t.mask=some true:=by unfold SetTable.sameMemory;simp
   cases vN:t.led with
   | false=>
    simp only[V3,Zz]
    refine Qa (SG hx _ (fun y hy=>?_) ?_)
    ·obtain⟨e,he,rfl⟩:=Qr.mp hy
     have vB:=(Array.mem_filter.mp (YC.mp he)).1
     obtain⟨i',cD,q⟩:=V4 vB
     obtain⟨k',b',_,r1,r2⟩:=S.of (i:=i') (x:=e) (by rw[Zd cD,q])
     exact⟨k',b',by rw[r1],r2⟩
    simp only[Qt,Zl]
    rw[ee]
    dsimp only
    refine Qa (Q4 (wpAny_eqBool_tuple hu kb hx ?_))
    refine Qa (ZV ho hd S.fits ?_)
    dsimp only
    by_cases c:k=kx
    ·rw[QA c]
     simp only[V7,Zz]
     exact Qe (q1 (by rw[<- c];exact QC ek))
    ·rw[QZ c]
     simp only[VX,Qt,Zl,sm,Zz,lv,ee]
     refine Qa (wpAny_isSame_ref_self ?_)
     simp only[Zz]
     refine Qa (Qe ?_)
     dsimp only
     exact ih (m+m1+1) (some (ba t.mask (bL t.mask h) (m+m1+1))) rfl (by omega) (by omega) fun m' fT i' e'=>by
      by_cases l:m'<m+m1
      ·exact mv m' l i' e'
      ·have:m'=m+m1:=by omega
       subst this
       rw[lv]at e'
       cases e'
       rw[ek]
       exact fun z=>c (QH z)
   | true=>
    simp only[Z5,Qt,Zl]
    rw[ee]
    dsimp only
    refine Qa (Q4 (wpAny_eqBool_tuple hu kb hx ?_))
    refine Qa (ZV ho hd S.fits ?_)
    dsimp only
    by_cases c:k=kx
    ·rw[QA c]
     simp only[V7,Zz]
     exact Qe (q1 (by rw[<- c];exact QC ek))
    ·rw[QZ c]
     simp only[VX,Qt,Zl,sm,Zz,lv,ee]
     refine Qa (wpAny_isSame_ref_self ?_)
     simp only[Zz]
     refine Qa (Qe ?_)
     dsimp only
     exact ih (m+m1+1) (some (ba t.mask (bL t.mask h) (m+m1+1))) rfl (by omega) (by omega) fun m' fT i' e'=>by
      by_cases l:m'<m+m1
      ·exact mv m' l i' e'
      ·have:m'=m+m1:=by omega
       subst this
       rw[lv]at e'
       cases e'
       rw[ek]
       exact fun z=>c (QH z)
end
end
section
variable {prog:Program}{w:World}{A:Around}{E:Value->Shared->Prop}{s:Shared}
theorem SK{x:List Int}{vs:List Value}(hx:ItemsAre (intKind prog w) x vs):∀ v∈vs,∃ i t,v=.int i t:=by
 induction hx with
 | nil=>intro v hv;simp at hv
 | @cons k v' ks vs h1 _ ih=>
  intro v hv
  rcases Qw.mp hv with rfl|hv
  ·obtain⟨t,rfl⟩:=Yc h1
   exact⟨_,_,rfl⟩
  ·exact ih v hv
theorem SM{ks:List Int}(n:Nat)(hk:IsTupleKey (intKind prog w) s.heap ks a)(h:Q true s):wpAny (model prog w) A (hashByValue (n+1) (.ref a)) Q E s:=by
 have hT:=hk.typeIs
 obtain⟨o,items,k,ho,hc,hd,hi⟩:=hk
 unfold hashByValue
 refine Qa (YK hT F.slot_tuple_hash.lookup ?_)
 dsimp only
 refine Qa (Y7 ho hd ?_)
 refine Qa ?_
 show wpAny _ _ (forIn items _ _) _ _ s
 rw[<- Array.forIn_toList]
 refine JR _ (fun br r s'=>r.1=none/\s'=s/\∀ v∈br,∃ i t,v=.int i t) _ ?_ ?_ _ _ ⟨rfl,rfl,SK hi⟩
 ·rintro v br r s' ⟨hr,rfl,eI⟩
  obtain⟨i,t,rfl⟩:=eI v Qh
  have:hashByValue n (.int i t)=pure true:=by cases n<;>rfl
  rw[this]
  refine Qa (Qe ?_)
  simp only[Z5,Qt,Zl]
  exact Qe ⟨rfl,rfl,fun u rp=>eI u (Qg _ rp)⟩
 ·rintro ⟨r1,r2⟩ s' ⟨hr,rfl,_⟩
  simp only at hr
  subst hr
  exact Qe h
abbrev lD (prog:Program)(w:World):=dO (intKind prog w)
variable {es:Array (Int×Value)}{t:SetTable}{kl:List (List Int)}{bs:List Addr}
theorem dO.keep(S:lD prog w h es t kl bs)(ho:h.get? a=some o)(hd:o.data=.set es ep t)(sb:Heap.SameBut a h h'):∀ (i:Nat) (k:List Int) (b:Addr),kl[i]? = some k->bs[i]? = some b->IsTupleKey (intKind prog w) h' k b:=fun i k b x y=>qk ho hd sb (S.is i k b x y)
where
 qk {a:Addr} {o:Obj} {ep:Nat} {h h':Heap} {es:Array (Int×Value)} {t:SetTable} {k:List Int} {b:Addr} (ho:h.get? a=some o) (hd:o.data=.set es ep t) (sb:Heap.SameBut a h h') (x:IsTupleKey (intKind prog w) h k b):IsTupleKey (intKind prog w) h' k b:=by
  obtain⟨o',items,n,iw,hc,jq,hi⟩:=x
  have cC:b≠a:=by
   rintro rfl
   obtain rfl:o'=o:=QH (iw.symm.trans ho)
   rw[hd]at jq;exact nomatch jq
  exact⟨o',items,n,(sb.2 b cC).trans iw,hc,jq,hi⟩
theorem SN{α β:Type}{l:List α}{m:List β}(e:l.length=m.length)(p:Nat)(x:α)(y:β):(gZ l p x).zip (gZ m p y)=gZ (l.zip m) p (x,y):=by
 unfold gZ
 rw[VN (by rw[Za,Za,e]),J6]
 congr 1
 ·unfold List.zip;exact List.take_zipWith.symm
 ·congr 1
  unfold List.zip;exact List.drop_zipWith.symm
theorem Gu{α β:Type}(f:α->β)(l:List α)(p:Nat)(x:α):(gZ l p x).map f=gZ (l.map f) p (f x):=by
 unfold gZ
 rw[Q3,QG,List.map_take,List.map_drop]
theorem BV{α:Type}(l:List α)(p:Nat)(x:α):(gZ l p x).Perm (x::l):=by
 unfold gZ
 have:=List.perm_middle (a:=x) (l₁:=l.take p) (l₂:=l.drop p)
 rw[Yq]at this
 exact this
theorem SO{α:Type}(xs:Array α)(p:Nat)(x:α):(insertAt xs p x).toList=gZ xs.toList p x:=by
 unfold insertAt gZ
 simp
 exact Yl (by rw[ZO,QN];exact Qi _)
theorem dO.put(S:lD prog w h es t kl bs)(hx:IsTupleKey (intKind prog w) h kx bx)(nk:kx ∉ kl)(hm:m<10*turns t.mask)(em:t.slot (ba t.mask (bL t.mask (tupleKeyHash (intKind prog w) kx)) m).j=.empty)(bm:∀ m',m'<m->∃ i,t.slot (ba t.mask (bL t.mask (tupleKeyHash (intKind prog w) kx)) m').j=.live i)(hr:kl.length+1<=t.mask) :
  lD prog w h (insertAt es (t.put (ba t.mask (bL t.mask (tupleKeyHash (intKind prog w) kx)) m).j).2 (tupleKeyHash (intKind prog w) kx,.ref bx)) (t.put (ba t.mask (bL t.mask (tupleKeyHash (intKind prog w) kx)) m).j).1 (gZ kl (t.put (ba t.mask (bL t.mask (tupleKeyHash (intKind prog w) kx)) m).j).2 kx) (gZ bs (t.put (ba t.mask (bL t.mask (tupleKeyHash (intKind prog w) kx)) m).j).2 bx):=by
 obtain⟨p1,p2,p3⟩:=S.tb.put hm em bm (vJ _ _ _) (by rw[Qc];exact hr)
 generalize (ba t.mask (bL t.mask (tupleKeyHash (intKind prog w) kx)) m).j=j at *
 rw[Qc]at p1
 generalize (t.put j).2=p at *
 have pm:=BV kl p kx
 refine⟨?_,?_,fun i k b x y=>?_,?_,?_⟩
 ·rw[SO,S.es,SN S.len,Gu]
 ·rw[rU,rU,S.len]
 ·rw[BQ kl p kx p1]at x
  rw[BQ bs p bx (by rw[<- S.len];exact p1)]at y
  by_cases h1:i<p
  ·rw[Qj h1]at x y;exact S.is i k b x y
  ·rw[Qk h1]at x y
   by_cases h2:i=p
   ·rw[Qj h2]at x y;cases x;cases y;exact hx
   ·rw[Qk h2]at x y;exact S.is _ k b x y
 ·rw[Gu];exact p3
 ·exact pm.nodup_iff.mpr (Q7.mpr ⟨nk,S.nd⟩)
end
section
variable {prog:Program}{w:World}{A:Around}{E:Value->Shared->Prop}{s:Shared}
variable {es:Array (Int×Value)}{t:SetTable}{kl:List (List Int)}{bs:List Addr}
theorem dO.hashes(S:lD prog w h es t kl bs):es.map (·.1)=(kl.map (tupleKeyHash (intKind prog w))).toArray:=by
 apply Array.ext'
 rw[Array.toList_map,S.es,Zb]
 have:∀ (l:List (List Int)) (m:List Addr),l.length=m.length->(l.zip m).map ((fun x:Int×Value=>x.1) ∘ fun x=>(tupleKeyHash (intKind prog w) x.1,Value.ref x.2))=l.map (tupleKeyHash (intKind prog w)):=by
  intro l
  induction l with
  | nil=>intro m _;rfl
  | cons a l ih=>
   intro m hm
   cases m with
   | nil=>cases hm
   | cons b m=>rw[J6,QG,QG,ih m (by simpa using hm)];rfl
 exact this kl bs S.len
theorem Gv{α:Type}{l:List α}{od:List Nat}(d:α)(h:od.Perm (List.range l.length)):(od.map fun k=>l.getD k d).Perm l:=by
 have h1:=h.map fun k=>l.getD k d
 have h2:(List.range l.length).map (fun k=>l.getD k d)=l:=by
  apply Zt
  intro i
  by_cases hi:i<l.length
  ·rw[Ql,Zn hi,Qb hi]
   show some (l.getD i d)=_
   rw[Qf,Qb hi]
   rfl
  ·rw[QK (by rw[Qc,QM];omega),QK (by omega)]
 rw[h2]at h1
 exact h1
theorem dO.relaid(S:lD prog w h es t kl bs)(hn:n<512)(hl:kl.length<=n):∃ (t':SetTable) (od:List Nat),t.relaid (es.map (·.1)) n=some (t',od.toArray)/\t'.led=t.led/\t'.plain=t.plain/\t'.mask=sizeAbove n-1/\(∀ k∈od,k<es.size)/\od.length=kl.length /\
  lD prog w h (od.toArray.filterMap fun i=>es[i]?) t' (od.map fun k=>kl.getD k []) (od.map fun k=>bs.getD k 0)/\(od.map fun k=>kl.getD k []).Perm kl:=by
 obtain⟨mk,ln⟩:=Gr hn
 obtain⟨pl,od,e,pm,T⟩:=Sx mk (kl.map (tupleKeyHash (intKind prog w))) (by rw[Qc];omega) t.finger (t.movedTo (sizeAbove n-1)) t.led t.plain
 rw[Qc]at pm
 have sz:=S.size
 have lt:∀ k∈od,k<kl.length:=fun k hk=>Qz.mp (pm.mem_iff.mp hk)
 refine⟨{ mask:=sizeAbove n-1,place:=pl.toArray,dummies:=#[],finger:=t.finger,led:=t.led,moves:=t.movedTo (sizeAbove n-1),plain:=t.plain },od,by rw[S.hashes];exact e,rfl,rfl,rfl,fun k hk=>by rw[sz];exact lt k hk,by rw[pm.length_eq,QM],?_,Gv [] pm⟩
 have lb:∀ k∈od,k<bs.length:=fun k hk=>by rw[<- S.len];exact lt k hk
 refine⟨?_,by rw[Qc,Qc],fun i k b x y=>?_,?_,(Gv [] pm).nodup_iff.mpr S.nd⟩
 ·have e1:(od.toArray.filterMap fun i=>es[i]?).toList=od.filterMap fun i=>es.toList[i]?:=by
   rw[Array.toList_filterMap]
   exact BS fun i _=>(Q5).symm
  rw[e1,S.es]
  have:∀ (o:List Nat),(∀ k∈o,k<kl.length)->o.filterMap (fun i=>((kl.zip bs).map fun x=>(tupleKeyHash (intKind prog w) x.1,Value.ref x.2))[i]?)=((o.map fun k=>kl.getD k []).zip (o.map fun k=>bs.getD k 0)).map fun x=>(tupleKeyHash (intKind prog w) x.1,Value.ref x.2):=by
   intro o
   induction o with
   | nil=>intro _;rfl
   | cons k o ih=>
    intro h
    have hk:=h k Qh
    have hb:k<bs.length:=by rw[<- S.len];exact hk
    have g:((kl.zip bs).map fun x=>(tupleKeyHash (intKind prog w) x.1,Value.ref x.2))[k]? = some (tupleKeyHash (intKind prog w) (kl.getD k []),Value.ref (bs.getD k 0)):=by
     rw[Ql,List.zip,Yr,Qb hk,Qb hb,Qf,Qb hk,Qf,Qb hb]
     rfl
    rw[Jr g,ih fun j hj=>h j (Qg _ hj)]
    rfl
  exact this od lt
 ·rw[Ql,Qv]at x y
  obtain⟨j,q1,q2⟩:=x
  obtain⟨j',q3,q4⟩:=y
  rw[q1]at q3
  cases q3
  have hj:=lt j (QC q1)
  have hb:=lb j (QC q1)
  rw[Qf,Qb hj]at q2
  rw[Qf,Qb hb]at q4
  exact S.is j k b (by rw[Qb hj];exact ZQ some q2) (by rw[Qb hb];exact ZQ some q4)
 ·have:(od.map fun k=>kl.getD k []).map (tupleKeyHash (intKind prog w))=od.map fun k=>(kl.map (tupleKeyHash (intKind prog w))).getD k 0:=by
   rw[Zb]
   refine Ze fun k hk=>?_
   have hj:=lt k hk
   show tupleKeyHash (intKind prog w) (kl.getD k [])=_
   rw[Qf,Qb hj,Qf,Ql,Qb hj]
   rfl
  rw[this]
  exact T
theorem dO.move{SQ:Nat}{e0:Array (Int×Value)}{t0:SetTable}(S:lD prog w h es t kl bs)(ho:h.get? a=some o)(hd:o.data=.set e0 SQ t0)(sb:Heap.SameBut a h h'):lD prog w h' es t kl bs:=
 ⟨S.es,S.len,fun i k b x y=>dO.keep.qk ho hd sb (S.is i k b x y),S.tb,S.nd⟩
structure rW (prog:Program) (w:World) (h:Heap) (o:Obj) (ep:Nat) (led:Bool) (kl:List (List Int)) (es:Array (Int×Value)) (t:SetTable) (bs:List Addr):Prop where
 d:o.data=.set es ep t
 S:lD prog w h es t kl bs
 pl:t.plain=true
 ld:t.led=led
 rm:kl.length*5<t.mask*3
theorem SR{Q:Unit->Shared->Prop}(ho:s.heap.get? a=some o)(hd:o.data=.set es ep t)(S:lD prog w s.heap es t kl bs)(hn:n<512)(hl:kl.length<=n)(h4:kl.length*4<=n)(h0:0<n)
  (h:∀ h' jr t' iX nH,Heap.SameBut a s.heap h'->h'.get? a=some { o with data:=.set jr (ep+1) t' }->lD prog w h' jr t' iX nH->iX.Perm kl->t'.plain=t.plain->t'.led=t.led->iX.length*5<t'.mask*3->(∀ b∈nH,b∈bs)->Q () { s with heap:=h' }) :
  wpAny (model prog w) A (setRelay a n) Q E s:=by
 obtain⟨t',od,e,ld,pl,mk,lt,len,S',pm⟩:=S.relaid hn hl
 have ln:=(Gr hn).2
 unfold setRelay
 refine Qa (ZV ho hd S.fits ?_)
 dsimp only
 have sl:¬ sizeAbove n > sizeLine:=by
  rw[ZR]
  rcases Gq n hn with⟨e,_⟩|⟨e,_⟩|⟨e,_⟩|⟨e,_⟩|⟨e,_⟩|⟨e,_⟩|⟨e,_⟩<;>omega
 rw[Qk sl,e]
 have Gw:(od.toArray.filterMap fun i=>es[i]?).size=es.size:=by
  rw[S'.size,Qc,len,S.size]
 refine Qa (show wpAny _ _ (do
  if(od.toArray.filterMap fun i=>es[i]?).size != es.size then unsupported "internal:set-table-lost-an-element"
  pure ((od.toArray.filterMap fun i=>es[i]?),t')) _ _ _ from ?_)
 rw[Gw]
 simp only[Ym,Qt,Zl]
 refine Qe ?_
 dsimp only
 have sb:=Q1 s.heap a (Obj.putSet (od.toArray.filterMap fun i=>es[i]?) t')
 have hz:(od.toArray.filterMap fun i=>es[i]?).size<=sizeLine:=by rw[Gw,S.size,ZR];omega
 refine wpAny_storeSet_of ho hd (h _ _ t' _ _ sb ?_ (S'.move ho hd sb) pm pl ld ?_ fun b hb=>?_) hz
 ·have:=Zw (Obj.putSet (od.toArray.filterMap fun i=>es[i]?) t') ho (by rw[putSet_of _ _ hd];rfl)
  rw[putSet_of _ _ hd]at this
  exact this
 ·rw[Qc,len,mk]
  omega
 ·obtain⟨k,hk,rfl⟩:=Qr.mp hb
  have:=lt k hk
  rw[S.size,S.len]at this
  rw[Qf,Qb this]
  exact QR this
theorem SS{led:Bool}{Q:Bool->Shared->Prop}(hu:A.units<cLine)(ho:s.heap.get? a=some o)(So:rW prog w s.heap o ep led kl es t bs)(hx:IsTupleKey (intKind prog w) s.heap kx bx)(dM:kl.length<=100)
  (h:∀ h' nX iX jr t' nH r,Heap.SameBut a s.heap h'->h'.get? a=some { o with data:=.set jr nX t' }->rW prog w h' { o with data:=.set jr nX t' } nX led iX jr t' nH->iX.Perm (if kx∈kl then kl else kx::kl)->(∀ b∈nH,b=bx\/b∈bs)->Q r { s with heap:=h' }) :
  wpAny (model prog w) A (setAddHashed a (.ref bx) (tupleKeyHash (intKind prog w) kx)) Q E s:=by
 obtain⟨hd,S,pl,ld,rm⟩:=So
 obtain⟨M,hM,eM,bM⟩:=S.tb.met (tupleKeyHash (intKind prog w) kx)
 have odd:=S.tb.rd.odd
 have SU:=S.tb.rd.dM
 unfold setAddHashed setAddHashedIn
 refine Q4 (Qa (ZV ho hd S.fits ?_))
 dsimp only
 have ns:byScan (.ref bx) es=false:=rfl
 rw[ns]
 simp only[Qt,Zl]
 refine Qa (SH (M:=M) hu ho hd S hx hM eM bM (fun jC=>?_) (fun nk=>?_) 100000 0 none rfl (QS _) (by unfold turns at hM;omega) fun _ z=>absurd z (Q8 _))
 ·dsimp only
  have e:s={ s with heap:=s.heap }:=by cases s;rfl
  refine Qe ?_
  rw[e]
  have eo:({ o with data:=.set es ep t }:Obj)=o:=by obtain⟨c,d,dt,sl⟩:=o;simp only at hd;subst hd;rfl
  refine h s.heap ep kl es t bs _ (Heap.SameBut.refl a s.heap) (by rw[eo];exact ho) ⟨rfl,S,pl,ld,rm⟩ ?_ fun b hb=>.inr hb
  rw[Qj jC]
 ·dsimp only
  refine Qa (ZV ho hd S.fits ?_)
  dsimp only
  have Sp:=S.put hx nk hM eM bM (by omega)
  generalize hj:(ba t.mask (bL t.mask (tupleKeyHash (intKind prog w) kx)) M).j=j at *
  have vO:(t.put j).1.plain=true:=pl
  have Gx:(t.put j).1.led=led:=ld
  have mk':(t.put j).1.mask=t.mask:=rfl
  have SV:(t.put j).1.fill=kl.length+1:=by
   unfold SetTable.fill
   rw[Sp.tb.sz,Sp.tb.nd,Qc,rU]
   rfl
  rw[vO]
  simp only[Zz]
  refine Qa (SM 7 hx ?_)
  simp only[Zz]
  have Gy:=BV kl (t.put j).2 kx
  generalize hes:insertAt es (t.put j).2 (tupleKeyHash (intKind prog w) kx,Value.ref bx)=qo at *
  generalize ht1:(t.put j).1=t1 at *
  have hz:qo.size<=sizeLine:=by rw[Sp.size,rU,ZR];omega
  refine Qa (wpAny_storeSet_of ho hd ?_ hz)
  have sb:=Q1 s.heap a (Obj.putSet qo t1)
  have Gz:(s.heap.update a (Obj.putSet qo t1)).get? a=some { o with data:=.set qo (ep+1) t1 }:=by
   have:=Zw (Obj.putSet qo t1) ho (by rw[putSet_of _ _ hd];rfl)
   rw[putSet_of _ _ hd]at this
   exact this
  have S1:=Sp.move ho hd sb
  have bI:∀ b∈gZ bs (t.put j).2 bx,b=bx\/b∈bs:=fun b hb=>Qw.mp ((BV bs (t.put j).2 bx).mem_iff.mp hb)
  have kS:(gZ kl (t.put j).2 kx).length=kl.length+1:=rU _ _ _
  cases BW:t1.tooFull with
  | false=>
   simp only[V3,J0,Qt,Zl]
   refine Qe (h _ (ep+1) _ qo t1 _ _ sb Gz ⟨rfl,S1,vO,Gx,?_⟩ (by rw[Qk nk];exact Gy) bI)
   unfold SetTable.tooFull at BW
   rw[SV]at BW
   rw[kS]
   have:=of_decide_eq_false BW
   omega
  | true=>
   simp only[V3,J0,Zz]
   have g4:SetTable.grown (es.size+1)=(kl.length+1)*4:=by
    unfold SetTable.grown
    rw[S.size,Qk (by omega)]
   rw[g4]
   refine Qa (SR (s:={ s with heap:=_ }) Gz rfl S1 (by omega) (by rw[kS];omega) (by rw[kS];omega) (by omega) fun h' jr t' iX nH vC kR S' SW BC SX SY S0=>?_)
   exact Qe (h h' _ iX jr t' nH _ (sb.trans vC) kR ⟨rfl,S',BC.trans vO,SX.trans Gx,SY⟩ (by rw[Qk nk];exact SW.trans Gy) fun b hb=>bI b (S0 b hb))
end
end L3
namespace L3
open PySem PySem.Spec PyProof.Rows PySem.W L2
variable {Q:Value->Shared->Prop}{ad:Nat->Addr}{h:Heap}{i:Nat}{kl:List (List Int)}
abbrev mx (es:Array (Int×Value))(ep:Nat)(t:SetTable):Obj:={ cls:=.type "set",dict:=none,data:=.set es ep t }
section
variable {prog:Program}{w:World}{A:Around}{R:Result->Shared->Prop}{I:Addr}{fp wr:List Addr}{G:Array GenState->Array GenState->Prop}{n:Nat}{P:Nat->Value->Prop}{St:Nat->Shared->Prop}
def rX (prog:Program)(w:World)(led:Bool)(S:Addr)(ad:Nat->Addr)(n:Nat)(h:Heap)(kl:List (List Int)):Prop:=∃ es ep t bs,h.get? S=some (mx es ep t)/\rW prog w h (mx es ep t) ep led kl es t bs/\∀ b∈bs,∃ j,j<n/\b=ad j
theorem rX.go{led:Bool}{S:Addr}{h':Heap}(H:rX prog w led S ad n h kl)(hS:∀ o,h.get? S=some o->h'.get? S=some o)(hA:∀ j,j<n->∀ o,h.get? (ad j)=some o->h'.get? (ad j)=some o):rX prog w led S ad n h' kl:=by
 obtain⟨es,ep,t,bs,g,⟨d,T,pl,ld,rm⟩,hb⟩:=H
 refine⟨es,ep,t,bs,hS _ g,⟨d,⟨T.es,T.len,fun i k b x y=>?_,T.tb,T.nd⟩,pl,ld,rm⟩,hb⟩
 obtain⟨o,items,m,ho,hc,hd,hi⟩:=T.is i k b x y
 obtain⟨j,hj,rfl⟩:=hb b (QC y)
 exact⟨o,items,m,hA j hj o ho,hc,hd,hi⟩
theorem S2(W:WalksS prog w A.in1 I fp wr G n P St)(hu:A.in1.units<cLine)(S:Addr)(GA:S ∉ fp)(led:Bool)(hn:n<=100)
  (val:Nat->List Int) (ad:Nat->Addr) (my:∀ i v,P i v->v=.ref (ad i)) (cC:∀ i,i<n->ad i≠S/\ad i ∉ wr) :
  ∀ (k i:Nat) (s:Shared) (kl:List (List Int)),n-i=k->i<=n->St i s->(∀ j,j<n->IsTupleKey (intKind prog w) s.heap (val j) (ad j))->rX prog w led S ad n s.heap kl->kl.length<=i->(∀ x,x∈kl ↔ ∃ j,j<i/\val j=x)->
   (∀ s' iX,Moved (S::wr) G s s'->rX prog w led S ad n s'.heap iX->(∀ x,x∈iX ↔ ∃ j,j<n/\val j=x)->R (.ok (.ret .none)) s')->
   codeAny (model prog w) A (.builtin "set.update.loop" ⟨[.ref S,.ref I],[]⟩) R s:=by
 have GB:S ∉ wr:=fun h=>GA (W.sub _ h)
 have du:∀ b∈wr,b∈S::wr:=fun b hb=>Qg _ hb
 have tk:∀ {h h':Heap} {k:List Int} {b:Addr},(∀ o,h.get? b=some o->h'.get? b=some o)->IsTupleKey (intKind prog w) h k b->IsTupleKey (intKind prog w) h' k b:=fun q ⟨o,items,m,ho,hc,hd,hi⟩=>⟨o,items,m,q o ho,hc,hd,hi⟩
 intro k
 induction k with
 | zero=>
  intro i s kl hk hi iR hT hS hl hm hR
  have jC:i=n:=by omega
  subst jC
  refine ZY JU ?_
  rw[Jk Z2 _]
  show wpAny _ A.in1 (pyNext (.ref I) >>= _) _ _ s
  refine Qa (W.done s _ _ iR fun s' qp=>?_)
  show wpAny _ A.in1 (ret Value.none) _ _ s'
  exact Qe (hR s' kl (qp.mono du) (hS.go (fun o e=>qp.heap S o GB e) fun j hj o e=>qp.heap _ o (cC j hj).2 e) hm)
 | succ k ih=>
  intro i s kl hk hi iR hT hS hl hm hR
  have bX:i<n:=by omega
  refine ZY JU ?_
  rw[Jk Z2 _]
  show wpAny _ A.in1 (pyNext (.ref I) >>= _) _ _ s
  refine Qa (W.item i s _ _ bX iR fun v s' hP vP qp=>?_)
  have hv:=my i v hP
  subst hv
  have BX:∀ j,j<n->IsTupleKey (intKind prog w) s'.heap (val j) (ad j):=fun j hj=>tk (fun o e=>qp.heap _ o (cC j hj).2 e) (hT j hj)
  obtain⟨es,ep,t,bs,g,So,hb⟩:=hS.go (fun o e=>qp.heap S o GB e) fun j hj o e=>qp.heap _ o (cC j hj).2 e
  show wpAny _ A.in1 (holding [Value.ref (ad i)] (setAdd S (.ref (ad i))) >>= _) _ _ s'
  refine Qa (Q4 ?_)
  unfold setAdd
  refine Q4 ?_
  refine Qa (wpAny_pyHash_tuple hu (BX i bX) ?_)
  refine SS (s:={ s' with toks:=s'.toks+((val i).length+1) }) hu g So (BX i bX) (by omega) fun h' nX iX jr t' nH r BY S3 S4 pm BZ=>?_
  have S5:∀ j,j<n->IsTupleKey (intKind prog w) h' (val j) (ad j):=fun j hj=>tk (fun o e=>by rw[BY.2 _ (cC j hj).1];exact e) (BX j hj)
  have mem:∀ x,x∈iX ↔ ∃ j,j<i+1/\val j=x:=fun x=>by
   rw[pm.mem_iff]
   have ax:x∈(if val i∈kl then kl else val i::kl) ↔ x=val i\/x∈kl:=by
    by_cases c:val i∈kl
    ·rw[Qj c]
     exact⟨.inr,fun z=>z.elim (fun y=>y ▸ c) id⟩
    ·rw[Qk c];exact Qw
   rw[ax,hm x]
   constructor
   ·rintro (rfl|⟨j,a,b⟩)
    ·exact⟨i,by omega,rfl⟩
    ·exact⟨j,by omega,b⟩
   ·rintro ⟨j,a,b⟩
    by_cases c:j=i
    ·subst c;exact .inl b.symm
    ·exact .inr ⟨j,by omega,b⟩
  have len:iX.length<=i+1:=by
   have e:=pm.length_eq
   by_cases c:val i∈kl
   ·rw[Qj c]at e;omega
   ·rw[Qk c,QO]at e;omega
  refine Qe ⟨plainId_quiet Z2 _,ih (i+1) _ iX (by omega) bX (W.frame _ s' _ _ vP (Yv _ _) fun b iW o e=>?_) S5 ⟨jr,nX,t',nH,S3,S4,fun b iW=>?_⟩ len mem fun pI B0 B1 B2 mm=>?_⟩
  ·rw[BY.2 b (fun h:b=S=>GA (by rw[<- h];exact iW))];exact e
  ·rcases BZ b iW with rfl|z
   ·exact⟨i,bX,rfl⟩
   ·exact hb b z
  ·refine hR pI B0 (Moved.trans W.gtrans ((qp.mono du).then_heap (Yv _ _) fun b o iW e=>?_) B1) B2 mm
   rw[BY.2 b (fun h:b=S=>iW (by rw[h];exact Qh))];exact e
end
section
variable {prog:Program}{w:World}{A:Around}{E:Value->Shared->Prop}{s:Shared}
set_option maxHeartbeats 3200000 in
theorem S6{t:Addr}{us:List Value}{ks:List (List Int)}(hA:A.handled=none)(hu:A.in1.in1.in1.units<cLine)(ht:s.heap.IsList t us.toArray)(hlen:us.length=ks.length)(hk:∀ (i:Nat) (v:Value),us[i]? = some v->v=.ref (ad i))(t7:∀ i,i<ks.length->IsTupleKey (intKind prog w) s.heap (ks.getD i []) (ad i))(rY:ks.length<=100)
  (q:∀ (h':Heap) (tk:Nat) kl,rX prog w (!fV w) s.heap.objs.size ad ks.length h' kl->(∀ x,x∈kl ↔ ∃ j,j<ks.length/\ks.getD j []=x)->(∀ b o,b<s.heap.objs.size->s.heap.get? b=some o->h'.get? b=some o)->Q (.ref s.heap.objs.size) { s with heap:=h',toks:=tk }) :
  wpAny (model prog w) A (call (.type "set") [.ref t]) Q E s:=by
 have c1:=ZF.made
 have c2:=ZF.sub
 obtain⟨cc,tl,c3⟩:=ZF.mro
 have c4:=ZF.notType
 have c5:=ZF.canCreate
 have c6:=PySem.F.typeCall_set_1 (.ref t)
 refine wpAny_call (codeAny_of_tree (show wpAny _ _ (callAny (.type "set") _) _ _ _ from Qe ⟨Y4 _ (by decide +kernel),ZY PySem.F.entry_type_call ?_⟩))
 rw[Around.under_plain (weight_type_call_type "set" [.ref t] []) rfl]
 repeat (any_goals (first|assumption|wp_step))
 refine Ye (R1 (.ref t) (E:=E) (Q₁:=fun ob s1=>ob=.ref s.heap.objs.size/\s1={ s with heap:=s.heap.push (so 0 (fun _=>0) 0 (!fV w)) }) ⟨rfl,rfl⟩) fun r s1 hr=>?_
 cases r with
 | error e=>exact hr
 | ok fl=>
  cases fl with
  | ret ob=>
   obtain⟨rfl,rfl⟩:=hr
   have g0:(s.heap.push (so 0 (fun _=>0) 0 (!fV w))).get? s.heap.objs.size=some (so 0 (fun _=>0) 0 (!fV w)):=Qs _ rfl
   have g1:Shared.TypeIs { s with heap:=s.heap.push (so 0 (fun _=>0) 0 (!fV w)) } (.ref s.heap.objs.size) "set":=⟨_,g0,rfl⟩
   have g2:=ZF.init.lookup
   have g3:=ZF.init.bind (.ref s.heap.objs.size)
   repeat (any_goals (first|assumption|wp_step))
   refine Ye (Jj (R:=wants (fun r s2=>r=.none/\∃ h' tk kl,s2={ s with heap:=h',toks:=tk }/\rX prog w (!fV w) s.heap.objs.size ad ks.length h' kl/\(∀ x,x∈kl ↔ ∃ j,j<ks.length/\ks.getD j []=x)/\(∀ b o,b<s.heap.objs.size->s.heap.get? b=some o->h'.get? b=some o)) E)
    ZF.init.plain PySem.F.entry_set_init (check_set_init_1 g1 ?_)) fun r2 s2 t8=>?_
   ·obtain⟨ol,jR,lA,nl,GC⟩:=ht
    obtain⟨oc,od,odt,n8⟩:=ol
    simp only at lA GC
    subst lA GC
    have B3:(s.heap.push (so 0 (fun _=>0) 0 (!fV w))).get? t=some _:=Qd _ jR
    have n1:=PySem.F.sub_list_set
    have n2:=PySem.F.sub_list_frozenset
    have n3:(Value.type "list" == Value.type "dict")=false:=by decide
    have tt:(s.heap.push (so 0 (fun _=>0) 0 (!fV w))).IsList t us.toArray:=⟨_,B3,rfl,nl,rfl⟩
    unfold Builtin.«set.__init__» noKeywords Builtin.Frozenset.updateFrom
    generalize S7:pyIter=PI
    wp_walk
    subst S7
    refine Vj tt (Qa (wpAny_runValue ?_))
    have lt:=Qp jR
    have e1:(s.heap.push (so 0 (fun _=>0) 0 (!fV w))).objs.size=s.heap.objs.size+1:=ZK ..
    have sz:us.toArray.size=ks.length:=by rw[Qm,hlen]
    have my:∀ (i:Nat) (v:Value),us.toArray[i]? = some v->v=.ref (ad i):=fun i v hv=>hk i v (by rw[<- hv];simp)
    have alt:∀ i,i<us.toArray.size->ad i<s.heap.objs.size:=fun i hi=>by
     rw[sz]at hi
     obtain⟨o,_,_,ho,_⟩:=t7 i hi
     exact Qp ho
    refine S2 (n:=us.toArray.size) ((Walks.list (A:=A.in1.in1.in1) (by simp[hA]) _ t (by rw[e1];exact QP (Zk lt)) us.toArray).toS) hu s.heap.objs.size (by rw[e1];simp only[Qw,QI,Vx,not_or];exact⟨QP (Zv _),VB lt⟩) (!fV w) (by rw[sz];exact rY) (fun i=>ks.getD i []) ad my (fun i hi=>⟨QP (alt i hi),by rw[e1];simp only[Qw,QI,Vx];exact QP (Zk (alt i hi))⟩) (us.toArray.size-0) 0 _ [] (by omega) (QS _) ⟨⟨_,Qs _ rfl,rfl,rfl⟩,tt.push _⟩ (fun j hj=>?S8) ?S_ (QS _) (fun x=>⟨fun z=>(QI z).elim,fun⟨j,z,_⟩=>absurd z (Q8 _)⟩) ?Ta
    case S8=>
     rw[sz]at hj
     obtain⟨o,items,m,ho,hc,hd,hi⟩:=t7 j hj
     exact⟨o,items,m,Qd _ (Qd _ ho),hc,hd,hi⟩
    case S_=>
     refine⟨#[],0,.fresh 0 0 (!fV w),[],Qd _ (g0.trans (ZQ some (FY _))),⟨rfl,⟨rfl,rfl,fun i k b x _=>by simp at x,fM.fresh _ _ _,JK⟩,rfl,rfl,by show 0*5<7*3;decide⟩,fun b hb=>(QI hb).elim⟩
    case Ta=>
     intro s' iX hm hS mm
     rw[sz]at hS mm
     obtain⟨h',g',d',Bn,Ai⟩:=s'
     cases (show g'=s.gens from hm.gens)
     cases (show d'=s.drawn from hm.drawn)
     cases (show Ai=s.os from hm.os)
     refine Qe (show wpAny _ _ (ret Value.none) _ _ _ from Qe ⟨rfl,h',Bn,iX,rfl,hS,mm,fun c o hc e=>hm.heap c o ?_ (Qd _ (Qd _ e))⟩)
     rw[e1]
     simp only[Qw,QI,Vx,not_or]
     exact⟨QP hc,QP (Zk hc)⟩
   ·cases r2 with
    | error e=>exact t8
    | ok Tb=>
     cases Tb with
     | ret r=>
      obtain⟨rfl,h',tk,iX,rfl,hS,mm,kp⟩:=t8
      repeat (any_goals (first|assumption|wp_step))
      exact q _ _ _ hS mm kp
     | _=>exact t8.elim
  | _=>exact hr.elim
end
theorem Tc{xs:Array Nat}(r:Rs xs)(hi:i<=xs.size):SetTable.below xs (if i=0 then 0 else xs.getD (i-1) 0+1)=i:=by
 by_cases h0:i=0
 ·subst h0
  rw[Qj rfl]
  obtain⟨a,b,c⟩:=vF r 0
  by_cases z:SetTable.below xs 0=0
  ·exact z
  ·exact absurd (b 0 (by omega)) (Q8 _)
 ·rw[Qk h0]
  obtain⟨a,b,c⟩:=vF r (xs.getD (i-1) 0+1)
  generalize SetTable.below xs (xs.getD (i-1) 0+1)=q at *
  by_cases l:q<i
  ·have h1:=c (i-1) (by omega) (by omega)
   omega
  ·by_cases l2:i<q
   ·have h1:=b i l2
    have h2:=r (i-1) i (by omega) (by omega)
    omega
   ·omega
structure t_ (w:World) (es:Array (Int×Value)) (t:SetTable):Prop where
 ft:t.fits es.size=true
 pl:t.plain=true
 ld:t.led = !fV w
 rs:Rs t.place
 sz:t.place.size=es.size
theorem rW.gd{prog:Program}{w:World}{o:Obj}{ep:Nat}{es:Array (Int×Value)}{t:SetTable}{bs:List Addr}(S:rW prog w h o ep (!fV w) kl es t bs):t_ w es t:=
 ⟨S.S.fits,S.pl,S.ld,S.S.tb.rs,by rw[S.S.tb.sz,Qc,S.S.size]⟩
def jD (w:World)(a:Addr)(es:Array (Int×Value))(ep:Nat):Array (Int×Value):=if fV w then pickOrder (w.params.setOrder a ep) es else es
def lE (w:World)(t:SetTable)(i:Nat):Nat:=if fV w then 0 else if i=0 then 0 else t.place.getD (i-1) 0+1
theorem GD(w:World)(a:Addr)(es:Array (Int×Value))(ep:Nat):(jD w a es ep).toList.Perm es.toList:=by
 unfold jD
 split
 ·exact R3 _ _
 ·exact .rfl
theorem yP(w:World)(a:Addr)(es:Array (Int×Value))(ep:Nat):(jD w a es ep).size=es.size:=by
 rw[<- QN,(GD w a es ep).length_eq,QN]
section
variable {prog:Program}{w:World}{A:Around}{E:Value->Shared->Prop}{s:Shared}{a I:Addr}{ep:Nat}{es:Array (Int×Value)}{t:SetTable}
theorem rZ{Q:(Array (Int×Value)×Nat×SetTable)->Shared->Prop}(hm:t_ w es t)(ho:s.heap.get? a=some (mx es ep t))(h:Q (es,ep,t) s):wpAny (model prog w) A (setState a) Q E s:=
 ZV ho rfl hm.ft h
theorem Td(hm:t_ w es t)(ho:s.heap.get? a=some (mx es ep t))
  (hQ:Q (.ref s.heap.objs.size) { s with heap:=s.heap.push (io a 0 0 es.size ep) }):wpAny (model prog w) A (pyIter (.ref a)) Q E s:=by
 have hT:s.TypeIs (.ref a) "set":=⟨_,ho,rfl⟩
 refine Vl hT VT (Zg VT hT R4 ?_ (PySem.F.args_set_iter_1 _))
 unfold Builtin.«frozenset.__iter__» Builtin.Frozenset.slot0 slotArgs
 simp only[List.isEmpty_nil,Z5,Qt,↓reduceIte,bind_assoc,Jf,Ym]
 unfold Builtin.Frozenset.addrOf Builtin.Frozenset.sizeOf
 refine Qa (Qe ?_)
 try dsimp only
 refine Qa (Qe ?_)
 have vQ:∀ {R:Array (Int×Value)->Shared->Prop},R es s->wpAny (model prog w) A.in1 (setEntries a) R E s:=fun h=>by
  unfold setEntries;exact Qa (rZ hm ho (Qe h))
 refine Qa (Qa (vQ (Qe ?_)))
 have Te:∀ {R:Bool->Shared->Prop},R false s->wpAny (model prog w) A.in1 (setDrawn a) R E s:=fun h=>by
  unfold setDrawn
  refine Qa (rZ hm ho (Qa (BI (Qe ?_))))
  have e:(!fV w&&(!t.plain&&decide (es.size > 1)))=false:=by rw[hm.pl];cases fV w<;>rfl
  exact e ▸ h
 refine Qa (Te ?_)
 simp only[Qt,↓reduceIte]
 refine Qa (Qe ?_)
 have Tf:∀ {R:Nat->Shared->Prop},R ep s->wpAny (model prog w) A.in1 (setEpoch a) R E s:=fun h=>by
  unfold setEpoch;exact Qa (rZ hm ho (Qe h))
 refine Qa (Tf ?_)
 unfold newFields
 refine Qa (Q6 (Qe ⟨_,rfl,"set_iterator",_,⟨_,Qs _ rfl,rfl⟩,t6.lookup,?_⟩))
 exact hQ
theorem GF{R:Option (Value×Nat)->Shared->Prop}(hm:t_ w es t)(hi:i<=es.size)(ho:s.heap.get? a=some (mx es ep t))
  (h:R (((jD w a es ep)[i]?).map fun e=>(e.2,lE w t (i+1))) s):wpAny (model prog w) A (setNext a (lE w t i) i ep) R E s:=by
 unfold setNext
 refine Qa (rZ hm ho (Qa (BI ?_)))
 dsimp only
 cases hb:fV w with
 | true=>
  rw[Qj rfl]
  rw[Qk (by simp)]
  refine Qa (m:=setWalk a) ?_
  unfold setWalk
  refine Qa (rZ hm ho (Qa (BI ?_)))
  rw[hb,Qj rfl]
  refine Qa (Vy (Qe (Qe ?_)))
  unfold jD lE at h
  rw[hb]at h
  simp only[↓reduceIte]at h
  unfold lE
  rw[hb,Qj rfl]
  exact h
 | false=>
  rw[Qk (by simp)]
  have lt:t.led=true:=by rw[hm.ld,hb];rfl
  refine(show wpAny _ _ (if((!t.plain&&decide (es.size > 1))=true)then _ else _) _ _ _ from ?_)
  rw[Qk (show ¬ ((!t.plain&&decide (es.size > 1))=true)from by rw[hm.pl];simp)]
  refine Qa (show wpAny _ _ (if((!t.led && !es.isEmpty)=true)then unsupported "set:maker-not-led" else pure ()) _ _ _ from ?_)
  rw[Qk (show ¬ ((!t.led && !es.isEmpty)=true)from by rw[lt];simp)]
  refine Qe ?_
  unfold jD lE at h
  rw[hb]at h
  simp only[Qt,↓reduceIte,Nat.add_one_ne_zero,Nat.add_sub_cancel]at h
  unfold lE
  rw[hb]
  simp only[Qt,↓reduceIte]
  refine Qe ?_
  rw[Tc hm.rs (by rw[hm.sz];exact hi)]
  rcases VI i es.size with bX|Tg
  ·have e1:es[i]? = some es[i]:=Zd bX
   have e2:t.place[i]? = some (t.place.getD i 0):=yM (by rw[hm.sz];exact bX)
   rw[e1]at h ⊢
   rw[e2]
   exact h
  ·have e1:es[i]? = none:=Z4 Tg
   rw[e1]at h ⊢
   exact h
theorem Th(hh:A.handled=none)(cC:a≠I)(hm:t_ w es t):Walks prog w A I [I,a] [I] es.size (fun i v=>∃ e,(jD w a es ep)[i]? = some e/\v=e.2)
  (fun i h=>h.get? I=some (io a (lE w t i) i es.size ep)/\h.get? a=some (mx es ep t)) where
 sub:=fun b hb=>by simp at hb;simp[hb]
 frame:=fun _ _ _ st hk=>⟨hk I (by simp) _ st.1,hk a (by simp) _ st.2⟩
 self:=fun i s Q E st hQ=>by
  have hT:s.TypeIs (.ref I) "set_iterator":=⟨_,st.1,rfl⟩
  refine Vl hT F7 (Zg F7 hT R6 ?_ (R5 _))
  show wpAny _ _ (ret (.ref I)) _ _ s
  exact Qe ⟨_,rfl,"set_iterator",_,hT,t6.lookup,hQ⟩
 item:=fun i s Q E hi st hQ=>by
  have hT:s.TypeIs (.ref I) "set_iterator":=⟨_,st.1,rfl⟩
  unfold pyNext
  refine Qa (JX (Zq (name:=Str.ofString "__next__") hT t6 (Zg t6 hT F4 ?_ (F5 _))))
  unfold Builtin.«set_iterator.__next__»
  refine Qa (Qe ?_)
  refine Qa (Va st.1 rfl ?_)
  show wpAny _ _ (setEntries a >>= _) _ _ _
  have vQ:∀ {R:Array (Int×Value)->Shared->Prop} {E:Value->Shared->Prop},R es s->wpAny (model prog w) A.in1 (setEntries a) R E s:=fun h=>by
   unfold setEntries;exact Qa (rZ hm st.2 (Qe h))
  refine Qa (vQ ?_)
  dsimp only
  rw[Qk (by simp)]
  show wpAny _ _ (setNext a (lE w t i) i ep >>= _) _ _ _
  refine Qa (GF hm (ZI hi) st.2 ?_)
  have ew:(jD w a es ep)[i]? = some ((jD w a es ep)[i]'(by rw[yP];exact hi)):=Zd (by rw[yP];exact hi)
  rw[ew]
  show wpAny _ _ (setField (.ref I) 0 (rawInt (lE w t (i+1))) >>= _) _ _ _
  refine Qa (wpAny_setField_rec st.1 (by simp) fun h1 g1 b1=>?_)
  refine Qa (wpAny_setField_rec (s:={ s with heap:=h1 }) g1 (by simp) fun h2 g2 b2=>?_)
  refine Qe ⟨_,rfl,Qe (hQ _ h2 s.toks ⟨_,ew,rfl⟩ ⟨?_,?_⟩ fun b o hb e=>?_)⟩
  ·rw[g2];simp[io,rawInt]
  ·have n1:=(b1.2 a cC);have n2:=(b2.2 a cC)
   rw[n2,n1];exact st.2
  ·have iW:b≠I:=fun h=>hb (by simp[h])
   rw[b2.2 b iW,b1.2 b iW];exact e
 done:=fun s Q E st hQ=>by
  have hT:s.TypeIs (.ref I) "set_iterator":=⟨_,st.1,rfl⟩
  unfold pyNext
  refine Qa (JX (Zq (name:=Str.ofString "__next__") hT t6 (Zg t6 hT F4 ?_ (F5 _))))
  unfold Builtin.«set_iterator.__next__»
  refine Qa (Qe ?_)
  refine Qa (Va st.1 rfl ?_)
  show wpAny _ _ (setEntries a >>= _) _ _ _
  have vQ:∀ {R:Array (Int×Value)->Shared->Prop} {E:Value->Shared->Prop},R es s->wpAny (model prog w) A.in1 (setEntries a) R E s:=fun h=>by
   unfold setEntries;exact Qa (rZ hm st.2 (Qe h))
  refine Qa (vQ ?_)
  dsimp only
  rw[Qk (by simp)]
  show wpAny _ _ (setNext a (lE w t es.size) es.size ep >>= _) _ _ _
  refine Qa (GF hm (Qi _) st.2 ?_)
  have ew:(jD w a es ep)[es.size]? = none:=Z4 (by rw[yP];exact Qi _)
  rw[ew]
  show wpAny _ _ (setField (.ref I) 2 .none >>= _) _ _ _
  refine Qa (wpAny_setField_rec st.1 (by simp) fun h1 g1 b1=>?_)
  show wpAny _ _ (newExc (.type "StopIteration") [] >>= _) _ _ _
  refine Qa ?_
  simp only[newExc,newTuple]
  refine Qa (Q6 ?_ (by size_fits))
  refine Qa (m:=firstArgMember _ _) (V0 (a:=Value.none) (by first|rfl|(simp only[firstArgMember];rfl)) ?_)
  refine Q6 ?_ (by size_fits)
  simp only[raiseNew]
  refine Qa (wpAny_handled ?_)
  rw[show A.in1.handled=none from hh]
  refine Qa (Qe (wpAny_throw ?_))
  refine Qa (Yy (T:="StopIteration") (b:=true) ⟨_,Qs _ rfl,rfl⟩ isSubtype_stop ?_)
  refine Qe (hQ _ s.toks fun b o hb e=>?_)
  have iW:b≠I:=fun h=>hb (by simp[h])
  exact Qd _ (Qd _ (by rw[b1.2 b iW];exact e))
theorem Ti(hm:t_ w es t):KdlSrc prog w "set" a a es.size (fun i v=>∃ e,(jD w a es ep)[i]? = some e/\v=e.2) (fun h=>h.get? a=some (mx es ep t)) where
 type:=fun _ h=>⟨_,h,rfl⟩
 there:=fun _ h=>⟨Qp h,Qp h⟩
 keep:=fun _ _ h hk=>hk a (.inl rfl) _ h
 notList:=by decide
 notTuple:=by decide
 hint:=fun _ _ _ _ h hq=>R7 ⟨_,h,rfl⟩ hq
 iter:=fun A s hh h=>⟨io a 0 0 es.size ep,_,(fun _ _ hq=>Td hm h hq),Th hh (QP (Qp h)) hm,⟨by rw[show lE w t 0=0 by unfold lE;split<;>rfl];exact Qs _ rfl,Qd _ h⟩⟩
end
end L3
namespace L3
open PySem PySem.W PyProof.Rows
variable {Q:Bool->Shared->Prop}{a:Addr}{h:Heap}{i j n aP:Nat}{ks:List (Nat×Nat)}{p p0:Array Nat}{vs:List Value}{x:Nat×Nat}
def bj {α:Type}(lt:Nat->Nat->Bool):KasT α->α
 | .ret a=>a
 | .ask i j k=>bj lt (k (lt i j))
theorem oQ{α β:Type}(lt:Nat->Nat->Bool)(f:α->KasT β):∀ t:KasT α,bj lt (t.bind f)=bj lt (f (bj lt t))
 | .ret _=>rfl
 | .ask i j k=>oQ lt f (k (lt i j))
variable {r:Nat->Int}
abbrev cM (r:Nat->Int)(i j:Nat):Bool:=decide (r i<r j)
abbrev xv (r:Nat->Int)(p:Array Nat)(i:Nat):Int:=r (p.getD i 0)
theorem B4(p:Array Nat):∀ (f n:Nat),n<=bj (cM r) (kas_asc p f n)/\bj (cM r) (kas_asc p f n)<=n+f/\(∀ k,n<=k->k<bj (cM r) (kas_asc p f n)->xv r p (k-1)<=xv r p k)/\(bj (cM r) (kas_asc p f n)<n+f->xv r p (bj (cM r) (kas_asc p f n))<xv r p (bj (cM r) (kas_asc p f n)-1))
 | 0,n=>⟨Qi _,Qi _,fun k a b=>absurd (Z8 a b) (Q0 _),fun h=>absurd h (Q0 _)⟩
 | f+1,n=>by
  have e:bj (cM r) (kas_asc p (f+1) n)=if xv r p n<xv r p (n-1)then n else bj (cM r) (kas_asc p f (n+1)):=by
   show bj (cM r) (if decide (r (p.getD n 0)<r (p.getD (n-1) 0))=true then KasT.ret n else kas_asc p f (n+1))=_
   by_cases c:xv r p n<xv r p (n-1)
   ·rw[Qj c,Qj (QA c)];rfl
   ·rw[Qk c,Qk (by rw[ZL];exact c)]
  rw[e]
  by_cases c:xv r p n<xv r p (n-1)
  ·rw[Qj c]
   exact⟨Qi _,by omega,fun k a b=>by omega,fun _=>c⟩
  ·rw[Qk c]
   obtain⟨h1,h2,h3,h4⟩:=B4 p f (n+1)
   refine⟨by omega,by omega,fun k a b=>?_,fun h=>h4 (by omega)⟩
   by_cases z:k=n
   ·subst z;omega
   ·exact h3 k (by omega) b
theorem vR{x:Nat->Int}(h:∀ k,1<=k->k<n->x (k-1)<=x k):∀ (i j:Nat),i<=j->j<n->x i<=x j:=by
 intro i j
 induction j with
 | zero=>
  intro a _
  have:i=0:=by omega
  subst this
  exact YF _
 | succ j ih=>
  intro a b
  by_cases z:i=j+1
  ·subst z;exact YF _
  ·exact VJ (ih (by omega) (by omega)) (h (j+1) (by omega) b)
theorem B5(hj:j<=p.size)(k:Nat):xv r (kas_rev p i j) k=if i<=k/\k<j then xv r p (i+j-1-k)else xv r p k:=by
 unfold kas_rev
 show r ((mirror p i j ((j-i) / 2)).getD k 0)=_
 rw[QJ,getElem?_mirror_all hj k]
 split
 ·rw[<- QJ]
 ·rw[<- QJ]
theorem qq(p:Array Nat)(i j:Nat):(kas_rev p i j).Perm p:=mirror_perm _ _ _ _
theorem B6(hj:j<=p.size)(h:∀ k,i<=k->k<j->xv r p k=xv r p (j-1))(k:Nat):xv r (kas_rev p i j) k=xv r p k:=by
 rw[B5 hj]
 split
 next c=>
  rw[h (i+j-1-k) (by omega) (by omega),h k c.1 c.2]
 ·rfl
structure Dn (r:Nat->Int) (p0 p:Array Nat) (n q:Nat):Prop where
 pm:p.Perm p0
 le:n<=p0.size
 q1:q<n
 dn:∀ k,1<=k->k<n->xv r p k<=xv r p (k-1)
 eq:∀ k,n-(q+1)<=k->k<n->xv r p k=xv r p (n-1)
theorem yQ:∀ (f:Nat) (p:Array Nat) (n q:Nat),Dn r p0 p n q->n+f<=p0.size->∃ p' n' q',bj (cM r) (kas_desc f p n q)=(p',n',q')/\Dn r p0 p' n' q'/\n<=n'/\n'<=n+f
 | 0,p,n,q,h,_=>⟨p,n,q,rfl,h,Qi _,Qi _⟩
 | f+1,p,n,q,h,hf=>by
  have sz:p.size=p0.size:=h.pm.size_eq
  have hq:=h.q1
  have e:bj (cM r) (kas_desc (f+1) p n q)=if xv r p n<xv r p (n-1)then(if q > 0 then bj (cM r) (kas_desc f (kas_rev p (n-(q+1)) n) (n+1) 0)else bj (cM r) (kas_desc f p (n+1) 0))else if xv r p (n-1)<xv r p n then(p,n,q)else bj (cM r) (kas_desc f p (n+1) (q+1)):=by
   show bj (cM r) (if decide (r (p.getD n 0)<r (p.getD (n-1) 0))=true then(if q > 0 then kas_desc f (kas_rev p (n-(q+1)) n) (n+1) 0 else kas_desc f p (n+1) 0)else KasT.ask (p.getD (n-1) 0) (p.getD n 0) fun d=>if d=true then KasT.ret (p,n,q)else kas_desc f p (n+1) (q+1))=_
   by_cases c:xv r p n<xv r p (n-1)
   ·rw[Qj c,Qj (QA c)]
    split<;>rfl
   ·rw[Qk c,Qk (by rw[ZL];exact c)]
    show bj (cM r) (if decide (r (p.getD (n-1) 0)<r (p.getD n 0))=true then KasT.ret (p,n,q)else kas_desc f p (n+1) (q+1))=_
    by_cases d:xv r p (n-1)<xv r p n
    ·rw[Qj d,Qj (QA d)];rfl
    ·rw[Qk d,Qk (by rw[ZL];exact d)]
  rw[e]
  by_cases c:xv r p n<xv r p (n-1)
  ·rw[Qj c]
   have step:∀ p1:Array Nat,p1.Perm p0->(∀ k,xv r p1 k=xv r p k)->Dn r p0 p1 (n+1) 0:=fun p1 pm ex=>by
    refine⟨pm,by omega,by omega,fun k a b=>?_,fun k a b=>by rw[show k=n+1-1 by omega]⟩
    rw[ex,ex]
    by_cases z:k=n
    ·subst z;omega
    ·exact h.dn k a (by omega)
   by_cases d:q > 0
   ·rw[Qj d]
    obtain⟨p',n',q',e1,e2,e3,e4⟩:=yQ f _ (n+1) 0 (step _ ((qq _ _ _).trans h.pm) fun k=>B6 (by omega) h.eq k) (by omega)
    exact⟨p',n',q',e1,e2,by omega,by omega⟩
   ·rw[Qk d]
    obtain⟨p',n',q',e1,e2,e3,e4⟩:=yQ f _ (n+1) 0 (step p h.pm fun _=>rfl) (by omega)
    exact⟨p',n',q',e1,e2,by omega,by omega⟩
  ·rw[Qk c]
   by_cases d:xv r p (n-1)<xv r p n
   ·rw[Qj d]
    exact⟨p,n,q,rfl,h,Qi _,by omega⟩
   ·rw[Qk d]
    have en:xv r p n=xv r p (n-1):=by omega
    obtain⟨p',n',q',e1,e2,e3,e4⟩:=yQ f p (n+1) (q+1) ⟨h.pm,by omega,by omega,fun k a b=>by
     by_cases z:k=n
     ·subst z;omega
     ·exact h.dn k a (by omega),fun k a b=>by
     rw[show n+1-1=n by omega]
     by_cases z:k=n
     ·rw[z]
     ·rw[h.eq k (by omega) (by omega),en]⟩ (by omega)
    exact⟨p',n',q',e1,e2,by omega,by omega⟩
structure Up (r:Nat->Int) (p0 p:Array Nat) (n:Nat):Prop where
 pm:p.Perm p0
 n1:1<=n
 le:n<=p0.size
 up:∀ k,1<=k->k<n->xv r p (k-1)<=xv r p k
theorem GG{q:Nat}(h:Dn r p0 p n q)(hn:aP=p0.size):∃ m p',bj (cM r) (kas_tail3 n aP p)=(m,p')/\Up r p0 p' m:=by
 have sz:p.size=p0.size:=h.pm.size_eq
 have hl:=h.le
 have hq:=h.q1
 unfold kas_tail3
 rw[oQ]
 obtain⟨h1,h2,h3,_⟩:=B4 (r:=r) (kas_rev p 0 n) (aP-n) n
 refine⟨_,_,rfl,(qq _ _ _).trans h.pm,by omega,by omega,fun k a b=>?_⟩
 by_cases z:k<n
 ·rw[B5 (by omega),B5 (by omega),Qj ⟨by omega,by omega⟩,Qj ⟨by omega,z⟩]
  have:=h.dn (0+n-1-(k-1)) (by omega) (by omega)
  rw[show 0+n-1-(k-1)-1=0+n-1-k by omega]at this
  exact this
 ·exact h3 k (by omega) b
theorem GH(h:Dn r p0 p (n+1) 0)(hn:aP=p0.size):∃ m p',bj (cM r) (kas_descPart n aP p)=(m,p')/\Up r p0 p' m:=by
 have hl:=h.le
 unfold kas_descPart
 rw[oQ]
 obtain⟨p',n',q',e,d,a,b⟩:=yQ (aP-(n+1)) p (n+1) 0 h (by omega)
 rw[e]
 show ∃ m Tj,bj (cM r) (if q' > 0 then kas_tail3 n' aP (kas_rev p' (n'-(q'+1)) n')else kas_tail3 n' aP p')=(m,Tj)/\_
 have sz:p'.size=p0.size:=d.pm.size_eq
 have iy:=d.le
 by_cases c:q' > 0
 ·rw[Qj c]
  have ex:∀ k,xv r (kas_rev p' (n'-(q'+1)) n') k=xv r p' k:=fun k=>B6 (by omega) d.eq k
  exact GG (q:=q') ⟨(qq _ _ _).trans d.pm,d.le,d.q1,fun k a b=>by rw[ex,ex];exact d.dn k a b,fun k a b=>by rw[ex,ex];exact d.eq k a b⟩ hn
 ·rw[Qk c]
  exact GG d hn
theorem Tn(h1:1<=p0.size):∃ m p',bj (cM r) (kas_count p0.size p0)=(m,p')/\Up r p0 p' m:=by
 unfold kas_count
 rw[oQ]
 obtain⟨a,b,c,d⟩:=B4 (r:=r) p0 (p0.size-1) 1
 generalize bj (cM r) (kas_asc p0 (p0.size-1) 1)=n at *
 show ∃ m p',bj (cM r) (if(n==p0.size)=true then KasT.ret (n,p0)else if n > 1 then KasT.ask (p0.getD 0 0) (p0.getD (n-1) 0) fun c=>if c=true then KasT.ret (n,p0)else kas_descPart n p0.size (kas_rev p0 0 n)else kas_descPart n p0.size p0)=(m,p')/\_
 by_cases z:n=p0.size
 ·rw[Qj (by rw[Jq];exact z)]
  exact⟨n,p0,rfl,VO _,a,by omega,c⟩
 ·rw[Qk (by rw[Jq];exact z)]
  have lt:=d (by omega)
  by_cases y:n > 1
  ·rw[Qj y]
   show ∃ m p',bj (cM r) (if decide (r (p0.getD 0 0)<r (p0.getD (n-1) 0))=true then KasT.ret (n,p0)else kas_descPart n p0.size (kas_rev p0 0 n))=(m,p')/\_
   by_cases x:xv r p0 0<xv r p0 (n-1)
   ·rw[Qj (QA x)]
    exact⟨n,p0,rfl,VO _,a,by omega,c⟩
   ·rw[Qk (by rw[ZL];exact x)]
    have same:∀ k,0<=k->k<n->xv r p0 k=xv r p0 (n-1):=fun k _ hk=>by
     have l1:=vR c 0 k (QS _) hk
     have l2:=vR c k (n-1) (by omega) (by omega)
     omega
    have ex:∀ k,xv r (kas_rev p0 0 n) k=xv r p0 k:=fun k=>B6 (by omega) same k
    refine GH ⟨qq _ _ _,by omega,by omega,fun k q1 q2=>?_,fun k q1 q2=>by rw[show k=n+1-1 by omega]⟩ rfl
    rw[ex,ex]
    by_cases w:k=n
    ·subst w;omega
    ·rw[same k (QS _) (by omega),same (k-1) (QS _) (by omega)]
     exact YF _
  ·rw[Qk y]
   have n1:n=1:=by omega
   subst n1
   refine GH ⟨VO _,by omega,by omega,fun k q1 q2=>?_,fun k q1 q2=>by rw[show k=1+1-1 by omega]⟩ rfl
   rw[show k=1 by omega]
   omega
variable {r:Nat->Int}
theorem vS{k:Nat}(up:∀ j,1<=j->j<k->xv r p (j-1)<=xv r p j):∀ (f l u:Nat),u-l<=f->l<=u->u<=k->(∀ i,i<l->xv r p i<=xv r p k)->(∀ i,u<=i->i<k->xv r p k<xv r p i)->
  bj (cM r) (kas_place p k f l u)<=k/\(∀ i,i<bj (cM r) (kas_place p k f l u)->xv r p i<=xv r p k)/\(∀ i,bj (cM r) (kas_place p k f l u)<=i->i<k->xv r p k<xv r p i)
 | 0,l,u,hf,hl,hu,h1,h2=>⟨by show l<=k;omega,h1,fun i a b=>h2 i (by have:l<=i:=a;omega) b⟩
 | f+1,l,u,hf,hl,hu,h1,h2=>by
  have e:bj (cM r) (kas_place p k (f+1) l u)=if l ≥ u then l else if xv r p k<xv r p ((l+u) / 2)then bj (cM r) (kas_place p k f l ((l+u) / 2))else bj (cM r) (kas_place p k f ((l+u) / 2+1) u):=by
   show bj (cM r) (if l ≥ u then KasT.ret l else KasT.ask (p.getD k 0) (p.getD ((l+u) / 2) 0) fun c=>if c=true then kas_place p k f l ((l+u) / 2)else kas_place p k f ((l+u) / 2+1) u)=_
   by_cases c:l ≥ u
   ·rw[Qj c,Qj c];rfl
   ·rw[Qk c,Qk c]
    show bj (cM r) (if decide (r (p.getD k 0)<r (p.getD ((l+u) / 2) 0))=true then kas_place p k f l ((l+u) / 2)else kas_place p k f ((l+u) / 2+1) u)=_
    by_cases d:xv r p k<xv r p ((l+u) / 2)
    ·rw[Qj d,Qj (QA d)]
    ·rw[Qk d,Qk (by rw[ZL];exact d)]
  rw[e]
  by_cases c:l ≥ u
  ·rw[Qj c]
   exact⟨by omega,h1,fun i a b=>h2 i (by omega) b⟩
  ·rw[Qk c]
   by_cases d:xv r p k<xv r p ((l+u) / 2)
   ·rw[Qj d]
    refine vS up f l _ (by omega) (by omega) (by omega) h1 fun i a b=>?_
    exact Int.lt_of_lt_of_le d (vR up _ i a b)
   ·rw[Qk d]
    refine vS up f _ u (by omega) (by omega) hu (fun i a=>?_) h2
    have:=vR up i ((l+u) / 2) (by omega) (by omega)
    omega
theorem To{k d:Nat}(hk:k<p.size)(hd:d<=k)(j:Nat):xv r (bubble p k d) j=if j=k-d then xv r p k else if k-d<j/\j<=k then xv r p (j-1)else xv r p j:=by
 show r ((bubble p k d).getD j 0)=_
 rw[QJ,getElem?_bubble hk d hd j]
 split
 ·rw[<- QJ]
 ·split
  ·rw[<- QJ]
  ·rw[<- QJ]
theorem GI:∀ (f:Nat) (p:Array Nat) (k:Nat),Up r p0 p k->k+f=p0.size->Up r p0 (bj (cM r) (kas_bin f p k)) p0.size
 | 0,p,k,h,hk=>by
  have:k=p0.size:=by omega
  subst this
  exact h
 | f+1,p,k,h,hk=>by
  have sz:p.size=p0.size:=h.pm.size_eq
  have h1:=h.n1
  have ki:k<p.size:=by omega
  obtain⟨a,b,c⟩:=vS (r:=r) (p:=p) (k:=k) h.up k 0 k (by omega) (QS _) (Qi _) (fun _ z=>absurd z (Q8 _)) (fun i a b=>by omega)
  have e:bj (cM r) (kas_bin (f+1) p k)=bj (cM r) (kas_bin f (bubble p k (k-bj (cM r) (kas_place p k k 0 k))) (k+1)):=oQ _ _ _
  rw[e]
  generalize bj (cM r) (kas_place p k k 0 k)=l at *
  refine GI f _ (k+1) ⟨(bubble_perm _ _ _).trans h.pm,by omega,by omega,fun j q1 q2=>?_⟩ (by omega)
  have x:∀ j,xv r (bubble p k (k-l)) j=if j=l then xv r p k else if l<j/\j<=k then xv r p (j-1)else xv r p j:=fun j=>by
   rw[To ki (by omega),show k-(k-l)=l by omega]
  rw[x,x]
  by_cases z:j=l
  ·subst z
   rw[Qk (by omega),Qk (by omega),Qj rfl]
   exact b (j-1) (by omega)
  ·rw[Qk z]
   by_cases y:j-1=l
   ·rw[Qj y,Qj ⟨by omega,by omega⟩]
    rw[y]
    exact Int.le_of_lt (c l (Qi _) (by omega))
   ·rw[Qk y]
    by_cases w:l<j
    ·rw[Qj ⟨by omega,by omega⟩,Qj ⟨w,by omega⟩]
     exact h.up (j-1) (by omega) (by omega)
    ·rw[Qk (by omega),Qk (by omega)]
     exact h.up j q1 (by omega)
theorem Tp(hn:1<=n):(bj (cM r) (kas_sort n)).Perm (List.toArray (List.range n))/\∀ i j,i<=j->j<n->xv r (bj (cM r) (kas_sort n)) i<=xv r (bj (cM r) (kas_sort n)) j:=by
 have s0:(List.toArray (List.range n)).size=n:=by rw[Qm,QM]
 obtain⟨m,p,e,h⟩:=Tn (r:=r) (p0:=List.toArray (List.range n)) (by omega)
 rw[s0]at e
 have e2:bj (cM r) (kas_sort n)=bj (cM r) (if m<n then kas_bin (n-max m 1) p (max m 1)else KasT.ret p):=by
  unfold kas_sort
  rw[oQ,e]
 have h1:=h.n1
 have hl:=h.le
 rw[s0]at hl
 have up:Up r (List.toArray (List.range n)) (bj (cM r) (kas_sort n)) (List.toArray (List.range n)).size:=by
  rw[e2]
  by_cases c:m<n
  ·rw[Qj c,show max m 1=m by omega]
   exact GI _ _ _ h (by omega)
  ·rw[Qk c]
   have:m=(List.toArray (List.range n)).size:=by omega
   rw[<- this]
   exact h
 refine⟨up.pm,fun i j a b=>vR up.up i j a (by rw[s0];exact b)⟩
def g7 {α:Type}(lt:Nat->Nat->Bool)(n:Nat):KasT α->Prop
 | .ret _=>True
 | .ask i j k=>i<n/\j<n/\g7 lt n (k (lt i j))
theorem ua{α β:Type}{lt:Nat->Nat->Bool}{f:α->KasT β}:∀ {t:KasT α},g7 lt n t->g7 lt n (f (bj lt t))->g7 lt n (t.bind f)
 | .ret _,_,h=>h
 | .ask _ _ _,h,h'=>⟨h.1,h.2.1,ua h.2.2 h'⟩
def Vp (n:Nat)(p:Array Nat):Prop:=∀ k,p.getD k 0<n
theorem Vp.pm{q:Array Nat}(h:Vp n q)(h0:0<n)(e:p.Perm q):Vp n p:=fun k=>by
 by_cases c:k<p.size
 ·have m:p[k]∈q:=e.mem_iff.mp (Vk c)
  obtain⟨j,hj,q'⟩:=V4 m
  have:p.getD k 0=p[k]:=by unfold Array.getD;rw[V6 c];rfl
  rw[this,<- q']
  have:=h j
  unfold Array.getD at this
  rw[V6 hj]at this
  exact this
 ·unfold Array.getD
  rw[dif_neg c]
  exact h0
variable {lt:Nat->Nat->Bool}{n:Nat}
theorem B7(v:Vp n p):∀ f m,g7 lt n (kas_asc p f m)
 | 0,_=>trivial
 | f+1,m=>⟨v _,v _,by
  show g7 lt n (if lt (p.getD m 0) (p.getD (m-1) 0)=true then KasT.ret m else kas_asc p f (m+1))
  split
  ·trivial
  ·exact B7 v f (m+1)⟩
theorem yR(h0:0<n):∀ (f:Nat) (p:Array Nat) (m q:Nat),Vp n p->g7 lt n (kas_desc f p m q)/\Vp n (bj lt (kas_desc f p m q)).1
 | 0,_,_,_,v=>⟨trivial,v⟩
 | f+1,p,m,q,v=>by
  have vr:∀ i j,Vp n (kas_rev p i j):=fun i j=>v.pm h0 (qq _ _ _)
  have key:g7 lt n (if lt (p.getD m 0) (p.getD (m-1) 0)=true then(if q > 0 then kas_desc f (kas_rev p (m-(q+1)) m) (m+1) 0 else kas_desc f p (m+1) 0)else KasT.ask (p.getD (m-1) 0) (p.getD m 0) fun d=>if d=true then KasT.ret (p,m,q)else kas_desc f p (m+1) (q+1)) /\
    Vp n (bj lt (if lt (p.getD m 0) (p.getD (m-1) 0)=true then(if q > 0 then kas_desc f (kas_rev p (m-(q+1)) m) (m+1) 0 else kas_desc f p (m+1) 0)else KasT.ask (p.getD (m-1) 0) (p.getD m 0) fun d=>if d=true then KasT.ret (p,m,q)else kas_desc f p (m+1) (q+1))).1:=by
   split
   ·split
    ·exact yR h0 f _ _ _ (vr _ _)
    ·exact yR h0 f _ _ _ v
   ·have k2:g7 lt n (if lt (p.getD (m-1) 0) (p.getD m 0)=true then KasT.ret (p,m,q)else kas_desc f p (m+1) (q+1))/\Vp n (bj lt (if lt (p.getD (m-1) 0) (p.getD m 0)=true then KasT.ret (p,m,q)else kas_desc f p (m+1) (q+1))).1:=by
     split
     ·exact⟨trivial,v⟩
     ·exact yR h0 f _ _ _ v
    exact⟨⟨v _,v _,k2.1⟩,k2.2⟩
  exact⟨⟨v _,v _,key.1⟩,key.2⟩
theorem GJ(h0:0<n)(v:Vp n p)(m aP:Nat):g7 lt n (kas_tail3 m aP p)/\Vp n (bj lt (kas_tail3 m aP p)).2:=by
 have vr:Vp n (kas_rev p 0 m):=v.pm h0 (qq _ _ _)
 unfold kas_tail3
 exact⟨ua (B7 vr _ _) trivial,by rw[oQ];exact vr⟩
theorem GK(h0:0<n)(v:Vp n p)(m aP:Nat):g7 lt n (kas_descPart m aP p)/\Vp n (bj lt (kas_descPart m aP p)).2:=by
 unfold kas_descPart
 obtain⟨a,b⟩:=yR (lt:=lt) h0 (aP-(m+1)) p (m+1) 0 v
 have key:g7 lt n (if(bj lt (kas_desc (aP-(m+1)) p (m+1) 0)).2.2 > 0 then kas_tail3 (bj lt (kas_desc (aP-(m+1)) p (m+1) 0)).2.1 aP (kas_rev (bj lt (kas_desc (aP-(m+1)) p (m+1) 0)).1 ((bj lt (kas_desc (aP-(m+1)) p (m+1) 0)).2.1-((bj lt (kas_desc (aP-(m+1)) p (m+1) 0)).2.2+1)) (bj lt (kas_desc (aP-(m+1)) p (m+1) 0)).2.1)else kas_tail3 (bj lt (kas_desc (aP-(m+1)) p (m+1) 0)).2.1 aP (bj lt (kas_desc (aP-(m+1)) p (m+1) 0)).1)/\Vp n (bj lt (if(bj lt (kas_desc (aP-(m+1)) p (m+1) 0)).2.2 > 0 then kas_tail3 (bj lt (kas_desc (aP-(m+1)) p (m+1) 0)).2.1 aP (kas_rev (bj lt (kas_desc (aP-(m+1)) p (m+1) 0)).1 ((bj lt (kas_desc (aP-(m+1)) p (m+1) 0)).2.1-((bj lt (kas_desc (aP-(m+1)) p (m+1) 0)).2.2+1)) (bj lt (kas_desc (aP-(m+1)) p (m+1) 0)).2.1)else kas_tail3 (bj lt (kas_desc (aP-(m+1)) p (m+1) 0)).2.1 aP (bj lt (kas_desc (aP-(m+1)) p (m+1) 0)).1)).2:=by
  split
  ·exact GJ h0 (b.pm h0 (qq _ _ _)) _ _
  ·exact GJ h0 b _ _
 exact⟨ua a key.1,by rw[oQ];exact key.2⟩
theorem Tq(h0:0<n)(v:Vp n p)(aP:Nat):g7 lt n (kas_count aP p)/\Vp n (bj lt (kas_count aP p)).2:=by
 unfold kas_count
 have a:=B7 (lt:=lt) v (aP-1) 1
 generalize kas_asc p (aP-1) 1=t at *
 generalize hm:bj lt t=m
 have vr:Vp n (kas_rev p 0 m):=v.pm h0 (qq _ _ _)
 have key:g7 lt n (if(m==aP)=true then KasT.ret (m,p)else if m > 1 then KasT.ask (p.getD 0 0) (p.getD (m-1) 0) fun c=>if c=true then KasT.ret (m,p)else kas_descPart m aP (kas_rev p 0 m)else kas_descPart m aP p)/\Vp n (bj lt (if(m==aP)=true then KasT.ret (m,p)else if m > 1 then KasT.ask (p.getD 0 0) (p.getD (m-1) 0) fun c=>if c=true then KasT.ret (m,p)else kas_descPart m aP (kas_rev p 0 m)else kas_descPart m aP p)).2:=by
  split
  ·exact⟨trivial,v⟩
  ·split
   ·have k2:g7 lt n (if lt (p.getD 0 0) (p.getD (m-1) 0)=true then KasT.ret (m,p)else kas_descPart m aP (kas_rev p 0 m))/\Vp n (bj lt (if lt (p.getD 0 0) (p.getD (m-1) 0)=true then KasT.ret (m,p)else kas_descPart m aP (kas_rev p 0 m))).2:=by
     split
     ·exact⟨trivial,v⟩
     ·exact GK h0 vr _ _
    exact⟨⟨v _,v _,k2.1⟩,k2.2⟩
   ·exact GK h0 v _ _
 rw[<- hm]at key
 exact⟨ua a key.1,by rw[oQ];exact key.2⟩
theorem B8(v:Vp n p)(k:Nat):∀ f l u,g7 lt n (kas_place p k f l u)
 | 0,_,_=>trivial
 | f+1,l,u=>by
  show g7 lt n (if l ≥ u then KasT.ret l else KasT.ask (p.getD k 0) (p.getD ((l+u) / 2) 0) fun c=>if c=true then kas_place p k f l ((l+u) / 2)else kas_place p k f ((l+u) / 2+1) u)
  split
  ·trivial
  ·refine⟨v _,v _,?_⟩
   show g7 lt n (if lt (p.getD k 0) (p.getD ((l+u) / 2) 0)=true then kas_place p k f l ((l+u) / 2)else kas_place p k f ((l+u) / 2+1) u)
   split
   ·exact B8 v k f _ _
   ·exact B8 v k f _ _
theorem GL(h0:0<n):∀ (f:Nat) (p:Array Nat) (k:Nat),Vp n p->g7 lt n (kas_bin f p k)
 | 0,_,_,_=>trivial
 | f+1,p,k,v=>ua (B8 v k k 0 k) (GL h0 f _ _ (v.pm h0 (bubble_perm _ _ _)))
theorem Tr(h0:0<n):g7 lt n (kas_sort n):=by
 have v:Vp n (List.toArray (List.range n)):=fun k=>by
  rw[QJ,Jc]
  by_cases c:k<n
  ·rw[Zn c];exact c
  ·rw[QK (by rw[QM];omega)];exact h0
 unfold kas_sort
 obtain⟨a,b⟩:=Tq (lt:=lt) h0 v n
 refine ua a ?_
 split
 ·exact GL h0 _ _ _ b
 ·trivial
theorem GN{α:Type}{cmp:Nat->Nat->(Bool->Shared->Prop)->Shared->Prop}{s:Shared}{Q:α->Shared->Prop}(h:∀ i j C,i<n->j<n->C (lt i j) s->cmp i j C s):∀ {t:KasT α},g7 lt n t->Q (bj lt t) s->t.kasWp cmp Q s
 | .ret _,_,q=>q
 | .ask i j k,o,q=>h i j _ o.1 o.2.1 (GN h o.2.2 q)
abbrev e_ (x:Nat×Nat):List Int:=[Int.ofNat x.1,Int.ofNat x.2]
abbrev rk (x:Nat×Nat):Int:=Int.ofNat (x.1*1000+x.2)
section
variable {prog:Program}{w:World}{A:Around}{E:Value->Shared->Prop}{s:Shared}
theorem GO(b:Bool){x y:Int}{t u:Tok}(h:Q (decide (x<y)) s):wpAny (model prog w) A (oneLt' b (.int x t) (.int y u)) Q E s:=by
 cases b with
 | true=>exact oneLt_int h
 | false=>exact kat_one _ _ (PySem.P.lt_int h)
theorem B9(k:IsTupleKey (intKind prog w) h (e_ x) a):∃ o n t u,h.get? a=some o/\o.cls=.type "tuple" /\ o.data=.seq #[.int (Int.ofNat x.1) t,.int (Int.ofNat x.2) u] n:=by
 obtain⟨o,items,n,ho,hc,hd,hi⟩:=k
 cases cD:items.toList with
 | nil=>rw[cD]at hi;cases hi
 | cons v l=>
  rw[cD]at hi
  cases hi with
  | cons h1 r=>
   cases r with
   | cons h2 r2=>
    cases r2
    obtain⟨t,rfl⟩:=Yc h1
    obtain⟨u,rfl⟩:=Yc h2
    refine⟨o,n,t,u,ho,hc,?_⟩
    rw[hd]
    congr 1
    apply Array.ext'
    rw[cD]
theorem Ts{y:Nat×Nat}{b:Addr}{f:Bool}(ka:IsTupleKey (intKind prog w) s.heap (e_ x) a)(kb:IsTupleKey (intKind prog w) s.heap (e_ y) b)(hx:x.2<1000)(hy:y.2<1000)(h:Q (decide (rk x<rk y)) s) :
  wpAny (model prog w) A (keyLt' (tuples' f) (.ref a) (.ref b)) Q E s:=by
 obtain⟨o,n,t,u,ho,_,hd⟩:=B9 ka
 obtain⟨o',n',t',u',iw,_,jq⟩:=B9 kb
 have e:decide (rk x<rk y)=if Int.ofNat x.1=Int.ofNat y.1 then(if Int.ofNat x.2=Int.ofNat y.2 then false else decide (Int.ofNat x.2<Int.ofNat y.2))else decide (Int.ofNat x.1<Int.ofNat y.1):=by
  have i1:rk x<rk y ↔ x.1*1000+x.2<y.1*1000+y.2:=by show((_:Nat):Int)<((_:Nat):Int) ↔ _;omega
  have i2:Int.ofNat x.1=Int.ofNat y.1 ↔ x.1=y.1:=⟨fun z=>by injection z,fun z=>by rw[z]⟩
  have i3:Int.ofNat x.2=Int.ofNat y.2 ↔ x.2=y.2:=⟨fun z=>by injection z,fun z=>by rw[z]⟩
  have i4:Int.ofNat x.1<Int.ofNat y.1 ↔ x.1<y.1:=by show((_:Nat):Int)<((_:Nat):Int) ↔ _;omega
  have i5:Int.ofNat x.2<Int.ofNat y.2 ↔ x.2<y.2:=by show((_:Nat):Int)<((_:Nat):Int) ↔ _;omega
  simp only[i1,i2,i3,i4,i5]
  by_cases c:x.1=y.1
  ·rw[Qj c]
   by_cases d:x.2=y.2
   ·rw[Qj d];exact QZ (by omega)
   ·rw[Qk d];exact Jv.mpr (by omega)
  ·rw[Qk c];exact Jv.mpr (by omega)
 refine kat_lt ho hd iw jq (kat_cons (Vt ?_))
 by_cases c:Int.ofNat x.1=Int.ofNat y.1
 ·rw[Qj c]at e
  rw[Jq.mpr c]
  refine kat_yes (kat_cons (Vt ?_))
  by_cases d:Int.ofNat x.2=Int.ofNat y.2
  ·rw[Qj d]at e
   rw[Jq.mpr d]
   refine kat_yes (kat_nil ?_)
   rw[e]at h
   exact h
  ·rw[Qk d]at e
   rw[Z0.mpr d]
   rw[e]at h
   exact kat_no (GO _ h)
 ·rw[Qk c]at e
  rw[Z0.mpr c]
  rw[e]at h
  exact kat_no (GO _ h)
def gK (prog:Program)(w:World)(h:Heap)(vs:List Value)(ks:List (Nat×Nat)):Prop:=vs.length=ks.length/\∀ (i:Nat) (x:Nat×Nat),ks[i]? = some x->∃ a,vs[i]? = some (.ref a)/\IsTupleKey (intKind prog w) h (e_ x) a
theorem gK.keep{h':Heap}(P:gK prog w h vs ks)(q:∀ b o,h.get? b=some o->o.cls=.type "tuple"->h'.get? b=some o):gK prog w h' vs ks:=⟨P.1,fun i x e=>by
 obtain⟨a,e1,o,items,n,ho,hc,hd,hi⟩:=P.2 i x e
 exact⟨a,e1,o,items,n,q a o ho hc,hc,hd,hi⟩⟩
theorem gK.firsts:∀ {h:Heap} {vs:List Value} {ks:List (Nat×Nat)},gK prog w h vs ks->∃ fs:List Value,KatTups h vs fs/\fs.length=ks.length/\∀ v∈fs,∃ i t,v=.int i t
 | h,[],[],_=>⟨[],.nil,rfl,fun v hv=>(QI hv).elim⟩
 | h,[],_::_,P=>nomatch P.1
 | h,_::_,[],P=>nomatch P.1
 | h,v::vs,x::ks,P=>by
  obtain⟨fs,t1,t2,t3⟩:=gK.firsts (vs:=vs) (ks:=ks) (h:=h) ⟨by simpa using P.1,fun i y e=>P.2 (i+1) y (by rw[Zy];exact e)⟩
  obtain⟨a,e,k⟩:=P.2 0 x rfl
  have ev:v=.ref a:=by simpa using e
  subst ev
  obtain⟨o,n,t,u,ho,hc,hd⟩:=B9 k
  refine⟨.int (Int.ofNat x.1) t::fs,.cons ho hc hd rfl t1,by rw[QO,QO,t2],fun v hv=>?_⟩
  rcases Qw.mp hv with rfl|hv
  ·exact⟨_,_,rfl⟩
  ·exact t3 v hv
theorem Tt{Tu:Bool}{G:Array Nat->Shared->Prop}(P:gK prog w s.heap vs ks)(hb:∀ x∈ks,x.2<1000)(h1:1<=vs.length)
  (hG:∀ p:Array Nat,p.Perm (List.toArray (List.range vs.length))->(∀ i j,i<=j->j<vs.length->rk (ks.getD (p.getD i 0) (0,0))<=rk (ks.getD (p.getD j 0) (0,0)))->G p s) :
  (kas_sort vs.length).kasWp (kas_ask prog w A (tuples' Tu) vs) G s:=by
 have so:=Tp (r:=fun i=>rk (ks.getD i (0,0))) h1
 refine GN (lt:=cM fun i=>rk (ks.getD i (0,0))) (n:=vs.length) (fun i j C hi hj hC=>?_) (Tr h1) (hG _ so.1 so.2)
 have gi:ks[i]? = some (ks.getD i (0,0)):=by rw[Qf,Qb (by rw[<- P.1];exact hi)];rfl
 have gj:ks[j]? = some (ks.getD j (0,0)):=by rw[Qf,Qb (by rw[<- P.1];exact hj)];rfl
 obtain⟨a,e1,k1⟩:=P.2 i _ gi
 obtain⟨b,e2,k2⟩:=P.2 j _ gj
 unfold kas_ask
 rw[Qf,Qf,e1,e2]
 exact Ts k1 k2 (hb _ (QC gi)) (hb _ (QC gj)) hC
theorem Tv(P:gK prog w h vs ks)(pm:p.Perm (List.toArray (List.range vs.length))):gK prog w h (p.toList.map fun i=>vs.getD i Value.none) (p.toList.map fun i=>ks.getD i (0,0))/\(p.toList.map fun i=>ks.getD i (0,0)).Perm ks:=by
 have pl:p.toList.Perm (List.range vs.length):=by
  have:=Vb.mp pm
  exact this
 refine⟨⟨by rw[Qc,Qc],fun i x e=>?_⟩,?_⟩
 ·rw[Ql,Qv]at e
  obtain⟨k,q1,q2⟩:=e
  have hk:k<vs.length:=Qz.mp (pl.mem_iff.mp (QC q1))
  have gk:ks[k]? = some x:=by rw[<- q2,Qf,Qb (by rw[<- P.1];exact hk)];rfl
  obtain⟨a,e1,k1⟩:=P.2 k x gk
  refine⟨a,?_,k1⟩
  rw[Ql,q1]
  show some (vs.getD k Value.none)=_
  rw[Qf,e1]
  rfl
 ·have h1:=pl.map fun i=>ks.getD i (0,0)
  have h2:(List.range vs.length).map (fun k=>ks.getD k (0,0))=ks:=by
   rw[P.1]
   apply Zt
   intro i
   by_cases hi:i<ks.length
   ·rw[Ql,Zn hi,Qb hi]
    show some (ks.getD i (0,0))=_
    rw[Qf,Qb hi]
    rfl
   ·rw[QK (by rw[Qc,QM];omega),QK (by omega)]
  rw[h2]at h1
  exact h1
theorem B_{n:Nat}{P:PySem.Fin->Shared->Prop}(ho:s.heap.get? a=some (seqObj "list" vs.toArray n))(T:gK prog w s.heap vs ks)(hb:∀ x∈ks,x.2<1000)(kT:vs.length<64)
  (h:∀ (out:List Value) (bO:List (Nat×Nat)),gK prog w s.heap out bO->(∀ v∈out,v∈vs)->bO.Perm ks->(∀ i j,i<=j->j<bO.length->rk (bO.getD i (0,0))<=rk (bO.getD j (0,0)))->P (.done (.ret .none)) { s with heap:=sortedHeap s.heap a vs out.toArray }) :
  wpAny (model prog w) A (Builtin.«list.sort» ⟨[.ref a],[]⟩) P E s:=by
 have al:=Qp ho
 have GP:vs.toArray.size=vs.length:=Qm ..
 rw[list_sort_plain]
 refine Qa (listItems_at ho rfl (Qa (listUpdate_at ho rfl ?s1 (by rw[GP,ZR];omega) (QS _))))
 case s1=>
 obtain⟨e1,g1⟩:∃ e1,(s.heap.update a (Obj.mapSeq fun _=>(#[]:Array Value))).get? a=some (seqObj "list" #[] e1):=⟨_,Jh ho fun _=>#[]⟩
 refine Qa (seqEpoch_at g1 rfl (Qa (wpAny_newTuple (Qa (Vr (Q4 ?s2) (QS _))) (by show vs.length<=_;rw[ZR];omega))))
 case s2=>
 show wpAny (model prog w) A _ P E { s with heap:=((s.heap.update a (Obj.mapSeq fun _=>(#[]:Array Value))).push (seqObj "tuple" vs.toArray 0)).push (seqObj "list" #[] 0) }
 have g2:(((s.heap.update a (Obj.mapSeq fun _=>(#[]:Array Value))).push (seqObj "tuple" vs.toArray 0)).push (seqObj "list" #[] 0)).get? a=some (seqObj "list" #[] e1):=Qd _ (Qd _ g1)
 have T2:gK prog w (((s.heap.update a (Obj.mapSeq fun _=>(#[]:Array Value))).push (seqObj "tuple" vs.toArray 0)).push (seqObj "list" #[] 0)) vs ks:=T.keep fun b o q c=>by
  have ne:b≠a:=fun z=>by
   rw[z,ho]at q
   cases q
   have c':Value.type "list" = Value.type "tuple":=c
   injection c' with Tw
   exact absurd Tw (by decide)
  exact Qd _ (Qd _ ((ZA _ _ (Jt ne)).trans q))
 generalize hh:((s.heap.update a (Obj.mapSeq fun _=>(#[]:Array Value))).push (seqObj "tuple" vs.toArray 0)).push (seqObj "list" #[] 0)=h2 at *
 have fin:∀ out:List Value,{ s with heap:=h2.update a (Obj.mapSeq fun _=>out.toArray) }={ s with heap:=sortedHeap s.heap a vs out.toArray }:=fun out=>by rw[<- hh];rfl
 dsimp only
 by_cases c2:vs.toArray.size<2
 ·rw[Qj c2,Qj c2]
  refine Qa (Qe ?_)
  rw[StateT.run_pure]
  refine Qa (Qe ?_)
  dsimp only
  have o1:(arrOf (SortSt.mk' general' (vs.toArray.zip vs.toArray) #[] 7 none)).map (·.2)=vs.toArray:=by
   show(vs.toArray.zip vs.toArray).map (·.2)=vs.toArray
   apply Array.ext'
   rw[Array.toList_map,Array.toList_zip]
   exact List.map_snd_zip (Qi _)
  rw[o1]
  refine Qa (seqEpoch_at (s:={ s with heap:=h2 }) g2 rfl (Qa (listUpdate_at (s:={ s with heap:=h2 }) g2 rfl ?t1 (QS _) (by rw[GP,ZR];omega))))
  case t1=>
  simp only[Ym,Qt,Zl]
  refine Qe ?_
  have r:=h vs ks T (fun _ z=>z) (V5 _) fun i j a b=>by
   have:i=j:=by rw[<- T.1]at b;omega
   rw[this]
   exact YF _
  rw[<- fin]at r
  exact r
 ·rw[Qk c2,Qk c2]
  have v1:2<=vs.length:=by omega
  obtain⟨fs,t1,t2,t3⟩:=T2.firsts
  refine Qa (kat_kind (s:={ s with heap:=h2 }) (T:=.type "int") t1 (by rw[t2,<- T.1];omega) (fun v hv=>?k1) (by decide) ?k2)
  case k1=>
   obtain⟨i,t,rfl⟩:=t3 v hv
   exact .now
  case k2=>
  refine Qa (ZJ (kat_run (s:={ s with heap:=h2 }) (Q:=fun kI s'=>s'={ s with heap:=h2 }/\∃ p:Array Nat,p.size=vs.length/\arrOf kI=p.map (kas_item (vs.toArray.zip vs.toArray))/\failedOf kI=none/\p.Perm (List.toArray (List.range vs.length))/\∀ i j,i<=j->j<vs.length->rk (ks.getD (p.getD i 0) (0,0))<=rk (ks.getD (p.getD j 0) (0,0)))
   (G:=fun p s'=>s'={ s with heap:=h2 }/\p.Perm (List.toArray (List.range vs.length))/\∀ i j,i<=j->j<vs.length->rk (ks.getD (p.getD i 0) (0,0))<=rk (ks.getD (p.getD j 0) (0,0)))
   rfl v1 kT (fun p kI s' a1 a2 a3 a4=>⟨a4.1,p,a1,a2,a3,a4.2.1,a4.2.2⟩) (Tt T2 hb (by omega) fun p a1 a2=>⟨rfl,a1,a2⟩)) ?k3 fun _ _ e=>e)
  case k3=>
  rintro ⟨⟨⟩,kI⟩ s' ⟨rfl,p,ps,ar,hf,pm,so⟩
  dsimp only
  have o1:=kat_snds rfl ar
  rw[o1]
  have ol:(p.toList.map fun i=>vs.getD i Value.none).length=vs.length:=by rw[Qc,QN,ps]
  refine Qa (seqEpoch_at (s:={ s with heap:=h2 }) g2 rfl (Qa (listUpdate_at (s:={ s with heap:=h2 }) g2 rfl ?t2 (QS _) (by rw[Qm,ol,ZR];omega))))
  case t2=>
  rw[hf]
  simp only[Ym,Qt,Zl]
  refine Qe ?_
  obtain⟨q1,q2⟩:=Tv T pm
  have r:=h _ _ q1 (fun v hv=>by
   obtain⟨k,hk,rfl⟩:=Qr.mp hv
   have ki:k<vs.length:=Qz.mp ((Vb.mp pm).mem_iff.mp hk)
   rw[Qf,Qb ki]
   exact QR ki) q2 fun i j a b=>by
   rw[Qc,QN,ps]at b
   have g:∀ i,i<vs.length->(p.toList.map fun k=>ks.getD k (0,0)).getD i (0,0)=ks.getD (p.getD i 0) (0,0):=fun i hi=>by
    rw[Qf,Ql,Qb (by rw[QN,ps];exact hi),QJ,Zd (by rw[ps];exact hi)]
    rfl
   rw[g i (by omega),g j b]
   exact so i j a b
  rw[<- fin]at r
  exact r
end
end L3
namespace L3
open PySem PySem.Spec PyProof.Rows PySem.W L2
variable {F:List Addr}{H:Hp}{K:PySem.W.Frag}{Q:Value->Shared->Prop}{a b l:Addr}{d:D}{ds:List D}{ep i q:Nat}{es:Array (Int×Value)}{kl:List (List Int)}{kp ks bO:List (Nat×Nat)}{ah:List (List Key×V)}{o o':Ow}{u v:V}{vs:List V}{w w':Wn}{x y:Nat×Nat}{z:HO}{ρ:aQ}{σ:St}
section
variable {prog:Program}{w:World}{A:Around}{E:Value->Shared->Prop}{s:Shared}
theorem Tx{h:Heap}{t:SetTable}{bs:List Addr}{vs:List Value}(S:lD prog w h es t kl bs)(ek:kl=kp.map e_)(hl:vs.length=es.size)
  (hv:∀ (j:Nat) (v:Value),vs[j]? = some v->∃ e,(jD w a es ep)[j]? = some e/\v=e.2):∃ ks:List (Nat×Nat),gK prog w h vs ks/\ks.Perm kp/\∀ v∈vs,∃ b∈bs,v=.ref b:=by
 have e:vs=(jD w a es ep).toList.map (·.2):=by
  apply Zt
  intro j
  have et:(jD w a es ep).toList[j]? = (jD w a es ep)[j]?:=Q5
  rw[Ql,et]
  rcases VI j vs.length with l|l
  ·obtain⟨x,h1,h2⟩:=hv j _ (Qb l)
   rw[h1,Qb l,h2]
   rfl
  ·rw[QK l,Z4 (by rw[yP];omega)]
   rfl
 have pm:(jD w a es ep).toList.Perm ((kp.zip bs).map fun x=>(tupleKeyHash (intKind prog w) (e_ x.1),Value.ref x.2)):=by
  refine(GD w a es ep).trans ?_
  rw[S.es,ek]
  have:∀ (l:List (Nat×Nat)) (m:List Addr),((l.map e_).zip m).map (fun x=>(tupleKeyHash (intKind prog w) x.1,Value.ref x.2))=(l.zip m).map fun x=>(tupleKeyHash (intKind prog w) (e_ x.1),Value.ref x.2):=by
   intro l
   induction l with
   | nil=>intro m;rfl
   | cons x l ih=>
    intro m
    cases m with
    | nil=>rfl
    | cons b m=>rw[QG,J6,QG,ih m];rfl
  rw[this]
 obtain⟨zs,zp,ze⟩:=Sa (f:=fun x:(Nat×Nat)×Addr=>(tupleKeyHash (intKind prog w) (e_ x.1),Value.ref x.2)) pm rfl
 have len:kp.length=bs.length:=by rw[<- S.len,ek,Qc]
 refine⟨zs.map (·.1),⟨by rw[e,ze,Qc,Qc,Qc],fun i x q=>?_⟩,?_⟩
 ·rw[Ql,Qv]at q
  obtain⟨y,q1,rfl⟩:=q
  refine⟨y.2,?_,?_⟩
  ·rw[e,ze,Ql,Ql,q1]
   rfl
  ·obtain⟨i',cD,qi⟩:=Q2 (zp.mem_iff.mp (QC q1))
   have q2:(kp.zip bs)[i']? = some y:=by rw[Qb cD,qi]
   rw[List.zip,Yr]at q2
   cases k1:kp[i']? with
   | none=>rw[k1]at q2;cases q2
   | some u=>
    cases k2:bs[i']? with
    | none=>rw[k1,k2]at q2;cases q2
    | some v=>
     rw[k1,k2]at q2
     cases q2
     exact S.is i' (e_ u) v (by rw[ek,Ql,k1];rfl) k2
 ·refine⟨(zp.map (·.1)).trans ?_,fun v hv=>?_⟩
  ·rw[VA (by omega)]
  ·rw[e,ze]at hv
   obtain⟨y,hy,rfl⟩:=Qr.mp hv
   obtain⟨x,hx,rfl⟩:=Qr.mp hy
   exact⟨x.2,(YI (zp.mem_iff.mp hx)).2,rfl⟩
theorem Tz{t:SetTable}{bs:List Addr}{Q:Value->Shared->Prop}(hh:A.handled=none)(ho:s.heap.get? a=some (mx es ep t))(So:rW prog w s.heap (mx es ep t) ep (!fV w) kl es t bs)(ek:kl=kp.map e_)(hb:∀ x∈kp,x.2<1000)(dM:kp.length<64)
  (h:∀ (h1:Heap) (h':Heap) (tk:Nat) (us:List Value) (ks:List (Nat×Nat)) (c:Nat),(∀ b o,s.heap.get? b=some o->h1.get? b=some o)->(∀ b o,s.heap.get? b=some o->h'.get? b=some o)->gK prog w s.heap us ks->(∀ v∈us,∃ b∈bs,v=.ref b)->ks.Perm kp->(∀ i j,i<=j->j<ks.length->rk (ks.getD i (0,0))<=rk (ks.getD j (0,0)))->
    h'.get? h1.objs.size=some { cls:=.type "list",data:=.seq us.toArray c }->Q (.ref h1.objs.size) { s with heap:=h',toks:=tk }) :
  wpAny (model prog w) A (call (.builtin "sorted") [.ref a]) Q E s:=by
 have gd:=So.gd
 have sz:es.size=kp.length:=by rw[So.S.size,ek,Qc]
 refine JS kind_sorted plain_sorted entry_sorted (args_sorted1 _) ?_
 unfold Builtin.«sorted»
 refine Qa (m:=checkCount "sorted" 1 1 _) (Qe (Qa (kdu_collect (A:=A.in1) (Ti gd) hh ho (YG (by omega)) fun h' tk acc hk cq=>?c1)))
 case c1=>
 have hl:acc.toList.length=es.size:=by rw[QN];exact cq.1
 refine Qa (Vr ?c2 (by rw[hl];exact YG (by omega)))
 case c2=>
 obtain⟨ks,T,pm,mb⟩:=Tx (a:=a) (ep:=ep) So.S ek hl (fun j v e=>cq.2 j v (by rw[<- Q5];exact e))
 have T1:gK prog w (h'.push (seqObj "list" acc.toList.toArray 0)) acc.toList ks:=T.keep fun b o q _=>Qd _ (hk b o q)
 have oL:(h'.push (seqObj "list" acc.toList.toArray 0)).get? h'.objs.size=some (seqObj "list" acc.toList.toArray 0):=Qs _ rfl
 refine Qa (Q4 (Zg slot_list_sort ⟨_,oL,rfl⟩ entry_list_sort (B_ oL T1 (fun x hx=>hb x (pm.mem_iff.mp hx)) (by rw[hl,sz];exact dM) fun out bO o1 om o2 o3=>⟨_,rfl,?c3⟩) (args_list_sort _)))
 case c3=>
 refine Qe ⟨_,rfl,?c4⟩
 case c4=>
 have ne:∀ b o,s.heap.get? b=some o->b≠h'.objs.size:=fun b o e=>QP (Qp (hk b o e))
 have up:∀ (G:Heap) (f:Array Value->Array Value),(∀ b o,s.heap.get? b=some o->G.get? b=some o)->∀ b o,s.heap.get? b=some o->(G.update h'.objs.size (Obj.mapSeq f)).get? b=some o:=
  fun G f q b o e=>(ZA _ _ (Jt (ne b o e))).trans (q b o e)
 unfold sortedHeap
 have g1:=Jh oL (fun _=>(#[]:Array Value))
 have g4:=Jh (Qd (seqObj "list" #[] 0) (Qd (seqObj "tuple" acc.toList.toArray 0) g1)) (fun _=>out.toArray)
 refine h h' _ _ out bO _ hk ?c5 ?c6 (fun v hv=>mb v (om v hv)) (o2.trans pm) o3 g4
 case c5=>exact up _ _ fun b o e=>Qd _ (Qd _ (up _ _ (fun b o e=>Qd _ (hk b o e)) b o e))
 case c6=>
  refine⟨o1.1,fun i x q=>?_⟩
  obtain⟨b,e1,k1⟩:=o1.2 i x q
  obtain⟨j,hj,qj⟩:=Q2 (om _ (QC e1))
  have gj:ks[j]? = some (ks[j]'(by rw[<- T.1];exact hj)):=Qb _
  obtain⟨b',e2,k2⟩:=T.2 j _ gj
  rw[Qb hj,qj]at e2
  cases e2
  obtain⟨b2,e3,k3⟩:=T1.2 j _ gj
  rw[Qb hj,qj]at e3
  cases e3
  have:=k3.inj k1
  rw[this]at k2
  exact⟨b,e1,k2⟩
end
def S9 (prog:Program)(w:World)(a:Addr)(kp:List (Nat×Nat))(bs:List Addr):Heap->Prop:=fun h=>∃ es ep t,h.get? a=some (mx es ep t)/\es.toList=((kp.map e_).zip bs).map (fun x=>(tupleKeyHash (intKind prog w) x.1,Value.ref x.2))/\(kp.map e_).length=bs.length/\fM t ((kp.map e_).map (tupleKeyHash (intKind prog w)))/\(kp.map e_).Nodup/\t.plain=true/\t.led = !fV w/\(kp.map e_).length*5<t.mask*3
def mz (K:PySem.W.Frag)(H:Hp)(ks:List (Nat×Nat))(dP:List Addr):Prop:=ks.length=dP.length/\∀ (i:Nat) (x:Nat×Nat) (b:Addr),ks[i]? = some x->dP[i]? = some b->H b=some (.tup [.int (Int.ofNat x.1),.int (Int.ofNat x.2)])
theorem Ca:∀ {dP:List Addr} {us:List Value},bc (dP.map V.ref) us->us=dP.map Value.ref
 | [],_,r=>by cases r;rfl
 | a::dP,_,r=>by
  cases r with
  | cons h t=>
   cases h
   rw[Ca t]
   rfl
theorem vT:∀ (dP:List Addr),bc (dP.map V.ref) (dP.map Value.ref)
 | []=>.nil
 | a::dP=>.cons rfl (vT dP)
def yS (l:List Int):Nat×Nat:=((l.getD 0 0).toNat,(l.getD 1 0).toNat)
theorem GQ(x:Nat×Nat):yS (e_ x)=x:=rfl
theorem Cb(h:e_ x=e_ y):x=y:=by rw[<- GQ x,h,GQ]
section
variable {X:Cx}{a:Expr}{fa:aA}{p p2 pos mB:Pos}{pins:List (Addr×Obj)}{σ:St}{H:Hp}{s:Shared}
theorem qr(I:Inv X pins σ H s)(h:cR X.K H b [.int (Int.ofNat x.1),.int (Int.ofNat x.2)]):IsTupleKey (intKind X.prog X.w) s.heap (e_ x) b:=by
 obtain⟨aj,r,⟨o,ho,hc,n,hd⟩,_⟩:=I.tuple h
 refine⟨o,aj.toArray,n,ho,hc,hd,?_⟩
 cases r with
 | cons h1 r1=>
  cases r1 with
  | cons h2 r2=>
   cases r2
   obtain⟨t,rfl⟩:=h1
   obtain⟨u,rfl⟩:=h2
   exact .cons (intKind_is _ _ _ _) (.cons (intKind_is _ _ _ _) .nil)
theorem TC(hc:X.calm=true)(hu:X.A.units+4<cLine):jt X (.type "set") (fun xs H Q=>∃ t ks dP,xs=[.ref t]/\cH X.K H t (dP.map V.ref)/\mz X.K H ks dP/\ks.length<=100 /\
  ∀ p kp bs,H p=none->kp.Nodup->(∀ x,x∈kp ↔ x∈ks)->mz X.K H kp bs->Q (.ref p) (upd H p (.ext (S9 X.prog X.w p kp bs)))):=by
 intro pins s σ H xs us Q I r hh
 obtain⟨t,ks,dP,rfl,hq,⟨len,tu⟩,rY,q⟩:=hh
 obtain⟨u,rfl,ru⟩:=j4 r
 cases ru
 obtain⟨aj,rv,pl,_⟩:=I.list hq
 have ei:=Ca rv
 subst ei
 have gk:∀ i,i<ks.length->∃ x,ks[i]? = some x/\(ks.map e_).getD i []=e_ x/\dP[i]? = some (dP.getD i 0):=fun i hi=>by
  refine⟨_,Qb hi,?_,?_⟩
  ·rw[Qf,Ql,Qb hi];rfl
  ·rw[Qf,Qb (by rw[<- len];exact hi)];rfl
 refine S6 (ks:=ks.map e_) (ad:=fun i=>dP.getD i 0) (I.ok.hd hc) (by show X.A.units+1+1+1<cLine;omega) pl.isList (by rw[Qc,Qc,len]) (fun i v e=>?z1) (fun i hi=>?z2) (by rw[Qc];exact rY) fun h' tk kl hS mm oR=>?z3
 case z1=>
  rw[Ql,Qv]at e
  obtain⟨b,e1,rfl⟩:=e
  show Value.ref b=.ref (dP.getD i 0)
  rw[Qf,e1]
  rfl
 case z2=>
  rw[Qc]at hi
  obtain⟨x,e1,e2,e3⟩:=gk i hi
  rw[e2]
  exact qr I (.inl (.inl (tu i x _ e1 e3)))
 case z3=>
  obtain⟨es,ep,t',bs,g,⟨d,S,vO,ld,rm⟩,hb⟩:=hS
  have ek:kl=(kl.map yS).map e_:=by
   rw[Zb]
   conv=>lhs;rw[<- List.map_id kl]
   refine Ze fun l hl=>?_
   obtain⟨j,hj,e⟩:=(mm l).mp hl
   rw[Qc]at hj
   obtain⟨x,_,e2,_⟩:=gk j hj
   rw[e2]at e
   rw[<- e]
   rfl
  have TF:S9 X.prog X.w s.heap.objs.size (kl.map yS) bs h':=by
   refine⟨es,ep,t',g,?_⟩
   rw[<- ek]
   exact⟨S.es,S.len,S.tb,S.nd,vO,ld,rm⟩
  refine⟨.ref s.heap.objs.size,_,I.laid (o:=.ext (S9 X.prog X.w s.heap.objs.size (kl.map yS) bs)) (h':=h') (t':=tk) (fun b o e=>oR b o (Qp e) e) (Qi _) ⟨TF,⟨_,g⟩,fun h1 h2 ⟨es,ep,t,e,r⟩ k=>⟨es,ep,t,k _ e,r⟩⟩,rfl,q _ _ _ (I.aB.fresh (Qi _)) ?z4 (fun x=>?z5) ⟨by rw[Qc];exact S.len,fun i x b e1 e2=>?z6⟩⟩
  case z4=>
   have:=S.nd
   rw[ek]at this
   exact(JG.mp this).imp fun h z=>h (by rw[z])
  case z5=>
   constructor
   ·intro hx
    obtain⟨l,hl,rfl⟩:=Qr.mp hx
    obtain⟨j,hj,e⟩:=(mm l).mp hl
    rw[Qc]at hj
    obtain⟨y,e1,e2,_⟩:=gk j hj
    rw[e2]at e
    rw[<- e]
    exact QC e1
   ·intro hx
    obtain⟨j,hj,e⟩:=Q2 hx
    obtain⟨y,e1,e2,_⟩:=gk j hj
    rw[Qb hj,e]at e1
    cases e1
    exact Qr.mpr ⟨e_ x,(mm _).mpr ⟨j,by rw[Qc];exact hj,e2⟩,rfl⟩
  case z6=>
   rw[Ql,Qv]at e1
   obtain⟨l,f1,rfl⟩:=e1
   have kb:=S.is i l b f1 e2
   obtain⟨j,hj,rfl⟩:=hb b (QC e2)
   rw[Qc]at hj
   obtain⟨y,g1,g2,g3⟩:=gk j hj
   have sq:=tu j y _ g1 g3
   obtain⟨o,items,n,ho,ng,hd,hi⟩:=qr I (.inl (.inl sq))
   have k2:IsTupleKey (intKind X.prog X.w) h' (e_ y) (dP.getD j 0):=⟨o,items,n,oR _ o (Qp ho) ho,ng,hd,hi⟩
   have:=kb.inj k2
   subst this
   exact sq
theorem TH(hc:X.calm=true):jt X (.builtin "sorted") (fun xs H Q=>∃ t kp bs,xs=[.ref t]/\H t=some (.ext (S9 X.prog X.w t kp bs))/\mz X.K H kp bs/\kp.length<64/\(∀ x∈kp,x.2<1000) /\
  ∀ p ks cs,H p=none->ks.Perm kp->(∀ i j,i<=j->j<ks.length->rk (ks.getD i (0,0))<=rk (ks.getD j (0,0)))->mz X.K H ks cs->Q (.ref p) (upd H p (.lst (cs.map V.ref)))):=by
 intro pins s σ H xs us Q I r hh
 obtain⟨t,kp,bs,rfl,hq,⟨len,tu⟩,dM,hb,q⟩:=hh
 obtain⟨u,rfl,ru⟩:=j4 r
 cases ru
 obtain⟨⟨es,ep,tb,g,e1,e2,e3,e4,e5,e6,e7⟩,_,_⟩:=I.aB _ _ hq
 have So:rW X.prog X.w s.heap (mx es ep tb) ep (!fV X.w) (kp.map e_) es tb bs:=⟨rfl,⟨e1,e2,fun i k b x y=>by
  rw[Ql,Qv]at x
  obtain⟨z,z1,rfl⟩:=x
  exact qr I (.inl (.inl (tu i z b z1 y))),e3,e4⟩,e5,e6,e7⟩
 refine Tz (I.ok.hd hc) g So rfl hb dM fun h1 h' tk us ks c k1 oR T mb pm so hg=>?_
 obtain⟨cs,rfl⟩:∃ cs:List Addr,us=cs.map Value.ref:=by
  have:∀ (l:List Value),(∀ v∈l,∃ b∈bs,v=.ref b)->∃ cs:List Addr,l=cs.map Value.ref:=by
   intro l
   induction l with
   | nil=>intro _;exact⟨[],rfl⟩
   | cons v l ih=>
    intro h
    obtain⟨cs,e⟩:=ih fun w hw=>h w (Qg _ hw)
    obtain⟨b,_,rfl⟩:=h v Qh
    exact⟨b::cs,by rw[e];rfl⟩
  exact this us mb
 have lc:cs.length=ks.length:=by have:=T.1;rwa [Qc]at this
 refine⟨.ref h1.objs.size,_,BJ (o:=.lst (cs.map V.ref)) I k1 (Qi _) oR ⟨YG (by rw[Qc,lc,pm.length_eq];omega),cs.map Value.ref,c,vT cs,hg⟩,rfl,q _ ks cs (yJ I.aB k1 (Qi _)) pm so ⟨lc.symm,fun i x b x1 x2=>?_⟩⟩
 obtain⟨a,y1,y2⟩:=T.2 i x x1
 rw[Ql,x2]at y1
 cases y1
 obtain⟨b',iW,e⟩:=mb (.ref b) (Qr.mpr ⟨b,QC x2,rfl⟩)
 cases e
 obtain⟨j,hj,qj⟩:=Q2 iW
 have gj:kp[j]? = some (kp[j]'(by rw[len];exact hj)):=Qb _
 have sq:=tu j _ b gj (by rw[Qb hj,qj])
 have:=Cb ((qr I (.inl (.inl sq))).inj y2)
 rw[this]at sq
 exact sq
end
abbrev ao (x:Nat×Nat):D:=.tup [.int (Int.ofNat x.1),.int (Int.ofNat x.2)]
abbrev p9 (k:Nat×Nat):OD:=some (ao k,9)
def oS:List D->Option (List (Nat×Nat))
 | []=>some []
 | .tup [.int (.ofNat i),.int (.ofNat j)]::ds=>if j<1000 then(oS ds).map ((i,j) :: ·)else none
 | _=>none
theorem GR:∀ {ds:List D} {ks:List (Nat×Nat)},oS ds=some ks->ds=ks.map ao/\∀ x∈ks,x.2<1000:=by
 intro ds
 induction ds with
 | nil=>intro ks h;cases h;exact⟨rfl,fun _ h=>nomatch h⟩
 | cons d ds ih=>
  intro ks h
  unfold oS at h
  split at h
  ·rename_i e;cases e
  next i j ck e=>
   cases e
   split at h
   next hi=>
    obtain⟨bO,e,rfl⟩:=Qv.mp h
    obtain⟨e1,e2⟩:=ih e
    exact⟨by rw[e1];rfl,fun k hk=>by
     rcases Qw.mp hk with q|q
     ·rw[q];exact hi
     ·exact e2 k q⟩
   ·cases h
  ·cases h
theorem Cc:∀ (ks:List (Nat×Nat)),(∀ x∈ks,x.2<1000)->oS (ks.map ao)=some ks
 | [],_=>rfl
 | x::ks,h=>by
  show(if x.2<1000 then(oS (ks.map ao)).map ((x.1,x.2) :: ·)else none)=_
  rw[Qj (h x Qh),Cc ks fun y hy=>h y (Qg _ hy)]
  rfl
def jS (ks:List (Nat×Nat)):List (Nat×Nat):=ks.eraseDups.mergeSort fun a b=>decide (rk a<=rk b)
theorem GS(hx:x.2<1000)(hy:y.2<1000)(h:rk x=rk y):x=y:=by
 have e:x.1*1000+x.2=y.1*1000+y.2:=by injection h
 have:x.1=y.1:=by omega
 have:x.2=y.2:=by omega
 exact VW (by assumption) (by assumption)
theorem TJ(ks:List (Nat×Nat)):(jS ks).Pairwise fun a b=>rk a<=rk b:=by
 have:=Yb (le:=fun a b:Nat×Nat=>decide (rk a<=rk b)) (fun a b c h1 h2=>QA (VJ (QV h1) (QV h2))) (fun a b=>by
  rcases Ue (rk a) (rk b)with h|h
  ·rw[QA h];rfl
  ·rw[QA h,Uf]) ks.eraseDups
 exact this.imp fun h=>QV h
theorem GU{α:Type}[BEq α][LawfulBEq α]:∀ (n:Nat) (l:List α),l.length<=n->l.eraseDups.Nodup
 | 0,[],_=>by rw[List.eraseDups_nil];exact JK
 | 0,_::_,h=>absurd h (by simp)
 | n+1,[],_=>by rw[List.eraseDups_nil];exact JK
 | n+1,a::l,h=>by
  rw[List.eraseDups_cons]
  refine Q7.mpr ⟨fun z=>?_,GU n _ (QL (Zx _ _) (by simpa using h))⟩
  rw[List.mem_eraseDups]at z
  have:=(ZW.mp z).2
  simp at this
theorem yT:x∈jS ks ↔ x∈ks:=by
 unfold jS
 rw[List.mem_mergeSort,List.mem_eraseDups]
theorem GV(ks:List (Nat×Nat)):(jS ks).Nodup:=(ZC _ _).nodup_iff.mpr (GU _ ks (Qi _))
theorem Cd{α:Type}[DecidableEq α]:∀ {l m:List α},l.Nodup->m.Nodup->(∀ x,x∈l ↔ x∈m)->l.Perm m
 | [],m,_,_,h=>by
  cases m with
  | nil=>exact .nil
  | cons a m=>exact absurd ((h a).mpr Qh) (by simp)
 | a::l,m,h1,h2,h=>by
  have ha:=(h a).mp Qh
  have pZ:=Q7.mp h1
  refine List.Perm.trans (List.Perm.cons a (Cd pZ.2 (h2.erase a) fun x=>?_)) (List.perm_cons_erase ha).symm
  rw[h2.mem_erase_iff]
  constructor
  ·intro hx
   exact⟨fun z=>pZ.1 (z ▸ hx),(h x).mp (Qg _ hx)⟩
  ·rintro ⟨ne,hx⟩
   rcases Qw.mp ((h x).mpr hx)with z|z
   ·exact absurd z ne
   ·exact z
theorem TK(hb:∀ x∈ks,x.2<1000)(nd:kp.Nodup)(mem:∀ x,x∈kp ↔ x∈ks)(pm:bO.Perm kp)(so:∀ i j,i<=j->j<bO.length->rk (bO.getD i (0,0))<=rk (bO.getD j (0,0))):bO=jS ks:=by
 have p1:bO.Perm (jS ks):=Cd (pm.nodup_iff.mpr nd) (GV ks) fun x=>by rw[pm.mem_iff,mem,yT]
 have u1:(bO.map rk).Pairwise (· <= ·):=by
  rw[JG,Jd]
  intro i j hi hj rF
  have:=so i j (by omega) hj
  rw[Qf,Qf,Qb hi,Qb hj]at this
  exact this
 have u2:((jS ks).map rk).Pairwise (· <= ·):=by rw[JG];exact TJ ks
 have e:=lks_uniq (p1.map rk) u1 u2
 have key:∀ (l m:List (Nat×Nat)),(∀ x∈l,x.2<1000)->(∀ x∈m,x.2<1000)->l.map rk=m.map rk->l=m:=by
  intro l
  induction l with
  | nil=>
   intro m _ _ h
   cases m with
   | nil=>rfl
   | cons _ _=>cases h
  | cons a l ih=>
   intro m h1 h2 h
   cases m with
   | nil=>cases h
   | cons b m=>
    rw[QG,QG]at h
    injection h with q1 q2
    rw[GS (h1 a Qh) (h2 b Qh) q1,ih m (fun x hx=>h1 x (Qg _ hx)) (fun x hx=>h2 x (Qg _ hx)) q2]
 exact key _ _ (fun x hx=>hb x ((mem x).mp (pm.mem_iff.mp hx))) (fun x hx=>hb x (yT.mp hx)) e
def yU (fa:aA):aA:=fun ρ=>match fa ρ with
 | some (.lst ds,q,ρ1)=>if q<=1 then match oS ds with
  | some ks=>if ks.length<64 then some (.lst ((jS ks).map ao),1,ρ1)else none
  | none=>none
  else none
 | _=>none
theorem Ce:∀ {ks:List (Nat×Nat)} {vs:List V} {F:List Addr},ae K H w o 0 (ks.map ao) vs F->∃ dP:List Addr,vs=dP.map V.ref/\mz K H ks dP
 | [],_,_,h=>by cases h;exact⟨[],rfl,rfl,fun i x b e _=>by simp at e⟩
 | x::ks,_,_,h=>by
  cases h with
  | cons r rs _=>
   obtain⟨dP,e,l,t⟩:=Ce rs
   cases r with
   | @tup _ a eS ck ha hr=>
    have i1:=FX (ks:=[Int.ofNat x.1,Int.ofNat x.2]) hr
    subst i1 e
    refine⟨a::dP,rfl,by rw[QO,QO,l],fun i y b q1 q2=>?_⟩
    cases i with
    | zero=>cases q1;cases q2;exact ha
    | succ i=>exact t i y b q1 q2
theorem yV:∀ {ks:List (Nat×Nat)} {dP:List Addr},mz K H ks dP->ae K H w o 0 (ks.map ao) (dP.map V.ref) []
 | [],[],_=>.nil
 | [],_::_,h=>nomatch h.1
 | _::_,[],h=>nomatch h.1
 | x::ks,a::dP,h=>.cons (F:=[]) (G:=[]) (.tup (h.2 0 x a rfl rfl) (.cons (F:=[]) (G:=[]) (.int _) (.cons (F:=[]) (G:=[]) (.int _) .nil nM) nM)) (yV ⟨by simpa using h.1,fun i y b e1 e2=>h.2 (i+1) y b (by rw[Zy];exact e1) (by rw[Zy];exact e2)⟩) nM
section
variable {X:Cx}{a:Expr}{fa:aA}{p p2 pos mB:Pos}{j:Nat}
theorem TL(hc:X.calm=true)(hr:a_ j X.A)(hm:X.mg "sorted" = none)(TM:X.mg "set" = none)(ha:QD X a fa)(hb:bootBuiltins "set" = some (.type "set"):=by kernel_rfl)(vU:bootBuiltins "sorted" = some (.builtin "sorted"):=by kernel_rfl)(hg:Gl X "sorted":=by rfl)(TN:Gl X "set":=by rfl)(hs:starEach [a] X.env=(false,eval a X.env)::starEach [] X.env:=by rfl)(bS:(backTo mB (starEach [] X.env)).any (·.1)=false:=by rfl)(vV:starEach [.Call (.Name "set" p2) [a] [] mB] X.env=(false,eval (.Call (.Name "set" p2) [a] [] mB) X.env)::starEach [] X.env:=by rfl)(Cf:(backTo pos (starEach [] X.env)).any (·.1)=false:=by rfl):QD X (.Call (.Name "sorted" p) [.Call (.Name "set" p2) [a] [] mB] [] pos) (yU fa):=⟨have ha:=ha.o;by
 refine PE.imp (n9 (TH hc) hg hm vU (i8 (pJ (TC hc (by have:=hr.un;omega)) TN TM hb (i8 ha j5 hs) (by decide) (by decide) hs bS) j5 vV) (by decide) (by decide) vV Cf) fun σ H Q ai=>?_
 obtain⟨ρ,w,t,r',q,ρ',gd,ee,k⟩:=ai
 unfold yU at ee
 split at ee
 next ds q1 ρ1 h1=>
  split at ee
  next vo=>
   split at ee
   next ks h2=>
    split at ee
    next kT=>
     cases ee
     obtain⟨e,dW⟩:=GR h2
     subst e
     refine⟨ρ,w,t,_,_,_,gd,h1,fun v H1 w1 F1 g1 aJ r1=>?_⟩
     obtain⟨p1,vs,rfl,Cg,rs⟩:=r1.rT vo
     obtain⟨dP,rfl,tu⟩:=Ce rs
     refine⟨p1,ks,dP,rfl,Cg,tu,by omega,fun p' kp bs j9 nd mem GW=>?_⟩
     have up:∀ b o,H1 b=some o->upd H1 p' (.ext (S9 X.prog X.w p' kp bs)) b=some o:=fun b o z=>by
      unfold upd
      rw[Qk (fun y=>by rw[y,j9]at z;cases z)]
      exact z
     have kl:kp.length<=ks.length:=mC nd fun x hx=>(mem x).mp hx
     refine⟨p',kp,bs,rfl,fO,⟨GW.1,fun i x b x1 x2=>up _ _ (GW.2 i x b x1 x2)⟩,by omega,fun x hx=>dW x ((mem x).mp hx),fun l bO cs hl pm so vW=>?_⟩
     have es:=TK dW nd mem pm so
     subst es
     have gg:=g1.drop (t':=t)
     obtain⟨g2,bY⟩:=gg.grow (H':=upd H1 p' (.ext (S9 X.prog X.w p' kp bs))) (fun b o z=>sm (up b o z)) (gg.wl.tb.upd rfl (.inl j9))
     obtain⟨a1,a2,a3⟩:=lj g2 hl (yV vW)
     exact k _ _ _ _ a1 (((aJ.drop gd.wt).trans bY).trans a2) a3
    ·cases ee
   ·cases ee
  ·cases ee
 ·cases ee⟩
where
 mC:∀ {l l':List (Nat×Nat)},l.Nodup->(∀ x∈l,x∈l')->l.length<=l'.length
 | [],_,_,_=>QS _
 | a::l,l',nd,h=>by
  have ha:=h a Qh
  have i:=mC (l:=l) (l':=l'.erase a) (Q7.mp nd).2 fun x hx=>by
   have ne:x≠a:=fun z=>(Q7.mp nd).1 (z ▸ hx)
   exact(YE ne).mpr (h x (Qg _ hx))
  rw[JY ha]at i
  have:0<l'.length:=Yk ha
  show l.length+1<=l'.length
  omega
end
section
variable {prog:Program}{w:World}{A:Around}{E:Value->Shared->Prop}{s:Shared}
theorem TQ{vs:List Value}{Q:Value->Shared->Prop}(hl:s.heap.IsList l vs.toArray)(T:gK prog w s.heap vs kp)(hb:∀ x∈kp,x.2<1000)(dM:vs.length<64)
  (h:∀ (h1:Heap) (h':Heap) (us:List Value) (ks:List (Nat×Nat)) (c:Nat),(∀ b o,s.heap.get? b=some o->h1.get? b=some o)->(∀ b o,s.heap.get? b=some o->h'.get? b=some o)->gK prog w s.heap us ks->(∀ v∈us,v∈vs)->ks.Perm kp->(∀ i j,i<=j->j<ks.length->rk (ks.getD i (0,0))<=rk (ks.getD j (0,0)))->
    h'.get? h1.objs.size=some { cls:=.type "list",data:=.seq us.toArray c }->Q (.ref h1.objs.size) { s with heap:=h' }) :
  wpAny (model prog w) A (call (.builtin "sorted") [.ref l]) Q E s:=by
 refine JS kind_sorted plain_sorted entry_sorted (args_sorted1 _) ?_
 unfold Builtin.«sorted»
 refine Qa (m:=checkCount "sorted" 1 1 _) (Qe (Qa (collect_list hl ?c1 (by rw[ZR];omega))))
 case c1=>
 have hk:∀ b o,s.heap.get? b=some o->((s.heap.push (seqObj "list" #[] 0)).update s.heap.objs.size (Obj.mapSeq (· ++ vs.toArray))).get? b=some o:=fun b o e=>(ZA _ _ (VB (Qp e))).trans (Qd _ e)
 generalize (s.heap.push (seqObj "list" #[] 0)).update s.heap.objs.size (Obj.mapSeq (· ++ vs.toArray))=h' at *
 refine Qa (Vr ?c2 (by rw[ZR];omega))
 case c2=>
 have T1:gK prog w (h'.push (seqObj "list" vs.toArray 0)) vs kp:=T.keep fun b o q _=>Qd _ (hk b o q)
 have oL:(h'.push (seqObj "list" vs.toArray 0)).get? h'.objs.size=some (seqObj "list" vs.toArray 0):=Qs _ rfl
 refine Qa (Q4 (Zg slot_list_sort ⟨_,oL,rfl⟩ entry_list_sort (B_ (s:={ s with heap:=h'.push (seqObj "list" vs.toArray 0) }) oL T1 hb dM fun out bO o1 om o2 o3=>⟨_,rfl,?c3⟩) (args_list_sort _)))
 case c3=>
 refine Qe ⟨_,rfl,?c4⟩
 case c4=>
 have ne:∀ b o,s.heap.get? b=some o->b≠h'.objs.size:=fun b o e=>QP (Qp (hk b o e))
 have up:∀ (G:Heap) (f:Array Value->Array Value),(∀ b o,s.heap.get? b=some o->G.get? b=some o)->∀ b o,s.heap.get? b=some o->(G.update h'.objs.size (Obj.mapSeq f)).get? b=some o:=
  fun G f q b o e=>(ZA _ _ (Jt (ne b o e))).trans (q b o e)
 unfold sortedHeap
 have g1:=Jh oL (fun _=>(#[]:Array Value))
 have g4:=Jh (Qd (seqObj "list" #[] 0) (Qd (seqObj "tuple" vs.toArray 0) g1)) (fun _=>out.toArray)
 refine h h' _ out bO _ hk ?c5 ?c6 om o2 o3 g4
 case c5=>exact up _ _ fun b o e=>Qd _ (Qd _ (up _ _ (fun b o e=>Qd _ (hk b o e)) b o e))
 case c6=>
  refine⟨o1.1,fun i x q=>?_⟩
  obtain⟨b,e1,k1⟩:=o1.2 i x q
  obtain⟨j,hj,qj⟩:=Q2 (om _ (QC e1))
  have gj:kp[j]? = some (kp[j]'(by rw[<- T.1];exact hj)):=Qb _
  obtain⟨b',e2,k2⟩:=T.2 j _ gj
  rw[Qb hj,qj]at e2
  cases e2
  obtain⟨b2,e3,k3⟩:=T1.2 j _ gj
  rw[Qb hj,qj]at e3
  cases e3
  have:=k3.inj k1
  rw[this]at k2
  exact⟨b,e1,k2⟩
end
section
variable {X:Cx}{a:Expr}{fa:aA}{p pos:Pos}
theorem TR:jt X (.builtin "sorted") (fun xs H Q=>∃ t kp bs,xs=[.ref t]/\cH X.K H t (bs.map V.ref)/\mz X.K H kp bs/\kp.length<64/\(∀ x∈kp,x.2<1000) /\
  ∀ p ks cs,H p=none->ks.Perm kp->(∀ i j,i<=j->j<ks.length->rk (ks.getD i (0,0))<=rk (ks.getD j (0,0)))->mz X.K H ks cs->Q (.ref p) (upd H p (.lst (cs.map V.ref)))):=by
 intro pins s σ H xs us Q I r hh
 obtain⟨t,kp,bs,rfl,hq,⟨len,tu⟩,dM,hb,q⟩:=hh
 obtain⟨u,rfl,ru⟩:=j4 r
 cases ru
 obtain⟨aj,rv,pl,_⟩:=I.list hq
 have ei:=Ca rv
 subst ei
 have T0:gK X.prog X.w s.heap (bs.map Value.ref) kp:=⟨by rw[Qc,len],fun i x e=>by
  have hi:=(Qy.mp e).1
  have eb:bs[i]? = some (bs[i]'(by rw[<- len];exact hi)):=Qb _
  exact⟨_,by rw[Ql,eb];rfl,qr I (.inl (.inl (tu i x _ e eb)))⟩⟩
 refine TQ pl.isList T0 hb (by rw[Qc,<- len];exact dM) fun h1 h' us ks c k1 oR T mb pm so hg=>?_
 obtain⟨cs,rfl⟩:∃ cs:List Addr,us=cs.map Value.ref:=by
  have:∀ (l:List Value),(∀ v∈l,v∈bs.map Value.ref)->∃ cs:List Addr,l=cs.map Value.ref:=by
   intro l
   induction l with
   | nil=>intro _;exact⟨[],rfl⟩
   | cons v l ih=>
    intro h
    obtain⟨cs,e⟩:=ih fun w hw=>h w (Qg _ hw)
    obtain⟨b,_,rfl⟩:=Qr.mp (h v Qh)
    exact⟨b::cs,by rw[e];rfl⟩
  exact this us mb
 have lc:cs.length=ks.length:=by have:=T.1;rwa [Qc]at this
 refine⟨.ref h1.objs.size,_,BJ (o:=.lst (cs.map V.ref)) (t':=s.toks) I k1 (Qi _) oR ⟨YG (by rw[Qc,lc,pm.length_eq];omega),cs.map Value.ref,c,vT cs,hg⟩,rfl,q _ ks cs (yJ I.aB k1 (Qi _)) pm so ⟨lc.symm,fun i x b x1 x2=>?_⟩⟩
 obtain⟨a,y1,y2⟩:=T.2 i x x1
 rw[Ql,x2]at y1
 cases y1
 obtain⟨b',iW,e⟩:=Qr.mp (mb (.ref b) (Qr.mpr ⟨b,QC x2,rfl⟩))
 cases e
 obtain⟨j,hj,qj⟩:=Q2 iW
 have gj:kp[j]? = some (kp[j]'(by rw[len];exact hj)):=Qb _
 have sq:=tu j _ b gj (by rw[Qb hj,qj])
 have:=Cb ((qr I (.inl (.inl sq))).inj y2)
 rw[this]at sq
 exact sq
def dH (ks:List (Nat×Nat)):List (Nat×Nat):=ks.mergeSort fun a b=>decide (rk a<=rk b)
theorem Ci(hb:∀ x∈kp,x.2<1000)(pm:bO.Perm kp)(so:∀ i j,i<=j->j<bO.length->rk (bO.getD i (0,0))<=rk (bO.getD j (0,0))):bO=dH kp:=by
 have p1:bO.Perm (dH kp):=pm.trans (ZC _ _).symm
 have u1:(bO.map rk).Pairwise (· <= ·):=by
  rw[JG,Jd]
  intro i j hi hj rF
  have:=so i j (by omega) hj
  rw[Qf,Qf,Qb hi,Qb hj]at this
  exact this
 have u2:((dH kp).map rk).Pairwise (· <= ·):=by
  rw[JG]
  have:=Yb (le:=fun a b:Nat×Nat=>decide (rk a<=rk b)) (fun a b c h1 h2=>QA (VJ (QV h1) (QV h2))) (fun a b=>by
   rcases Ue (rk a) (rk b)with h|h
   ·rw[QA h];rfl
   ·rw[QA h,Uf]) kp
  exact this.imp fun h=>QV h
 have e:=lks_uniq (p1.map rk) u1 u2
 have key:∀ (l m:List (Nat×Nat)),(∀ x∈l,x.2<1000)->(∀ x∈m,x.2<1000)->l.map rk=m.map rk->l=m:=by
  intro l
  induction l with
  | nil=>
   intro m _ _ h
   cases m with
   | nil=>rfl
   | cons _ _=>cases h
  | cons a l ih=>
   intro m h1 h2 h
   cases m with
   | nil=>cases h
   | cons b m=>
    rw[QG,QG]at h
    injection h with q1 q2
    rw[GS (h1 a Qh) (h2 b Qh) q1,ih m (fun x hx=>h1 x (Qg _ hx)) (fun x hx=>h2 x (Qg _ hx)) q2]
 exact key _ _ (fun x hx=>hb x (pm.mem_iff.mp hx)) (fun x hx=>hb x ((ZC _ _).mem_iff.mp hx)) e
def Cj (fa:aA):aA:=fun ρ=>match fa ρ with
 | some (.lst ds,q,ρ1)=>if q<=1 then match oS ds with
  | some ks=>if ks.length<64 then some (.lst ((dH ks).map ao),1,ρ1)else none
  | none=>none
  else none
 | _=>none
theorem TU(hm:X.mg "sorted" = none)(ha:QD X a fa)(vU:bootBuiltins "sorted" = some (.builtin "sorted"):=by kernel_rfl)(hg:Gl X "sorted":=by rfl)(hs:starEach [a] X.env=(false,eval a X.env)::starEach [] X.env:=by rfl)(bS:(backTo pos (starEach [] X.env)).any (·.1)=false:=by rfl):QD X (.Call (.Name "sorted" p) [a] [] pos) (Cj fa):=⟨have ha:=ha.o;by
 refine PE.imp (n9 TR hg hm vU (i8 ha j5 hs) (by decide) (by decide) hs bS) fun σ H Q ai=>?_
 obtain⟨ρ,w,t,r',q,ρ',gd,ee,k⟩:=ai
 unfold Cj at ee
 split at ee
 next ds q1 ρ1 h1=>
  split at ee
  next vo=>
   split at ee
   next ks h2=>
    split at ee
    next kT=>
     cases ee
     obtain⟨e,dW⟩:=GR h2
     subst e
     refine⟨ρ,w,t,_,_,_,gd,h1,fun v H1 w1 F1 g1 aJ r1=>?_⟩
     obtain⟨p1,vs,rfl,Cg,rs⟩:=r1.rT vo
     obtain⟨dP,rfl,tu⟩:=Ce rs
     refine⟨p1,ks,dP,rfl,Cg,tu,kT,dW,fun l bO cs hl pm so vW=>?_⟩
     have es:=Ci dW pm so
     subst es
     obtain⟨a1,a2,a3⟩:=lj (g1.drop (t':=t)) hl (yV vW)
     exact k _ _ _ _ a1 ((aJ.drop gd.wt).trans a2) a3
    ·cases ee
   ·cases ee
  ·cases ee
 ·cases ee⟩
end
section
variable {prog:Program}{w:World}{A:Around}{E:Value->Shared->Prop}{s:Shared}{it d:Addr}{od:Obj}{es:Array DictEntry}{i ep:Nat}
theorem TV(lo:(d==sysModules)=false)(hT:s.TypeIs (.ref d) "dict")(ho:s.heap.get? d=some od)(hd:od.data=.dict es ep)
  (q:Q (.ref s.heap.objs.size) { s with heap:=s.heap.push { cls:=.type "dict_keyiterator",data:=.fields #[.ref d,.int 0 0,.int es.size 0,.int ep 0] } }):wpAny (model prog w) A (pyIter (.ref d)) Q E s:=by
 refine Vl hT Yn (Zg Yn hT PySem.F.entry_dict_iter ?_ (PySem.F.args_dict_iter_1 _))
 unfold Builtin.«dict.__iter__» Builtin.Dict.dictSlotNone
 refine Qa (Qa (Ys hT (show wpAny _ _ (pure (Value.ref d)) _ _ s from Qe (show wpAny _ _ (Builtin.Dict.showsAll d >>= _) _ _ s from ?_))))
 unfold Builtin.Dict.showsAll
 rw[Qk (by rw[lo];exact Zi)]
 refine Qa (Qe (Qa (ZM ho hd (Qa (J4 ho hd (Qa (Q6 (Qe ⟨_,rfl,"dict_keyiterator",_,⟨_,Qs _ rfl,rfl⟩,Zu.lookup,?_⟩))))))))
 simpa [rawInt]using q
theorem TX{Q:Option Value->Shared->Prop}(hit:s.heap.IsKeyIter it d i es.size ep)(vX:s.heap.get? d=some od)(vY:od.data=.dict es ep)(hi:i<es.size)
  (q:∀ h',h'.IsKeyIter it d (i+1) es.size ep->Heap.SameBut it s.heap h'->Q (some es[i].key) { s with heap:=h' }):wpAny (model prog w) A (pyNext (.ref it)) Q E s:=by
 obtain⟨o,ho,hc,hd⟩:=id hit
 unfold pyNext
 refine Qa (JX (Zq (name:=Str.ofString "__next__") hit.typeIs Zu (Zg Zu hit.typeIs J1 ?body (JV _))))
 case body=>
 refine Qa (Qe (Qa (Qa (Qa (ZS hit.typeIs (Qe (Qa (Va ho hd ?b1))))))))
 case b1=>
 simp only[show Builtin.Dict_items.ownsTuple "dict_keyiterator" = false from by decide,Qt,Zl]
 refine(show wpAny _ _ (if(Value.ref d==Value.none)=true then _ else _) _ _ s from ?b2)
 case b2=>
 rw[Qk (show ¬ ((Value.ref d==Value.none)=true)from Zi)]
 refine Qa (Qe (Qa (ZM vX vY ?b3)))
 case b3=>
 rw[Qk (by simp)]
 refine Qa (Qe (Qa (J4 vX vY ?b4)))
 case b4=>
 rw[Qk (by simp)]
 refine Qe ?b5
 case b5=>
 simp only[show ¬ ((i:Int)<0)from by omega,Zl,Yi,Zd hi]
 refine Qa (Qa (ZS hit.typeIs (Qe (Qa (wpAny_isOneOf_keyiter hit.typeIs ?b6)))))
 case b6=>
 refine(show wpAny _ _ (setField (.ref it) 1 (rawInt ((i:Int)+1)) >>= _) _ _ s from Qa (Y8 ho hd (by simp) ?b7))
 case b7=>
 have oP:(s.heap.update it (Obj.mapFields (·.setIfInBounds 1 (rawInt ((i:Int)+1))))).IsKeyIter it d (i+1) es.size ep:=⟨_,Zw _ ho (Obj.isFreed_of_fields (J5 hd _)),(Obj.cls_mapFields ..).trans hc,by rw[J5 hd];simp[rawInt]⟩
 refine Qa (Q4 (Qa (wpAny_isOneOf_keyiter (s:={ s with heap:=s.heap.update it (Obj.mapFields (·.setIfInBounds 1 (rawInt ((i:Int)+1)))) }) oP.typeIs ?b8)))
 case b8=>exact(show wpAny _ _ (pure es[i].key) _ _ _ from Qe (Qe ⟨_,rfl,Qe (q _ oP (Q1 ..))⟩))
theorem TY{Q:Option Value->Shared->Prop}(hh:A.handled=none)(hit:s.heap.IsKeyIter it d es.size es.size ep)(vX:s.heap.get? d=some od)(vY:od.data=.dict es ep)
  (q:∀ h',Heap.ExtBut it s.heap h'->Q none { s with heap:=h' }):wpAny (model prog w) A (pyNext (.ref it)) Q E s:=by
 obtain⟨o,ho,hc,hd⟩:=id hit
 unfold pyNext
 refine Qa (JX (Zq (name:=Str.ofString "__next__") hit.typeIs Zu (Zg Zu hit.typeIs J1 ?body (JV _))))
 case body=>
 refine Qa (Qe (Qa (Qa (Qa (ZS hit.typeIs (Qe (Qa (Va ho hd ?b1))))))))
 case b1=>
 simp only[show Builtin.Dict_items.ownsTuple "dict_keyiterator" = false from by decide,Qt,Zl]
 refine(show wpAny _ _ (if(Value.ref d==Value.none)=true then _ else _) _ _ s from ?b2)
 case b2=>
 rw[Qk (show ¬ ((Value.ref d==Value.none)=true)from Zi)]
 refine Qa (Qe (Qa (ZM vX vY ?b3)))
 case b3=>
 rw[Qk (by simp)]
 refine Qa (Qe (Qa (J4 vX vY ?b4)))
 case b4=>
 rw[Qk (by simp)]
 refine Qe ?b5
 case b5=>
 simp only[show ¬ ((es.size:Int)<0)from by omega,Zl,Yi,Z4 (Qi es.size)]
 refine Qa (Qa (ZS hit.typeIs (Qe ?b6)))
 case b6=>
 refine(show wpAny _ _ (setField (.ref it) 0 .none >>= _) _ _ s from Qa (Y8 ho hd (by simp) (show wpAny _ _ (newExc (.type "StopIteration") [] >>= _) _ _ _ from Qa ?b7)))
 case b7=>
 simp only[newExc,newTuple]
 refine Qa (Q6 (Qa (m:=firstArgMember _ _) (V0 (a:=Value.none) (by first|rfl|(simp only[firstArgMember];rfl)) (Q6 ?b8 (by size_fits)))) (by size_fits))
 case b8=>
 simp only[raiseNew]
 refine Qa (wpAny_handled ?b9)
 case b9=>
 rw[show A.in1.handled=none from hh]
 refine Qa (Qe (wpAny_throw ?bx))
 case bx=>
 refine Qa (Yy (b:=true) (T:="StopIteration") ⟨_,Qs _ rfl,rfl⟩ isSubtype_stop (Qe (q _ (((Q1 ..).extBut.push _).push _))))
theorem GX(lo:(d==sysModules)=false)(hc:od.cls=.type "dict")(hd:od.data=.dict es ep):KdlSrc prog w "dict" d d es.size (fun i v=>∃ e,es[i]? = some e/\v=e.key) (fun h=>h.get? d=some od) where
 type:=fun _ h=>⟨_,h,hc⟩
 there:=fun _ h=>⟨Qp h,Qp h⟩
 keep:=fun _ _ h k=>k d (.inl rfl) _ h
 notList:=by decide
 notTuple:=by decide
 hint:=fun _ _ _ _ h q=>kdl_hint_dict ⟨_,h,hc⟩ q
 iter:=fun A s hh h=>⟨_,fun i h'=>h'.IsKeyIter s.heap.objs.size d i es.size ep/\h'.get? d=some od,(fun _ _ q=>TV lo ⟨_,h,hc⟩ h hd q),{
  sub:=fun b hb=>by simp at hb;simp[hb]
  frame:=fun _ _ _ st k=>⟨st.1.at fun o e=>k _ (by simp) o e,k d (by simp) _ st.2⟩
  item:=fun i s' Q E hi st q=>TX st.1 st.2 hd hi fun h' cD sb=>q _ h' s'.toks ⟨_,Zd hi,rfl⟩ ⟨cD,by rw[sb.2 d (QP (Qp h))];exact st.2⟩ fun b o hb e=>sb.extBut b o (fun z=>hb (by simp[z])) e
  done:=fun s' Q E st q=>TY hh st.1 st.2 hd fun h' he=>q h' s'.toks fun b o hb e=>he b o (fun z=>hb (by simp[z])) e
  self:=fun _ _ _ _ st q=>wpAny_pyIter_keyiter st.1 q },⟨_,Qs _ rfl,rfl,rfl⟩,Qd _ h⟩
end
section
variable {prog:Program}{w:World}{A:Around}{E:Value->Shared->Prop}{s:Shared}
theorem TZ{ty:String}{r d:Addr}{n:Nat}{Pv:Nat->Value->Prop}{OK:Heap->Prop}{bs:List Addr}{Q:Value->Shared->Prop}(S:KdlSrc prog w ty r d n Pv OK)(hh:A.handled=none)(ho:OK s.heap)(dM:n<64)(hb:∀ x∈kp,x.2<1000)
  (wk:∀ vs:List Value,vs.length=n->(∀ (j:Nat) (v:Value),vs[j]? = some v->Pv j v)->∃ ks:List (Nat×Nat),gK prog w s.heap vs ks/\ks.Perm kp/\∀ v∈vs,∃ b∈bs,v=.ref b)
  (h:∀ (h1:Heap) (h':Heap) (tk:Nat) (us:List Value) (ks:List (Nat×Nat)) (c:Nat),(∀ b o,s.heap.get? b=some o->h1.get? b=some o)->(∀ b o,s.heap.get? b=some o->h'.get? b=some o)->gK prog w s.heap us ks->(∀ v∈us,∃ b∈bs,v=.ref b)->ks.Perm kp->(∀ i j,i<=j->j<ks.length->rk (ks.getD i (0,0))<=rk (ks.getD j (0,0)))->
    h'.get? h1.objs.size=some { cls:=.type "list",data:=.seq us.toArray c }->Q (.ref h1.objs.size) { s with heap:=h',toks:=tk }) :
  wpAny (model prog w) A (call (.builtin "sorted") [.ref r]) Q E s:=by
 refine JS kind_sorted plain_sorted entry_sorted (args_sorted1 _) ?_
 unfold Builtin.«sorted»
 refine Qa (m:=checkCount "sorted" 1 1 _) (Qe (Qa (kdu_collect (A:=A.in1) S hh ho (YG (by omega)) fun h' tk acc hk cq=>?c1)))
 case c1=>
 have hl:acc.toList.length=n:=by rw[QN];exact cq.1
 refine Qa (Vr ?c2 (by rw[hl];exact YG (by omega)))
 case c2=>
 obtain⟨ks,T,pm,mb⟩:=wk acc.toList hl fun j v e=>cq.2 j v (by rw[<- Q5];exact e)
 have T1:gK prog w (h'.push (seqObj "list" acc.toList.toArray 0)) acc.toList ks:=T.keep fun b o q _=>Qd _ (hk b o q)
 have oL:(h'.push (seqObj "list" acc.toList.toArray 0)).get? h'.objs.size=some (seqObj "list" acc.toList.toArray 0):=Qs _ rfl
 refine Qa (Q4 (Zg slot_list_sort ⟨_,oL,rfl⟩ entry_list_sort (B_ oL T1 (fun x hx=>hb x (pm.mem_iff.mp hx)) (by rw[hl];exact dM) fun out bO o1 om o2 o3=>⟨_,rfl,?c3⟩) (args_list_sort _)))
 case c3=>
 refine Qe ⟨_,rfl,?c4⟩
 case c4=>
 have ne:∀ b o,s.heap.get? b=some o->b≠h'.objs.size:=fun b o e=>QP (Qp (hk b o e))
 have up:∀ (G:Heap) (f:Array Value->Array Value),(∀ b o,s.heap.get? b=some o->G.get? b=some o)->∀ b o,s.heap.get? b=some o->(G.update h'.objs.size (Obj.mapSeq f)).get? b=some o:=
  fun G f q b o e=>(ZA _ _ (Jt (ne b o e))).trans (q b o e)
 unfold sortedHeap
 have g1:=Jh oL (fun _=>(#[]:Array Value))
 have g4:=Jh (Qd (seqObj "list" #[] 0) (Qd (seqObj "tuple" acc.toList.toArray 0) g1)) (fun _=>out.toArray)
 refine h h' _ _ out bO _ hk ?c5 ?c6 (fun v hv=>mb v (om v hv)) (o2.trans pm) o3 g4
 case c5=>exact up _ _ fun b o e=>Qd _ (Qd _ (up _ _ (fun b o e=>Qd _ (hk b o e)) b o e))
 case c6=>
  refine⟨o1.1,fun i x q=>?_⟩
  obtain⟨b,e1,k1⟩:=o1.2 i x q
  obtain⟨j,hj,qj⟩:=Q2 (om _ (QC e1))
  have gj:ks[j]? = some (ks[j]'(by rw[<- T.1];exact hj)):=Qb _
  obtain⟨b',e2,k2⟩:=T.2 j _ gj
  rw[Qb hj,qj]at e2
  cases e2
  obtain⟨b2,e3,k3⟩:=T1.2 j _ gj
  rw[Qb hj,qj]at e3
  cases e3
  have:=k3.inj k1
  rw[this]at k2
  exact⟨b,e1,k2⟩
end
abbrev bA (x:Nat×Nat):List Key:=[.inl (Int.ofNat x.1),.inl (Int.ofNat x.2)]
theorem T3:∀ {ah:List (List Key×V)} {xs:List (List Key×Addr×Value)} {kp:List (Nat×Nat)},KT H ah xs->ah.map (·.1)=kp.map bA->mz K H kp (xs.map (·.2.1)):=by
 intro ah xs kp r
 induction r generalizing kp with
 | nil=>
  intro e
  have:kp=[]:=JT.mp e.symm
  subst this
  exact⟨rfl,fun i x b e1 _=>by simp at e1⟩
 | @cons p q ps qs hq t ih=>
  intro e
  cases kp with
  | nil=>cases e
  | cons x kp=>
   rw[QG,QG]at e
   injection e with e1 e2
   obtain⟨l,tu⟩:=ih e2
   refine⟨by rw[QO,QG,QO,l],fun i y b z1 z2=>?_⟩
   cases i with
   | zero=>
    cases z1
    cases z2
    have:=hq.2.1
    rw[e1]at this
    exact this
   | succ i=>exact tu i y b z1 z2
section
variable {X:Cx}
theorem T4(hc:X.calm=true):jt X (.builtin "sorted") (fun xs H Q=>∃ t ah kp,xs=[.ref t]/\H t=some (.dT ah)/\ah.map (·.1)=kp.map bA/\kp.length<64/\(∀ x∈kp,x.2<1000) /\
  ∀ p ks cs,H p=none->ks.Perm kp->(∀ i j,i<=j->j<ks.length->rk (ks.getD i (0,0))<=rk (ks.getD j (0,0)))->mz X.K H ks cs->Q (.ref p) (upd H p (.lst (cs.map V.ref)))):=by
 intro pins s σ H xs us Q I r hh
 obtain⟨t,ah,kp,rfl,hq,ek,dM,hb,q⟩:=hh
 obtain⟨u,rfl,ru⟩:=j4 r
 cases ru
 obtain⟨_,lo,zs,kt,o,es,ep,ho,hx,hd,he,_,_⟩:=tK I.aB hq
 have tu:mz X.K H kp (zs.map (·.2.1)):=T3 kt ek
 have len:es.size=kp.length:=by
  rw[<- QN,he,Qc,tu.1,Qc]
 have gk:∀ (i:Nat) (e:DictEntry),es[i]? = some e->∃ b:Addr,(zs.map (·.2.1))[i]? = some b/\e.key=Value.ref b:=fun i e h=>by
  rw[<- Q5,he,Ql,Qv]at h
  obtain⟨z,z1,rfl⟩:=h
  exact⟨z.2.1,by rw[Ql,z1];rfl,rfl⟩
 refine TZ (bs:=zs.map (·.2.1)) (kp:=kp) (GX lo hx.1 hd) (I.ok.hd hc) ho (by rw[len];exact dM) hb (fun vs hl hv=>?w1) fun h1 h' tk us ks c k1 oR T mb pm so hg=>?w2
 case w1=>
  refine⟨kp,⟨by rw[hl,len],fun i x e=>?_⟩,V5 _,fun v m=>?_⟩
  ·have hi:=(Qy.mp e).1
   obtain⟨e',q1,q2⟩:=hv i _ (Qb (by rw[hl,len];exact hi))
   obtain⟨b,q3,q4⟩:=gk i e' q1
   exact⟨b,by rw[Qb (by rw[hl,len];exact hi),q2,q4],qr I (.inl (.inl (tu.2 i x b e q3)))⟩
  ·obtain⟨j,hj,qj⟩:=Q2 m
   obtain⟨e',q1,q2⟩:=hv j v (by rw[Qb hj,qj])
   obtain⟨b,q3,q4⟩:=gk j e' q1
   exact⟨b,QC q3,by rw[q2,q4]⟩
 case w2=>
  obtain⟨cs,rfl⟩:∃ cs:List Addr,us=cs.map Value.ref:=by
   have:∀ (l:List Value),(∀ v∈l,∃ b∈zs.map (·.2.1),v=.ref b)->∃ cs:List Addr,l=cs.map Value.ref:=by
    intro l
    induction l with
    | nil=>intro _;exact⟨[],rfl⟩
    | cons v l ih=>
     intro h
     obtain⟨cs,e⟩:=ih fun w hw=>h w (Qg _ hw)
     obtain⟨b,_,rfl⟩:=h v Qh
     exact⟨b::cs,by rw[e];rfl⟩
   exact this us mb
  have lc:cs.length=ks.length:=by have:=T.1;rwa [Qc]at this
  refine⟨.ref h1.objs.size,_,BJ (o:=.lst (cs.map V.ref)) I k1 (Qi _) oR ⟨YG (by rw[Qc,lc,pm.length_eq];omega),cs.map Value.ref,c,vT cs,hg⟩,rfl,q _ ks cs (yJ I.aB k1 (Qi _)) pm so ⟨lc.symm,fun i x b x1 x2=>?_⟩⟩
  obtain⟨a,y1,y2⟩:=T.2 i x x1
  rw[Ql,x2]at y1
  cases y1
  obtain⟨b',iW,e⟩:=mb (.ref b) (Qr.mpr ⟨b,QC x2,rfl⟩)
  cases e
  obtain⟨j,hj,qj⟩:=Q2 iW
  have gj:kp[j]? = some (kp[j]'(by rw[tu.1];exact hj)):=Qb _
  have sq:=tu.2 j _ b gj (by rw[Qb hj,qj])
  have:=Cb ((qr I (.inl (.inl sq))).inj y2)
  rw[this]at sq
  exact sq
end
section
variable {α β:Type}[DecidableEq α]
def vL:List α->List β->α->Option β
 | x::ks,d::ds,k=>if x=k then some d else vL ks ds k
 | _,_,_=>none
def ko (ks:List α)(k:α):Bool:=ks.any fun x=>decide (x=k)
def iY:List α->List β->α->β->List β
 | x::ks,d::ds,k,e=>(if x=k then e else d)::iY ks ds k e
 | _,_,_,_=>[]
end
theorem yW{α β:Type}[DecidableEq α](k:α)(e:β):∀ {ks:List α} {ds:List β},ks.length=ds.length->(iY ks ds k e).length=ds.length
 | [],[],_=>rfl
 | x::ks,d::ds,h=>by
  show(iY ks ds k e).length+1=ds.length+1
  rw[yW k e (JC h)]
theorem vZ{α:Type}[DecidableEq α](k:α):∀ (ks:List α) (vs:List V),fx (ks.zip vs) k=vL ks vs k
 | [],_=>rfl
 | _::_,[]=>rfl
 | x::ks,v::vs=>by
  show fx ((x,v)::ks.zip vs) k=_
  unfold vL
  by_cases h:x=k
  ·rw[u0 h,Qj h]
  ·rw[u4 h,Qk h,vZ k ks vs]
theorem GY{α:Type}[DecidableEq α](k:α):∀ (ks:List α) (vs:List V),ks.length=vs.length->((ks.zip vs).any fun kv=>decide (kv.1=k))=ko ks k
 | [],[],_=>rfl
 | x::ks,v::vs,h=>by
  rw[J6,YB,GY k ks vs (JC h)]
  rfl
theorem Ck{α:Type}[DecidableEq α](k:α)(u:V)(ks:List α)(vs:List V)(h:ks.length=vs.length) :
  eX (ks.zip vs) k u=if ko ks k=true then ks.zip (iY ks vs k u)else(ks++[k]).zip (vs++[u]):=by
 unfold eX
 rw[GY k ks vs h]
 by_cases hk:ko ks k=true
 ·rw[Qj hk,Qj hk]
  clear hk
  induction ks generalizing vs with
  | nil=>rfl
  | cons x ks ih=>
   cases vs with
   | nil=>cases h
   | cons v vs=>
    show(if x=k then(x,u)else(x,v))::_=(x,if x=k then u else v)::_
    have:=ih vs (JC h)
    unfold List.zip at this
    rw[this]
    by_cases hx:x=k
    ·rw[Qj hx,Qj hx]
    ·rw[Qk hx,Qk hx]
 ·rw[Qk hk,Qk hk,VN h]
  rfl
section
variable {K:PySem.W.Frag}{H:Hp}{w:Wn}{o:Ow}
theorem ae.split(r:ae K H w o 0 (d::ds) vs []):∃ v us,vs=v::us/\Rep K H w o 0 d v []/\ae K H w o 0 ds us []:=by
 generalize hF:([]:List Addr)=F at r
 cases r with
 | @cons _ d' v' ck eS F' G' r s _=>
  have h1:F'=[]:=r.zero
  have h2:G'=[]:=s.zero
  subst h1 h2
  exact⟨v',eS,rfl,r,s⟩
theorem ae.r_(r:Rep K H w o 0 d v [])(s:ae K H w o 0 ds vs []):ae K H w o 0 (d::ds) (v::vs) []:=.cons (F:=[]) (G:=[]) r s nM
theorem ae.oT(r:ae K H w o 0 [] vs []):vs=[]:=by
 have:=r.length
 cases vs with
 | nil=>rfl
 | cons _ _=>cases this
theorem yX{α:Type}[DecidableEq α](k:α):∀ {ks:List α} {ds:List D} {vs:List V},ae K H w o 0 ds vs []->
  (∀ d,vL ks ds k=some d->∃ v,vL ks vs k=some v/\Rep K H w o 0 d v [])/\(vL ks ds k=none->vL ks vs k=none)
 | [],ds,vs,r=>⟨fun d h=>by simp[vL]at h,fun _=>by simp[vL]⟩
 | x::ks,[],vs,r=>by
  rw[r.oT]
  exact⟨fun d h=>by simp[vL]at h,fun _=>by simp[vL]⟩
 | x::ks,d::ds,vs,r=>by
  obtain⟨v,us,rfl,r1,s⟩:=r.split
  have ih:=yX k (ks:=ks) s
  by_cases hx:x=k
  ·simp only[vL,Qj hx]
   exact⟨fun d' h=>by cases h;exact⟨v,rfl,r1⟩,fun h=>by cases h⟩
  ·simp only[vL,Qk hx]
   exact ih
theorem yY{α:Type}[DecidableEq α](k:α){e:D}(re:Rep K H w o 0 e u []):∀ {ks:List α} {ds:List D} {vs:List V},ae K H w o 0 ds vs []->ae K H w o 0 (iY ks ds k e) (iY ks vs k u) []
 | [],ds,vs,r=>by simp only[iY];exact .nil
 | x::ks,[],vs,r=>by
  rw[r.oT]
  simp only[iY];exact .nil
 | x::ks,d::ds,vs,r=>by
  obtain⟨v,us,rfl,r1,s⟩:=r.split
  simp only[iY]
  refine .r_ ?_ (yY k re s)
  by_cases hx:x=k
  ·rw[Qj hx,Qj hx];exact re
  ·rw[Qk hx,Qk hx];exact r1
end
def yZ:D->Option Key
 | .int i=>some (.inl i)
 | .str x=>some (.inr x)
 | _=>none
def y9:List D->Option (List Key)
 | []=>some []
 | d::ds=>match yZ d with
  | some k=>(y9 ds).map (k :: ·)
  | none=>none
def ub:D->Option (List Key)
 | .tup ds=>y9 ds
 | _=>none
def se:MK->List D->D->Option (Option D)
 | .t ks,ds,x=>(ub x).map fun y=>vL ks ds y
 | .k ks,ds,x=>(yZ x).map fun y=>vL ks ds y
 | .i _ _,_,_=>none
def v5:MK->List D->D->D->Option (MK×List D)
 | .t ks,ds,x,d=>(ub x).map fun y=>if ko ks y=true then(.t ks,iY ks ds y d)else(.t (ks++[y]),ds++[d])
 | .k ks,ds,x,d=>(yZ x).map fun y=>if ko ks y=true then(.k ks,iY ks ds y d)else(.k (ks++[y]),ds++[d])
 | .i _ _,_,_,_=>none
section
variable {K:PySem.W.Frag}{H:Hp}{w:Wn}{o:Ow}
theorem Cm{x:D}{k:Key}(h:yZ x=some k)(r:Rep K H w o q x v F):v=kV k:=by
 cases x<;>cases h<;>cases r<;>rfl
theorem GZ:∀ {ds:List D} {ks:List Key} {vs:List V},y9 ds=some ks->ae K H w o 0 ds vs []->vs=ks.map kV
 | [],ks,vs,h,r=>by
  cases h
  exact r.oT
 | d::ds,ks,vs,h,r=>by
  unfold y9 at h
  split at h
  next k hk=>
   obtain⟨bO,e,rfl⟩:=Qv.mp h
   obtain⟨v,us,rfl,r1,s⟩:=r.split
   rw[Cm hk r1,GZ e s]
   rfl
  ·cases h
theorem Cn{x:D}{k:List Key}(h:ub x=some k)(r:Rep K H w o q x v F):∃ b,v=.ref b/\H b=some (.tup (k.map kV)):=by
 cases x with
 | tup ds=>
  obtain⟨a,vs,rfl,e,rs⟩:=r.pR
  rw[GZ h rs]at e
  exact⟨a,rfl,e⟩
 | _=>cases h
theorem G0{k:MK}{x:D}{y:V}{r:Option D}(hH:H a=some z)(i:k.Is K vs z)(rs:ae K H w o 0 ds vs [])(rx:Rep K H w' o' q x y F)(h:se k ds x=some r) :
  ∃ rv,jL H a y rv/\(∀ d,r=some d->∃ v,rv=some v/\Rep K H w o 0 d v [])/\(r=none->rv=none):=by
 cases k with
 | t ks=>
  obtain⟨kk,e,rfl⟩:=Qv.mp h
  cases i
  obtain⟨b,rfl,hb⟩:=Cn e rx
  refine⟨_,jL.t hH hb,?_⟩
  rw[vZ]
  exact yX kk rs
 | k ks=>
  obtain⟨kk,e,rfl⟩:=Qv.mp h
  cases i
  rw[Cm e rx]
  refine⟨_,jL.k hH,?_⟩
  rw[vZ]
  exact yX kk rs
 | i C fs=>cases h
theorem T5{k k':MK}{ck:List D}{x:D}{y:V}(hH:H a=some z)(i:k.Is K vs z)(hl:k.len=ds.length)(dM:ds.length<1000)(rs:ae K H w o 0 ds vs [])(rx:Rep K H w' o' q x y F)(rd:Rep K H w o 0 d u [])(h:v5 k ds x d=some (k',ck)) :
  ∃ z' eS,oe H a y u (upd H a z')/\k'.Is K eS z'/\k'.len=ck.length/\ae K H w o 0 ck eS []:=by
 have lv:=rs.length
 cases k with
 | t ks=>
  obtain⟨kk,e,hh⟩:=Qv.mp h
  cases i
  obtain⟨b,rfl,hb⟩:=Cn e rx
  have hl:ks.length=ds.length:=hl
  have dp:=oe.t (v:=u) hH hb (by rw[ZZ,<- lv,hl,JB];exact lh (ZI dM))
  rw[Ck kk u ks vs (by omega)]at dp
  by_cases hk:ko ks kk=true
  ·rw[Qj hk]at hh dp
   cases hh
   exact⟨_,_,dp,rfl,(hl.trans (yW kk d hl).symm),yY kk rd rs⟩
  ·rw[Qk hk]at hh dp
   cases hh
   refine⟨_,_,dp,rfl,?_,ae.snoc (F:=[]) (G:=[]) rd rs nM⟩
   show(ks++[kk]).length=_
   rw[Qn,Qn,hl]
   rfl
 | k ks=>
  obtain⟨kk,e,hh⟩:=Qv.mp h
  cases i
  rw[Cm e rx]
  have hl:ks.length=ds.length:=hl
  have dp:=oe.k (k:=kk) (v:=u) hH (by rw[ZZ,<- lv,hl,JB];exact lh (ZI dM))
  rw[Ck kk u ks vs (by omega)]at dp
  by_cases hk:ko ks kk=true
  ·rw[Qj hk]at hh dp
   cases hh
   exact⟨_,_,dp,rfl,(hl.trans (yW kk d hl).symm),yY kk rd rs⟩
  ·rw[Qk hk]at hh dp
   cases hh
   refine⟨_,_,dp,rfl,?_,ae.snoc (F:=[]) (G:=[]) rd rs nM⟩
   show(ks++[kk]).length=_
   rw[Qn,Qn,hl]
   rfl
 | i C fs=>cases h
end
theorem T6(v:OX):oq v.ho=false:=by cases v<;>rfl
theorem MK.Co{k:MK}{x:HO}(h:k.Is K vs x):oq x=false:=by
 obtain⟨v,rfl⟩:=MK.ox h
 exact T6 v
section
variable {K:PySem.W.Frag}{σ:St}{ρ:aQ}{t:Nat}
theorem T7{H1:Hp}{p:Addr}{w1:Wn}{k:MK}(g:Good K ρ σ H1 w1 t)(hp:H1 p=none)(i:k.Is K vs z)(hl:k.len=ds.length)(r:ae K H1 w1 .f 0 ds vs []) :
  Good K ρ σ (upd H1 p z) (j_ p (.t t) w1) (t+1)/\Go H1 w1 (upd H1 p z) (j_ p (.t t) w1)/\Rep K (upd H1 p z) (j_ p (.t t) w1) (.t t) 1 (.mp k ds) (.ref p) [p]:=by
 have ne:∀ a x,H1 a=some x->a≠p:=fun a x e=>h_ e hp
 have nw:∀ a o,w1 a=some o->a≠p:=fun a o e=>by obtain⟨vs,q⟩:=g.wl a o e;exact ne a _ q
 have st:dh H1 w1 (upd H1 p z) (j_ p (.t t) w1):=fun a x e n=>⟨sm (by rw[aZ (ne a x e)];exact e),by rw[iE (ne a x e)];exact n⟩
 refine⟨⟨⟨fun a o e=>?_,g.wl.tb.upd (MK.Co i) (.inl hp)⟩,fun a i e=>?_,fun a i e=>?_,g.len,fun i d q e=>?_⟩,⟨st,fun a o e _=>⟨aZ (nw a o e),(iE (nw a o e)).trans e⟩⟩,?_⟩
 ·by_cases h:a=p
  ·subst h
   obtain⟨v,rfl⟩:=MK.ox i
   exact⟨v,fO⟩
  ·rw[iE h]at e
   obtain⟨us,q⟩:=g.wl a o e
   exact⟨us,by rw[aZ h];exact q⟩
 ·by_cases h:a=p
  ·subst h;rw[oy]at e;cases e
  ·rw[iE h]at e;exact g.ws a i e
 ·by_cases h:a=p
  ·subst h;rw[oy]at e;cases e;exact Zv _
  ·rw[iE h]at e;exact Zk (g.wt a i e)
 ·obtain⟨v,F,h1,h2⟩:=g.slot i d q e
  exact⟨v,F,h1,Rep.go g.wl st h2 fun a m=>⟨aZ (nw a _ (h2.aE a m)),(iE (nw a _ (h2.aE a m))).trans (h2.aE a m)⟩⟩
 ·exact .kK fO i oy hl (ae.go g.wl st r nM)
theorem Rep.sf{k:MK}(r:Rep K H w o q (.mp k ds) v F):∃ a vs z,v=.ref a/\H a=some z/\k.Is K vs z/\k.len=ds.length/\ae K H w o 0 ds vs []:=by
 cases r with
 | nu h i e l r=>exact⟨_,_,_,rfl,h,i,l,r⟩
 | kK h i e l r=>exact⟨_,_,_,rfl,h,i,l,r⟩
theorem Good.kq{k:MK}(g:Good K ρ σ H w t)(e:ρ[i]? = some (some (.mp k ds,q))) :
  ∃ l vs z,σ[i]? = some (some (.ref l))/\H l=some z/\k.Is K vs z/\k.len=ds.length/\ae K H w .f 0 ds vs []:=by
 obtain⟨v,F,h1,h2⟩:=g.slot i _ _ e
 obtain⟨a,vs,z,rfl,x1,x2,x3,x4⟩:=h2.sf
 exact⟨a,vs,z,h1,x1,x2,x3,x4.any g.wl⟩
theorem Good.sg{k:MK}(g:Good K ρ σ H w t)(e:ρ[i]? = some (some (.mp k ds,1))) :
  ∃ l vs z,σ[i]? = some (some (.ref l))/\H l=some z/\k.Is K vs z/\k.len=ds.length/\ae K H w .f 0 ds vs []/\∀ k' ck eS z',k'.Is K eS z'->k'.len=ck.length->ae K H w .f 0 ck eS []->
   Good K (ρ.set i (some (.mp k' ck,1))) σ (upd H l z') w t/\Go H w (upd H l z') w:=by
 obtain⟨v,F,h1,h2⟩:=g.slot i _ _ e
 cases h2 with
 | @kK _ l vs _ _ z hl gT hw hlen rs=>
  refine⟨l,vs,z,h1,hl,gT,hlen,rs.any g.wl,fun k' ck eS z' i' l' r'=>?_⟩
  have nl:∀ a o,w a=some o->o ≠ .s i->a≠l:=fun a o e n z=>by subst z;rw[hw]at e;exact n (QH e).symm
  have nn:∀ a,w a=none->a≠l:=fun a e z=>by subst z;rw[hw]at e;cases e
  have st:dh H w (upd H l z') w:=fun a x h n=>⟨sm (by rw[aZ (nn a n)];exact h),n⟩
  refine⟨⟨⟨fun a o h=>?_,g.wl.tb.upd (MK.Co i') (.inr (g.wl l _ hw))⟩,g.ws,g.wt,by rw[Zh];exact g.len,fun j d' q' e'=>?_⟩,⟨st,fun a o h n=>⟨aZ (nl a o h (n i)),h⟩⟩⟩
  ·by_cases z:a=l
   ·subst z
    obtain⟨v,rfl⟩:=MK.ox i'
    exact⟨v,fO⟩
   ·obtain⟨us,q⟩:=g.wl a o h
    exact⟨us,by rw[aZ z];exact q⟩
  ·by_cases hj:i=j
   ·subst hj
    rw[QT (Qy.mp e).1]at e'
    cases e'
    exact⟨_,_,h1,.kK fO i' hw l' (ae.go g.wl st r' nM)⟩
   ·rw[QX hj]at e'
    obtain⟨v',F',pZ,mf⟩:=g.slot j d' q' e'
    exact⟨v',F',pZ,Rep.go g.wl st mf fun a m=>⟨aZ (nl a _ (mf.aE a m) (fun z=>hj (by cases z;rfl))),mf.aE a m⟩⟩
end
@[simp] def dw:Option (OD)->Bool
 | some (some (.mp (.t _) _,_))=>true
 | some (some (.mp (.k _) _,_))=>true
 | _=>false
theorem T8{o:Option (OD)}(h:dw o=true):∃ k ds q,o=some (some (.mp k ds,q))/\(∀ C fs,k ≠ .i C fs):=by
 unfold dw at h
 split at h
 ·exact⟨_,_,_,rfl,fun _ _ z=>nomatch z⟩
 ·exact⟨_,_,_,rfl,fun _ _ z=>nomatch z⟩
 ·cases h
theorem MK.mi{k:MK}(i:k.Is K vs z)(n:∀ C fs,k ≠ .i C fs)(e:H a=some z):L2.tL H a:=by
 cases k with
 | t ks=>cases i;exact .inr ⟨_,.inl e⟩
 | k ks=>cases i;exact .inl ⟨_,.inl e⟩
 | i C fs=>exact absurd rfl (n C fs)
theorem Good.dw{t:Nat}(g:Good K ρ σ H w t)(h:dw ρ[i]? = true):∃ l,σ[i]? = some (some (.ref l))/\L2.tL H l:=by
 obtain⟨k,ds,q,e,n⟩:=T8 h
 obtain⟨l,vs,z,h1,h2,h3,_,_⟩:=g.kq e
 exact⟨l,h1,MK.mi h3 n h2⟩
@[simp] def Cp:aA:=fun ρ=>some (.mp (.t []) [],1,ρ)
def uc (i:Nat)(fk:aA):aA:=fun ρ=>if dw ρ[i]? = true then match fk ρ with
 | some (x,_,ρ1)=>match ρ1[i]? with
  | some (some (.mp k ds,_))=>match se k ds x with
   | some (some d)=>some (d,fy d,ρ1)
   | _=>none
  | _=>none
 | none=>none
 else none
def v7 (i:Nat)(fk fv:aA):aH:=fun ρ=>match fv ρ with
 | some (d,_,ρ1)=>if dw ρ1[i]? = true then match fk ρ1 with
  | some (x,_,ρ2)=>match ρ2[i]? with
   | some (some (.mp k ds,1))=>if ds.length<1000 then match v5 k ds x d with
    | some (k',ck)=>some (.nx (ρ2.set i (some (.mp k' ck,1))))
    | none=>none
    else none
   | _=>none
  | none=>none
  else none
 | none=>none
def sh:List (List Key)->Option (List (Nat×Nat))
 | []=>some []
 | [.inl i,.inl j]::ks=>if 0<=i/\0<=j/\j<1000 then(sh ks).map ((i.toNat,j.toNat) :: ·)else none
 | _=>none
theorem T9:∀ {ks:List (List Key)} {kp:List (Nat×Nat)},sh ks=some kp->ks=kp.map bA/\∀ x∈kp,x.2<1000:=by
 intro ks
 induction ks with
 | nil=>intro kp h;cases h;exact⟨rfl,fun x hx=>nomatch hx⟩
 | cons k ks ih=>
  intro kp h
  unfold sh at h
  split at h
  ·rename_i h0;cases h0
  next i j bO h0=>
   cases h0
   split at h
   next hb=>
    obtain⟨oR,e,rfl⟩:=Qv.mp h
    obtain⟨e1,e2⟩:=ih e
    refine⟨?_,fun x hx=>?_⟩
    ·rw[QG,<- e1]
     have h1:Int.ofNat i.toNat=i:=YV hb.1
     have h2:Int.ofNat j.toNat=j:=YV hb.2.1
     show _=[Sum.inl (Int.ofNat i.toNat),Sum.inl (Int.ofNat j.toNat)]::_
     rw[h1,h2]
    ·rcases Qw.mp hx with z|z
     ·rw[z];show j.toNat<1000;omega
     ·exact e2 x z
   ·cases h
  ·cases h
theorem G1:∀ (kp:List (Nat×Nat)),(∀ x∈kp,x.2<1000)->sh (kp.map bA)=some kp
 | [],_=>rfl
 | x::kp,h=>by
  have ih:=G1 kp fun y hy=>h y (Qg _ hy)
  have hx:=h x Qh
  show(if 0<=Int.ofNat x.1/\0<=Int.ofNat x.2/\Int.ofNat x.2<1000 then(sh (kp.map bA)).map _ else none)=_
  rw[Qj ⟨Vc _,Vc _,by show(x.2:Int)<1000;omega⟩,ih]
  rfl
section
variable {X:Cx}{a b c e:Expr}{fa fb fc f:aA}{p p1 pos pos' az apos:Pos}{x:Str}{i:Nat}
theorem G2:QD X (.Dict [] [] pos) Cp:=⟨PE.imp NI fun σ H Q ai=>by
 obtain⟨ρ,w,t,r',q,ρ',gd,ee,k⟩:=ai
 cases ee
 intro p hp
 obtain⟨a1,a2,a3⟩:=T7 (k:=.t []) (vs:=[]) (ds:=[]) gd hp rfl rfl .nil
 exact k _ _ _ _ a1 a2 a3⟩
theorem T_{k:Nat}(hr:a_ k X.A)(h:QE X (.Name x p1) (eV i))(hk:QD X b fb)(hs:Az b:=by exact fun _ _=>rfl):QD X (.Subscript (.Name x p1) b pos) (uc i fb):=⟨have h:=h.o;have hk:=hk.o;PE.imp (NA (tF hr) h hk hs) fun σ H Q ai=>by
 obtain⟨ρ,w,t,r',q,ρ',gd,ee,kk⟩:=ai
 unfold uc at ee
 split at ee
 next hd=>
  obtain⟨l,cX,_⟩:=gd.dw hd
  split at ee
  next x0 q1 ρ1 h1=>
   split at ee
   next k0 ds q2 e1=>
    split at ee
    next d hg=>
     cases ee
     refine⟨_,cX,ρ,w,t,_,_,_,gd,h1,fun y H1 w1 F1 g1 aJ r1=>?_⟩
     obtain⟨l',vs,z,cT,hH,gT,_,rs⟩:=(g1.drop (t':=t)).kq e1
     rw[cX]at cT
     cases cT
     obtain⟨rv,dg,v1,_⟩:=G0 hH gT rs r1 hg
     obtain⟨v,rfl,rd⟩:=v1 _ rfl
     exact⟨l,v,rfl,dg,ou kk gd g1 aJ (rd.any (g1.drop (t':=t)).wl).jw⟩
    ·cases ee
   ·cases ee
  ·cases ee
 ·cases ee⟩
theorem Uh{k:Nat}(hr:a_ k X.A)(h:QE X (.Name x p1) (eV i))(hk:QD X b fb)(hv:QD X e f)(hs:swapsWith e (some (.Subscript (.Name x p1) b pos')) pos.line X.env=pure false:=by rfl):jN X (.Assign [.Subscript (.Name x p1) b pos'] e pos) (v7 i fb f):=⟨have h:=h.o;have hk:=hk.o;have hv:=hv.o;PS.imp (NC (tF hr) h hk hv hs) fun Dn σ H ai=>by
 obtain⟨ρ,w,o,gd,ee,kk⟩:=ai
 unfold v7 at ee
 split at ee
 next d q0 ρ1 h0=>
  split at ee
  next hd=>
   split at ee
   next x0 q1 ρ2 h1=>
    split at ee
    next k0 ds e1=>
     split at ee
     next dM=>
      split at ee
      next k' ck hp=>
       cases ee
       refine⟨ρ,w,0,_,_,_,gd,h0,fun u H1 w1 F1 g1 aJ r1=>?_⟩
       obtain⟨l,cX,_⟩:=g1.dw hd
       refine⟨_,cX,ρ1,w1,1,_,_,_,g1,h1,fun y H2 w2 F2 g2 bY r2=>?_⟩
       have gg:=g2.drop (t':=0)
       obtain⟨l',vs,z,cT,hH,gT,hl,rs,mk⟩:=gg.sg e1
       rw[cX]at cT
       cases cT
       have rv:=((r1.gone g1.wl bY).drop (o:=.f) (t':=0) (Qi 0))
       obtain⟨z',eS,dp,i',l',oI⟩:=T5 hH gT hl dM rs r2 rv hp
       obtain⟨m1,m2⟩:=mk k' ck eS z' i' l' oI
       exact⟨l,_,rfl,dp,kk σ _ _ rfl m1 (((aJ.trans bY).drop gd.wt).trans m2)⟩
      ·cases ee
     ·cases ee
    ·cases ee
   ·cases ee
  ·cases ee
 ·cases ee⟩
end
section
variable {P:Program}{w:World}{κ:Type}[DecidableEq κ]{N:HeapKind P w κ}{A:Around}{E:Value->Shared->Prop}{s:Shared}{d:Addr}
theorem Ui{ys:List (κ×Addr×Value)}{k:κ}{v:Value}(room:N.room A)(qt:N.is s.heap k a)(D:s.heap.DictOfH N d ys)(small:ys.length<=sizeLine)
  (q1:∀ p,atKey ys k=some p->Q p.2 { s with toks:=s.toks+N.draws k }) (q2:atKey ys k=none->∀ g,g.DictOfH N d (ys++[(k,a,v)])->Heap.SameBut d s.heap g->Q v { s with heap:=g,toks:=s.toks+N.draws k }) :
  wpAny (model P w) A (dictSetDefault d (.ref a) v) Q E s:=by
 obtain⟨o,es,ep,e1,e2,e3,e4,e5,e6⟩:=D
 unfold dictSetDefault
 refine Q4 (Qa (N.pyHash room qt (Qa (wpAny_dictFind_heap (s:={ s with toks:=s.toks+N.draws k }) room qt e1 e3 e4 e5 e6 (fun no=>?n) fun j p hj=>?y))))
 case y=>
  refine Qa (ZM (s:={ s with toks:=s.toks+N.draws k }) e1 e3 ?_)
  rw[entry_at e4 j,hj]
  exact Qa (Yu (Qe (q1 p (atKey_of_get e6 hj))))
 case n=>
  have nm:=not_mem_keys_of_get no
  refine Qa (Yu (Qa (wpAny_updateDictKeys (hz:=by rw[YQ e4];exact small) (s:={ s with toks:=s.toks+N.draws k }) e1 e3 (Qe (q2 (atKey_none_of_get no) _ ⟨_,_,ep+1,Zw _ e1 (YW (JM e3 _)),e2.mapDictKeys _,JM e3 _,?a,fun y hy=>?b,?c⟩ (Q1 ..))))))
  case a=>simp[e4,entryOfKey]
  case b=>
   rcases Qx.mp hy with z|z
   ·exact N.keeps (e5 y z) e1 e3 (Q1 ..)
   ·rw[Qq.mp z];exact N.keeps qt e1 e3 (Q1 ..)
  case c=>
   rw[Q3,Jl]
   refine⟨e6,by simp,fun y hy z hz=>?_⟩
   rw[show z=k by simpa using hz]
   exact fun q=>nm (q ▸ hy)
theorem Uj{ys:List (κ×Addr×Value)}{k:κ}{v:Value}{Q:Unit->Shared->Prop}(room:N.room A)(qt:N.is s.heap k a)(D:s.heap.DictOfH N d ys)(small:ys.length<=sizeLine)
  (q:∀ g,g.DictOfH N d (storedH ys k a v)->Heap.SameBut d s.heap g->Q () { s with heap:=g }):wpAny (model P w) A (dictSetHashed d (.ref a) (N.hash k) v) Q E s:=by
 obtain⟨o,es,ep,e1,e2,e3,e4,e5,e6⟩:=D
 unfold dictSetHashed
 refine Q4 (Qa (wpAny_dictFind_heap room qt e1 e3 e4 e5 e6 (fun no=>?n) fun j p hj=>?y))
 case n=>
  have nm:=not_mem_keys_of_get no
  refine Qa (Yu (wpAny_updateDictKeys (hz:=by rw[YQ e4];exact small) e1 e3 (q _ ⟨_,_,ep+1,Zw _ e1 (YW (JM e3 _)),e2.mapDictKeys _,JM e3 _,?a,?b,?c⟩ (Q1 ..))))
  all_goals rw[storedH_new (atKey_none_of_get no)]
  case a=>simp[e4,entryOfKey]
  case b=>
   intro y hy
   rcases Qx.mp hy with z|z
   ·exact N.keeps (e5 y z) e1 e3 (Q1 ..)
   ·rw[Qq.mp z];exact N.keeps qt e1 e3 (Q1 ..)
  case c=>
   rw[Q3,Jl]
   refine⟨e6,by simp,fun y hy z hz=>?_⟩
   rw[show z=k by simpa using hz]
   exact fun q=>nm (q ▸ hy)
 case y=>
  refine Qa (Yu (Qa (wpAny_updateDict e1 e3 (wpAny_point (q _ ⟨_,_,ep,Zw _ e1 (YW (Obj.data_mapDict e3 _)),e2.mapDict _,Obj.data_mapDict e3 _,?a,?b,?c⟩ (Q1 ..))))))
  all_goals rw[storedH_old (atKey_of_get e6 hj)]
  case a=>
   have mm:=modify_map_putAt (entryOfKey N) (fun e:DictEntry=>{ e with val:=v }) k v (fun _ _=>rfl) e6 hj
   rw[<- e4]at mm
   obtain⟨l⟩:=es
   simpa using mm
  case b=>
   intro y hy
   obtain⟨x,hx,rfl⟩:=Qr.mp hy
   unfold putAt
   split<;>exact N.keeps (e5 x hx) e1 e3 (Q1 ..)
  case c=>rw[keys_map_putAt];exact e6
def mD (ys zs:List (κ×Addr×Value)):List (κ×Addr×Value):=zs.foldl (fun acc x=>storedH acc x.1 x.2.1 x.2.2) ys
theorem Uk(ys:List (κ×Addr×Value))(k:κ)(a:Addr)(v:Value):(storedH ys k a v).length<=ys.length+1:=by
 unfold storedH
 split
 ·rw[Qc];exact Jw _
 ·rw[Qn];exact Qi _
theorem G3:∀ (zs ys:List (κ×Addr×Value)),(mD ys zs).length<=ys.length+zs.length
 | [],ys=>Qi _
 | x::zs,ys=>by
  have h1:=G3 zs (storedH ys x.1 x.2.1 x.2.2)
  have h2:=Uk ys x.1 x.2.1 x.2.2
  show(mD (storedH ys x.1 x.2.1 x.2.2) zs).length<=_
  rw[QO];omega
theorem Ul(ys zs:List (κ×Addr×Value))(x:κ×Addr×Value):mD ys (zs++[x])=storedH (mD ys zs) x.1 x.2.1 x.2.2:=by
 unfold mD
 rw[JH]
 rfl
theorem Um{nm:String}{o:Addr}{ys zs:List (κ×Addr×Value)}{Q:Unit->Shared->Prop}(room:N.room A)(ne:d≠o)(so:(o==sysModules)=false)(D:s.heap.DictOfH N d ys)(O:s.heap.DictOfH N o zs)(cC:ys ≠ [])(small:ys.length+zs.length<=sizeLine)
  (q:∀ g,g.DictOfH N d (mD ys zs)->Heap.SameBut d s.heap g->Q () { s with heap:=g }):wpAny (model P w) A (Builtin.Dict.mergeDict nm d o) Q E s:=by
 obtain⟨od,Uo,epd,d1,d2,d3,d4,d5,d6⟩:=id D
 obtain⟨oo,mE,epo,o1,o2,o3,o4,o5,o6⟩:=id O
 have len:mE.size=zs.length:=YQ o4
 unfold Builtin.Dict.mergeDict
 rw[Qk (by simpa using ne)]
 unfold Builtin.Dict.showsAll
 rw[Qk (by rw[so];exact Zi)]
 refine Qa (Qe (Qa (ZM o1 o3 ?_)))
 have loop:wpAny (model P w) A (do
   let e0 <- dictEpoch o
   let Uq <- dictEntries o
   forIn [:Uq.size] PUnit.unit fun j (_:PUnit)=>(do
     let qo <- dictEntries o
     match qo[j]? with
      | some en=>do
       holding [en.key,en.val] (dictSetHashed d en.key en.hash en.val);let e1 <- dictEpoch o
       if(e1 != e0)=true then do
         (unsupported (toString nm++toString ":source-changed-during-callback"):Sem PUnit);pure (ForInStep.yield PUnit.unit)else pure (ForInStep.yield PUnit.unit)
      | _=>do
       (unsupported "internal:dict-merge":Sem PUnit);pure (ForInStep.yield PUnit.unit):Sem (ForInStep PUnit))
   pure ()) Q E s:=by
  refine Qa (J4 o1 o3 (Qa (ZM o1 o3 (Qa ?_))))
  rw[JL]
  simp only[Std.Legacy.Range.size,Ub,Nat.add_sub_cancel,Nat.div_one]
  refine JR _ (fun br _ s'=>∃ g i,s'={ s with heap:=g }/\br=List.range' i (mE.size-i)/\i<=mE.size/\g.DictOfH N d (mD ys (zs.take i))/\Heap.SameBut d s.heap g) _ ?_ ?_ _ _ ⟨s.heap,0,rfl,by simp,QS _,by simpa [mD]using D,Heap.SameBut.refl _ _⟩
  ·rintro x br b s' ⟨g,i,rfl,hr,hi,hd,hs⟩
   have bX:i<mE.size:=by
    rcases VI i mE.size with h|h
    ·exact h
    ·rw[Nat.sub_eq_zero_of_le h]at hr;simp at hr
   have Ur:mE.size-i=(mE.size-(i+1))+1:=by omega
   rw[Ur,Yw]at hr
   injection hr with h1 h2
   subst h1
   have G4:g.get? o=some oo:=(hs.2 o (Jt ne)).trans o1
   refine Qa (ZM (s:={ s with heap:=g }) G4 o3 ?_)
   have hz:zs[x]? = some (zs[x]'(by rw[<- len];exact bX)):=Qb _
   have take1:zs.take (x+1)=zs.take x++[zs[x]'(by rw[<- len];exact bX)]:=by rw[Jm,hz];rfl
   rw[entry_at o4 x,hz]
   have ik:=o5 _ (QC hz)
   generalize zs[x]'(by rw[<- len];exact bX)=y at *
   obtain⟨k,c,v⟩:=y
   have ml:=G3 (zs.take x) ys
   have tl:(zs.take x).length<=zs.length:=by rw[Za];omega
   refine Qa (Q4 (Uj (s:={ s with heap:=g }) room (N.keeps ik d1 d3 hs) hd (by omega) fun g2 hd2 vV=>?_))
   refine Qa (J4 (s:={ s with heap:=g2 }) ((vV.2 o (Jt ne)).trans G4) o3 ?_)
   rw[Qk (by simp)]
   exact Qe ⟨g2,x+1,rfl,h2,bX,by rw[take1,Ul];exact hd2,hs.trans vV⟩
  ·rintro b s' ⟨g,i,rfl,hr,hi,hd,hs⟩
   have jC:i=mE.size:=by
    rcases VI i mE.size with h|h
    ·rw[show mE.size-i=(mE.size-(i+1))+1 by omega,Yw]at hr;exact nomatch hr
    ·exact YM hi h
   refine Qe (q g ?_ hs)
   rw[jC,len,ZG]at hd;exact hd
 dsimp only
 split
 ·refine Qa (ZM d1 d3 ?_)
  split
  next he=>
   have h0:Uo = #[]:=Array.isEmpty_iff.mp he
   have:=YQ d4
   rw[h0]at this
   exact absurd (Zj.mp this.symm) cC
  ·exact loop
 ·exact loop
end
section
variable {P:Program}{w:World}{κ:Type}[DecidableEq κ](N:HeapKind P w κ)(d a:Addr)
theorem Us(hd:(d==sysModules)=false)(v:Value) :
  MeetsIn P w (Builtin.«dict.setdefault» ⟨[.ref d,.ref a,v],[]⟩) (fun A R s=>N.room A.in1/\∃ k ys,N.is s.heap k a/\s.heap.DictOfH N d ys/\ys.length<=sizeLine/\(∀ p,atKey ys k=some p->R (.ok (.ret p.2)) { s with toks:=s.toks+N.draws k }) /\
   (atKey ys k=none->∀ g,g.DictOfH N d (ys++[(k,a,v)])->Heap.SameBut d s.heap g->R (.ok (.ret v)) { s with heap:=g,toks:=s.toks+N.draws k })):=
 .of_wp fun A R s ⟨room,k,ys,qt,D,small,r1,r2⟩=>by
  unfold Builtin.«dict.setdefault»
  refine Qa ?_
  unfold Builtin.Dict.keyAndDefault
  refine Qa (Ys D.typeIs ?_)
  show wpAny _ _ (pure (d,Value.ref a,some v)) _ _ s
  refine Qe ?_
  show wpAny _ _ (if(d==sysModules)=true then _ else(dictSetDefault d (.ref a) v >>= _)) _ _ s
  rw[Qk (by rw[hd];exact Zi)]
  exact Qa (Ui room qt D small (fun p hp=>Qe ⟨p.2,rfl,r1 p hp⟩) fun no g D' hs=>Qe ⟨v,rfl,r2 no g D' hs⟩)
theorem Ut(o:Addr)(cC:d≠o)(ho:(o==sysModules)=false) :
  MeetsIn P w (Builtin.«dict.update» ⟨[.ref d,.ref o],[]⟩) (fun A R s=>N.room A.in1/\∃ ys zs,s.heap.DictOfH N d ys/\s.heap.DictOfH N o zs/\ys ≠ []/\ys.length+zs.length<=sizeLine/\∀ g,g.DictOfH N d (mD ys zs)->Heap.SameBut d s.heap g->R (.ok (.ret .none)) { s with heap:=g }):=
 .of_wp fun A R s ⟨room,ys,zs,D,O,ne,small,r⟩=>by
  unfold Builtin.«dict.update»
  refine Qa ?_
  unfold Builtin.Dict.selfAndRest
  refine Qa (Ys D.typeIs ?_)
  show wpAny _ _ (pure (d,[Value.ref o])) _ _ s
  refine Qe ?_
  show wpAny _ _ (Builtin.Dict.updateFrom "dict.update" d (.ref o) [] .none) _ _ s
  unfold Builtin.Dict.updateFrom
  refine Qa (JP O.typeIs ?_)
  rw[Qk (by decide)]
  refine Qa ?_
  unfold Builtin.Dict.merge
  refine Qa ?_
  ·unfold Builtin.Dict.readDirectly
   refine Qa (Yy O.typeIs isSubtype_dict_dict ?_)
   simp only[Z5,Qt,Zl]
   refine Qa (YK O.typeIs Yn.lookup (Qe ?_))
   simp only[Z6,Zz]
   refine Qa (Qe (Um room cC ho D O ne small fun g D' hs=>?_))
   show wpAny _ _ (Builtin.Dict.addKeywords d [] >>= _) _ _ _
   exact Qa (Qe (Qe ⟨.none,rfl,r g D' hs⟩))
end
def qu (ah more:List (List Key×V)):List (List Key×V):=more.foldl (fun acc kv=>eX acc kv.1 kv.2) ah
theorem G5:∀ (more ah:List (List Key×V)),(qu ah more).length<=ah.length+more.length
 | [],ah=>Qi _
 | p::r,ah=>by
  have h1:=G5 r (eX ah p.1 p.2)
  have h2:=xK ah p.1 p.2
  show(qu (eX ah p.1 p.2) r).length<=_
  rw[QO];omega
theorem KT.Uu:∀ {more:List (List Key×V)} {zs:List (List Key×Addr×Value)} {ah:List (List Key×V)} {ys:List (List Key×Addr×Value)},KT H more zs->KT H ah ys->KT H (qu ah more) (mD ys zs):=by
 intro more zs ah ys r
 induction r generalizing ah ys with
 | nil=>intro q;exact q
 | @cons p q ps qs h t ih=>
  intro r0
  obtain⟨h1,h2,h3⟩:=h
  have:=KT.put r0 p.1 h2 h3
  rw[h1]at this
  show KT H (qu (eX ah p.1 p.2) ps) (mD (storedH ys q.1 q.2.1 q.2.2) qs)
  rw[h1]
  exact ih this
section
variable {X:Cx}{pins:List (Addr×Obj)}{σ:St}{H:Hp}{s:Shared}{a:Addr}{A:Around}{E:Value->Shared->Prop}
theorem Uv{k:List Key}{z:V}{r:Value}(hu:A.units+1<cLine)(I:Inv X pins σ H s)(e:H a=some (.dT ah))(eb:H b=some (.tup (k.map kV)))(hl:ah.length<sizeLine)(rz:bw z r)
  (h1:∀ v u s',fx ah k=some v->Inv X pins σ H s'->bw v u->Q u s') (h2:fx ah k=none->∀ s',Inv X pins σ (upd H a (.dT (ah++[(k,z)]))) s'->Q r s'):wpAny (model X.prog X.w) A (call (.builtin "dict.setdefault") [.ref a,.ref b,r]) Q E s:=by
 obtain⟨zl,hd,xs,rel,dd⟩:=tK I.aB e
 have hz:xs.length<=sizeLine:=by rw[<- Jo rel];exact zl
 have rv:=KT.val rel k
 refine VE YR dd.typeIs PySem.F.entry_dict_setdefault (PySem.F.args_dict_setdefault_3 _ _ _) (Us (tupleKind (hZ X.prog X.w)) a b hd r) ⟨Z9 hu,k,xs,tI I.aB eb,dd,hz,fun p hp=>?_,fun no g lV hs=>?_⟩
 ·rw[hp]at rv
  cases q:fx ah k with
  | none=>rw[q]at rv;exact False.elim rv
  | some v=>
   rw[q]at rv
   exact h1 v _ _ q (I.tok _) rv
 ·rw[no]at rv
  have q:fx ah k=none:=by
   cases q:fx ah k with
   | none=>rfl
   | some v=>rw[q]at rv;exact False.elim rv
  refine h2 q _ ?_
  obtain⟨o',es,ep,g1,g2,g3,g4,_,g6⟩:=lV
  have put:=KT.put rel k eb rz
  rw[Nn _ q,storedH_new no]at put
  refine u5 I (by rw[e];exact True.intro) hs ⟨o',g1⟩ ⟨by rw[Qn];exact hl,hd,_,put.keeps fun c ys ec=>?_,o',es,ep,g1,g2,g3,g4,g6⟩
  rw[aZ (zK ec e (fun z=>nomatch z))]
  exact ec
theorem Uw{more:List (List Key×V)}(hu:A.units+1<cLine)(I:Inv X pins σ H s)(e:H a=some (.dT ah))(eb:H b=some (.dT more))(mq:a≠b)(cC:ah ≠ [])(hl:ah.length+more.length<=sizeLine)
  (h:∀ s',Inv X pins σ (upd H a (.dT (qu ah more))) s'->Q .none s'):wpAny (model X.prog X.w) A (call (.builtin "dict.update") [.ref a,.ref b]) Q E s:=by
 obtain⟨zl,hd,xs,rel,dd⟩:=tK I.aB e
 obtain⟨_,hd2,zs,v8,tw⟩:=tK I.aB eb
 have lx:ah.length=xs.length:=Jo rel
 have lz:more.length=zs.length:=Jo v8
 refine VE Vs dd.typeIs PySem.F.entry_dict_update (PySem.F.args_dict_update_2 _ _) (Ut (tupleKind (hZ X.prog X.w)) a b mq hd2) ⟨Z9 hu,xs,zs,dd,tw,fun q=>cC (Zj.mp (by rw[lx,q];rfl)),by omega,fun g lV hs=>?_⟩
 refine h _ ?_
 obtain⟨o',es,ep,g1,g2,g3,g4,_,g6⟩:=lV
 refine u5 I (by rw[e];exact True.intro) hs ⟨o',g1⟩ ⟨QL (G5 more ah) hl,hd,_,(KT.Uu v8 rel).keeps fun c ys ec=>?_,o',es,ep,g1,g2,g3,g4,g6⟩
 rw[aZ (zK ec e (fun z=>nomatch z))]
 exact ec
end
def Ux (td ty tx:TE):TE:=fun σ H Q=>td σ H fun x H1=>∃ a,x=.ref a/\tL H1 a/\ty σ H1 fun y H2=>tx σ H2 fun z H3=>∃ ah k b,H3 a=some (.dT ah)/\y=.ref b/\H3 b=some (.tup (k.map kV))/\ah.length<sizeLine/\(∀ v,fx ah k=some v->Q v H3)/\(fx ah k=none->Q z (upd H3 a (.dT (ah++[(k,z)]))))
def Uy (td te:TE):TE:=fun σ H Q=>td σ H fun x H1=>∃ a,x=.ref a/\tL H1 a/\te σ H1 fun y H2=>∃ ah more b,y=.ref b/\H2 a=some (.dT ah)/\H2 b=some (.dT more)/\a≠b/\ah ≠ []/\ah.length+more.length<=sizeLine/\Q .bo (upd H2 a (.dT (qu ah more)))
section
variable {X:Cx}{o e f:Expr}{apos az:Pos}{td ty tx:TE}
theorem Uz(hu:X.A.units+1<cLine)(ho:PE X o td)(he:PE X e ty)(hf:PE X f tx)(m:M2 X o "setdefault" apos e f az):PE X (.Call (.Attribute o "setdefault" apos) [e,f] [] az) (Ux td ty tx):=by
 intro pins s σ H Q I h
 refine Vi m.base m.dM m.line J9 YR PySem.F.type_dict_setdefault (aW (ho pins s σ H _ I h) fun u s1 ai=>?_)
 obtain⟨x,H1,I1,rx,a,ex,d,q1⟩:=ai
 subst ex
 obtain rfl:u=Value.ref a:=rx
 obtain⟨t1,t2,_⟩:=AB I1 d
 refine⟨t1,t2,?_⟩
 rw[m.trees]
 refine Jy rfl (JI (Z7 (aW (he pins s1 σ H1 _ I1 q1) fun iv s2 ⟨y,H2,I2,ry,q2⟩=>
  Z7 (aW (hf pins s2 σ H2 _ I2 q2) fun fv s3 UA=>Yd ?_))))
 obtain⟨z,H3,I3,rz,ah,k,b,e1,ey,e2,hl,k1,k2⟩:=UA
 subst ey
 obtain rfl:iv=Value.ref b:=ry
 exact Uv hu I3 e1 e2 hl rz (fun v u s' q I' ru=>⟨v,H3,I',ru,k1 v q⟩) fun q s' I'=>⟨z,_,I',rz,k2 q⟩
theorem UB(hu:X.A.units+1<cLine)(ho:PE X o td)(he:PE X e ty)(m:M1 X o "update" apos e az):PE X (.Call (.Attribute o "update" apos) [e] [] az) (Uy td ty):=by
 intro pins s σ H Q I h
 refine Vi m.base m.dM m.line J9 Vs PySem.F.type_dict_update (aW (ho pins s σ H _ I h) fun u s1 ai=>?_)
 obtain⟨x,H1,I1,rx,a,ex,d,q1⟩:=ai
 subst ex
 obtain rfl:u=Value.ref a:=rx
 obtain⟨t1,t2,_⟩:=AB I1 d
 refine⟨t1,t2,?_⟩
 rw[m.trees]
 refine Jy rfl (JI (Z7 (aW (he pins s1 σ H1 _ I1 q1) fun iv s2 UC=>Yd ?_)))
 obtain⟨y,H2,I2,ry,ah,more,b,ey,e1,e2,mq,cC,hl,q2⟩:=UC
 subst ey
 obtain rfl:iv=Value.ref b:=ry
 exact Uw hu I2 e1 e2 mq cC hl fun s' I'=>⟨.bo,_,I',rfl,q2⟩
end
section
variable {X:Cx}
theorem UD(hc:X.calm=true):jt X (.type "list") (fun xs H Q=>∃ t ah,xs=[.ref t]/\H t=some (.dT ah)/\ah.length<=1000 /\
  ∀ (p:Addr) (bs:List Addr),H p=none->bs.length=ah.length->(∀ (i:Nat) (b:Addr),bs[i]? = some b->∃ k v,ah[i]? = some (k,v)/\H b=some (.tup (k.map kV)))->Q (.ref p) (upd H p (.lst (bs.map V.ref)))):=by
 intro pins s σ H xs us Q I r hh
 obtain⟨t,ah,rfl,hq,dM,q⟩:=hh
 obtain⟨u,rfl,ru⟩:=j4 r
 cases ru
 obtain⟨_,lo,zs,kt,o,es,ep,ho,hx,hd,he,_,_⟩:=tK I.aB hq
 have lz:ah.length=zs.length:=Jo kt
 have len:es.size=zs.length:=by rw[<- QN,he,Qc]
 refine kdl_call (GX lo hx.1 hd) (I.ok.hd hc) ho (YG (by rw[len,<- lz];omega)) fun h' tk acc c hk hg hit=>?_
 obtain⟨hn,cq⟩:=hit
 have ea:acc.toList=(zs.map (·.2.1)).map Value.ref:=by
  apply Zt
  intro i
  rw[Ql,Ql,Q5]
  by_cases hi:i<zs.length
  ·have h1:acc[i]? = some (acc[i]'(by rw[hn,len];exact hi)):=Zd _
   obtain⟨e',q1,q2⟩:=cq i _ h1
   rw[<- Q5,he,Ql,Qb hi]at q1
   cases q1
   rw[h1,q2,Qb hi]
   rfl
  ·rw[QK (VG.mp hi),Z4 (by rw[hn,len];exact VG.mp hi)]
   rfl
 refine⟨.ref s.heap.objs.size,_,I.laid (a:=s.heap.objs.size) (o:=.lst ((zs.map (·.2.1)).map V.ref)) (t':=tk) hk (Qi _) ⟨YG (by rw[Qc,Qc];omega),(zs.map (·.2.1)).map Value.ref,c,vT _,?_⟩,rfl,q _ (zs.map (·.2.1)) (I.aB.fresh (Qi _)) (by rw[Qc];exact lz.symm) fun i b hb=>?_⟩
 ·rw[<- ea]
  exact hg
 ·rw[Ql,Qv]at hb
  obtain⟨y,hy,rfl⟩:=hb
  have key:∀ {ah:List (List Key×V)} {zs:List (List Key×Addr×Value)},KT H ah zs->∀ (i:Nat) y,zs[i]? = some y->∃ k v,ah[i]? = some (k,v)/\H y.2.1=some (.tup (k.map kV)):=by
   intro ah zs r
   induction r with
   | nil=>intro i y h;simp at h
   | @cons p q ps qs h t ih=>
    intro i y hy
    cases i with
    | zero=>cases hy;exact⟨p.1,p.2,rfl,h.2.1⟩
    | succ i=>exact ih i y hy
  exact key kt i y hy
end
def kD:Key->D
 | .inl i=>.int i
 | .inr x=>.str x
def y_ (k:List Key):D:=.tup (k.map kD)
section
variable {K:PySem.W.Frag}{H:Hp}{w:Wn}{o:Ow}
theorem UE(k:Key):Rep K H w o 0 (kD k) (kV k) []:=by
 cases k with
 | inl i=>exact .int i
 | inr x=>exact .str x
theorem G6:∀ k:List Key,ae K H w o 0 (k.map kD) (k.map kV) []
 | []=>.nil
 | k::ks=>.r_ (UE k) (G6 ks)
theorem G7:∀ {ks:List (List Key)} {bs:List Addr},bs.length=ks.length->(∀ (i:Nat) (b:Addr) (k:List Key),bs[i]? = some b->ks[i]? = some k->H b=some (.tup (k.map kV)))->ae K H w o 0 (ks.map y_) (bs.map V.ref) []
 | [],[],_,_=>.nil
 | k::ks,b::bs,h,e=>.r_ (.tup (e 0 b k rfl rfl) (G6 k)) (G7 (JC h) fun i c l h1 h2=>e (i+1) c l h1 h2)
end
def mH (acc:List (List Key)×List D)(x:List Key×D):List (List Key)×List D:=if ko acc.1 x.1=true then(acc.1,iY acc.1 acc.2 x.1 x.2)else(acc.1++[x.1],acc.2++[x.2])
def lF (ks:List (List Key))(ds:List D)(bO:List (List Key))(ck:List D):List (List Key)×List D:=(bO.zip ck).foldl mH (ks,ds)
theorem UG{acc:List (List Key)×List D}{x:List Key×D}(h:acc.1.length=acc.2.length):(mH acc x).1.length=(mH acc x).2.length:=by
 unfold mH
 split
 ·exact h.trans (yW x.1 x.2 h).symm
 ·show(acc.1++[x.1]).length=(acc.2++[x.2]).length
  rw[Qn,Qn,h];rfl
theorem UH:∀ {bO:List (List Key)} {ck:List D} {eS:List V} {ks:List (List Key)} {ds:List D} {vs:List V},bO.length=ck.length->ae K H w o 0 ck eS []->ks.length=ds.length->ae K H w o 0 ds vs []->
  ∃ us,qu (ks.zip vs) (bO.zip eS)=(lF ks ds bO ck).1.zip us/\(lF ks ds bO ck).1.length=(lF ks ds bO ck).2.length/\ae K H w o 0 (lF ks ds bO ck).2 us []:=by
 intro bO
 induction bO with
 | nil=>intro ck eS ks ds vs _ _ hl r;exact⟨vs,rfl,hl,r⟩
 | cons k bO ih=>
  intro ck eS ks ds vs iy r' hl r
  cases ck with
  | nil=>cases iy
  | cons d ck=>
   obtain⟨v,UI,rfl,r1,s1⟩:=r'.split
   have lv:=r.length
   have e:eX (ks.zip vs) k v=(mH (ks,ds) (k,d)).1.zip (if ko ks k=true then iY ks vs k v else vs++[v])/\ae K H w o 0 (mH (ks,ds) (k,d)).2 (if ko ks k=true then iY ks vs k v else vs++[v]) []:=by
    rw[Ck k v ks vs (by omega)]
    unfold mH
    by_cases hk:ko ks k=true
    ·rw[Qj hk,Qj hk,Qj hk]
     exact⟨rfl,yY k r1 r⟩
    ·rw[Qk hk,Qk hk,Qk hk]
     exact⟨rfl,ae.snoc (F:=[]) (G:=[]) r1 r nM⟩
   obtain⟨us,u1,u2,u3⟩:=ih (JC iy) s1 (UG (acc:=(ks,ds)) (x:=(k,d)) hl) e.2
   refine⟨us,?_,u2,u3⟩
   show qu (eX (ks.zip vs) k v) (bO.zip UI)=_
   rw[e.1]
   exact u1
def si (i:Nat)(fk fz:aA):aA:=fun ρ=>if dw ρ[i]? = true then match fk ρ with
 | some (x,_,ρ1)=>match fz ρ1 with
  | some (z,_,ρ2)=>match ρ2[i]? with
   | some (some (.mp (.t ks) ds,1))=>if ds.length<1000 then match ub x with
    | some y=>match vL ks ds y with
     | some d=>some (d,fy d,ρ2)
     | none=>some (z,fy z,ρ2.set i (some (.mp (.t (ks++[y])) (ds++[z]),1)))
    | none=>none
    else none
   | _=>none
  | none=>none
 | none=>none
 else none
def za (i j:Nat):aA:=fun ρ=>match ρ[i]? with
 | some (some (.mp (.t ks) ds,1))=>match ρ[j]? with
  | some (some (.mp (.t bO) ck,_))=>if i≠j/\ds ≠ []/\ds.length<=400/\ck.length<=400 then some (.bo,9,ρ.set i (some (.mp (.t (lF ks ds bO ck).1) (lF ks ds bO ck).2,1)))else none
  | _=>none
 | _=>none
def ud (i:Nat):aA:=fun ρ=>match ρ[i]? with
 | some (some (.mp (.t ks) ds,_))=>if ks.length<=1000 then some (.lst (ks.map y_),1,ρ)else none
 | _=>none
def zb (fa:aA)(i:Nat):aA:=fun ρ=>match fa ρ with
 | some (x,_,ρ1)=>match ρ1[i]? with
  | some (some (.mp k ds,_))=>match se k ds x with
   | some r=>some (.bl (!r.isSome),9,ρ1)
   | none=>none
  | _=>none
 | none=>none
def zc (i:Nat):aH:=fun ρ=>match ρ[i]? with
 | some (some (d,q))=>some (.rt d q)
 | _=>none
def v_ (fa:aA):aA:=fun ρ=>match fa ρ with
 | some (.mp (.t ks) ds,_,ρ1)=>match sh ks with
  | some kp=>if kp.length<64 then some (.lst ((dH kp).map ao),1,ρ1)else none
  | none=>none
 | _=>none
section
variable {X:Cx}{a b c e:Expr}{fa fb fc f:aA}{p p1 p2 pos pos' az apos:Pos}{x y:Str}{i j:Nat}
theorem UJ{k:Nat}(hr:a_ k X.A)(h:QE X (.Name x p1) (eV i))(hk:QD X b fb)(hz:QD X c fc)(cA:attributeBase (.Name x p1) "setdefault" X.env (eval (.Name x p1) X.env)=eval (.Name x p1) X.env:=by rfl)(dY:((backTo az (starEach [b,c] X.env)).all (fun x=>!x.1)&&(backToKw az (keywordEach [] X.env)).all (fun x=>x.1.isSome)
   && decide (([b,c]:List Expr).length+([]:List Keyword).length+(if([]:List Keyword).isEmpty then 0 else 1)<30))=true:=by rfl) (cB:(apos.endLine==az.line)=true:=by rfl) (vz:backTo az (starEach [b,c] X.env)=[(false,eval b X.env),(false,eval c X.env)]:=by rfl):QD X (.Call (.Attribute (.Name x p1) "setdefault" apos) [b,c] [] az) (si i fb fc):=⟨have h:=h.o;have hk:=hk.o;have hz:=hz.o;PE.imp (Uz (tF hr) h hk hz ⟨cA,dY,cB,vz⟩) fun σ H Q ai=>by
 obtain⟨ρ,w,t,r',q,ρ',gd,ee,kk⟩:=ai
 unfold si at ee
 split at ee
 next hd=>
  obtain⟨l,cX,UK⟩:=gd.dw hd
  split at ee
  next x0 q1 ρ1 h1=>
   split at ee
   next z0 q3 ρ2 h2=>
    split at ee
    next ks ds e1=>
     split at ee
     next dM=>
      split at ee
      next y0 hy=>
       refine⟨_,cX,l,rfl,UK,ρ,w,t,_,_,_,gd,h1,fun y H1 w1 F1 g1 aJ r1=>⟨ρ1,w1,t+1,_,_,_,g1,h2,fun zv H2 w2 F2 g2 bY r2=>?_⟩⟩
       have gg:=g2.drop (t':=t)
       obtain⟨l',vs,z,cT,hH,gT,hlen,rs,mk⟩:=gg.sg e1
       rw[cX]at cT
       cases cT
       cases gT
       have hlen:ks.length=ds.length:=hlen
       have lv:=rs.length
       obtain⟨b0,rfl,UL⟩:=Cn hy (r1.gone g1.wl bY)
       have rz:=r2.drop (o:=.f) (t':=t) (by omega)
       obtain⟨v1,v2⟩:=yX y0 (ks:=ks) rs
       refine⟨_,y0,b0,hH,rfl,UL,by rw[ZZ,<- lv,hlen,JB];exact lh (ZI dM),fun v hv=>?_,fun hv=>?_⟩
       ·rw[vZ]at hv
        split at ee
        next d jq=>
         cases ee
         obtain⟨v',e',rd⟩:=v1 _ jq
         rw[e']at hv
         cases hv
         exact ou kk gd g2 (aJ.trans bY) (rd.any gg.wl).jw
        next hn=>
         rw[v2 hn]at hv
         cases hv
       ·rw[vZ]at hv
        split at ee
        next d jq=>
         obtain⟨v',e',rd⟩:=v1 _ jq
         rw[e']at hv
         cases hv
        ·cases ee
         obtain⟨m1,m2⟩:=mk (.t (ks++[y0])) (ds++[r']) (vs++[zv]) (.dT ((ks++[y0]).zip (vs++[zv]))) rfl (by show(ks++[y0]).length=_;rw[Qn,Qn,hlen];rfl) (ae.snoc (F:=[]) (G:=[]) rz rs nM)
         rw[VN (by omega)]at m1 m2
         have yF:Rep X.K _ _ (.t t) 0 r' zv []:=Rep.go gg.wl m2.bJ rz nM
         exact kk zv _ _ [] m1.up (((aJ.trans bY).drop gd.wt).trans m2) yF.jw
      ·cases ee
     ·cases ee
    ·cases ee
   ·cases ee
  ·cases ee
 ·cases ee⟩
theorem UM{k:Nat}(hr:a_ k X.A)(h:QE X (.Name x p1) (eV i))(h':QE X (.Name y p2) (eV j))(cA:attributeBase (.Name x p1) "update" X.env (eval (.Name x p1) X.env)=eval (.Name x p1) X.env:=by rfl)(dY:((backTo az (starEach [.Name y p2] X.env)).all (fun x=>!x.1)&&(backToKw az (keywordEach [] X.env)).all (fun x=>x.1.isSome)
   && decide (([.Name y p2]:List Expr).length+([]:List Keyword).length+(if([]:List Keyword).isEmpty then 0 else 1)<30))=true:=by rfl) (cB:(apos.endLine==az.line)=true:=by rfl) (vz:backTo az (starEach [.Name y p2] X.env)=[(false,eval (.Name y p2) X.env)]:=by rfl):QD X (.Call (.Attribute (.Name x p1) "update" apos) [.Name y p2] [] az) (za i j):=⟨have h:=h.o;have h':=h'.o;PE.imp (UB (tF hr) h h' ⟨cA,dY,cB,vz⟩) fun σ H Q ai=>by
 obtain⟨ρ,w,t,r',q,ρ',gd,ee,kk⟩:=ai
 unfold za at ee
 split at ee
 next ks ds e1=>
  split at ee
  next bO ck q2 e2=>
   split at ee
   next hc=>
    cases ee
    obtain⟨l,vs,z,cX,hH,gT,hlen,rs,mk⟩:=gd.sg e1
    cases gT
    have hlen:ks.length=ds.length:=hlen
    have lv:=rs.length
    obtain⟨v',F',s1,s2⟩:=gd.slot j _ _ e2
    obtain⟨l',eS,z',rfl,UN,Cq,kr,oI⟩:=s2.sf
    cases Cq
    have kr:bO.length=ck.length:=kr
    have UO:=oI.length
    have cC:l≠l':=fun q=>by
     subst q
     obtain⟨v1,F1,t1,t2⟩:=gd.slot i _ _ e1
     rw[cX]at t1
     cases t1
     have w1:w l=some (.s i):=t2.aE l (by cases t2;exact Qq.mpr rfl)
     cases s2 with
     | nu _ _ hn _ _=>rw[hn]at w1;cases w1
     | kK _ _ hw _ _=>rw[hw]at w1;cases w1;exact hc.1 rfl
    refine⟨_,cX,l,rfl,.inr ⟨_,.inl hH⟩,_,s1,_,_,l',rfl,hH,UN,cC,fun q=>?_,?_,?_⟩
    ·have:(ks.zip vs).length=0:=by rw[q];rfl
     rw[ZZ,<- lv,hlen,JB]at this
     exact hc.2.1 (Zj.mp this)
    ·rw[ZZ,ZZ,<- lv,<- UO,hlen,kr,JB,JB]
     exact ZI (lh (by omega))
    ·obtain⟨us,u1,u2,u3⟩:=UH kr (oI.any gd.wl) hlen rs
     rw[u1]
     obtain⟨m1,m2⟩:=mk (.t (lF ks ds bO ck).1) _ us _ rfl u2 u3
     exact kk .bo _ w [] m1.up m2 .bo
   ·cases ee
  ·cases ee
 ·cases ee⟩
theorem G8(hc:X.calm=true)(hm:X.mg "list" = none)(hb:bootBuiltins "list" = some (.type "list"))(h:QE X (.Name x p1) (eV i))(hg:Gl X "list":=by rfl)(he:starEach [.Name x p1] X.env=(false,eval (.Name x p1) X.env)::starEach [] X.env:=by rfl)(bS:(backTo pos (starEach [] X.env)).any (·.1)=false:=by rfl):QD X (.Call (.Name "list" p) [.Name x p1] [] pos) (ud i):=⟨have h:=h.o;PE.imp (pJ (UD hc) hg hm hb (i8 h j5 he) (by decide) (by decide) he bS) fun σ H Q ai=>by
 obtain⟨ρ,w,t,r',q,ρ',gd,ee,k⟩:=ai
 unfold ud at ee
 split at ee
 next ks ds q0 e0=>
  split at ee
  next hl=>
   cases ee
   obtain⟨l,vs,z,cX,hH,gT,hlen,rs⟩:=gd.kq e0
   cases gT
   have hlen:ks.length=ds.length:=hlen
   have lv:=rs.length
   have lz:(ks.zip vs).length=ks.length:=by rw[ZZ,<- lv,hlen,JB]
   refine⟨_,cX,l,_,rfl,hH,by rw[lz];exact hl,fun p bs hp lb BZ=>?_⟩
   obtain⟨a1,a2,a3⟩:=lj gd hp (G7 (by rw[lb,lz]) fun n b k h1 h2=>by
    obtain⟨k',v',e1,e2⟩:=BZ n b h1
    have:((ks.zip vs).map (·.1))[n]? = some k':=by rw[Ql,e1];rfl
    rw[VA (by omega),h2]at this
    cases this
    exact e2)
   exact k _ _ _ _ a1 a2 a3
  ·cases ee
 ·cases ee⟩
theorem UP{k:Nat}(hr:a_ k X.A)(ha:QD X a fa)(hb:QE X (.Name x p1) (eV i))(hm:behindInMarks .NotIn (.Name x p1)=false:=by with_unfolding_all rfl):iS X (.Compare a [.NotIn] [.Name x p1] pos) (bB (zb fa i)):=⟨have ha:=ha.o;have hb:=hb.o;PT.imp (Lf (NB (tF hr) ha hb) hm) fun σ H Q ai=>by
 obtain⟨ρ,w,t,b',ρ',gd,ee,k⟩:=ai
 unfold bB zb at ee
 split at ee
 next b2 q2 ρ2 e0=>
  cases ee
  split at e0
  next x0 q0 ρ1 h1=>
   split at e0
   next k0 ds q1 e1=>
    split at e0
    next r hg=>
     cases e0
     refine⟨ρ,w,t,_,_,_,gd,h1,fun v H1 w1 F g1 aJ r1=>?_⟩
     have gg:=g1.drop (t':=t)
     obtain⟨l,vs,z,cX,hH,gT,_,rs⟩:=gg.kq e1
     obtain⟨rv,dg,v1,v2⟩:=G0 hH gT rs r1 hg
     refine⟨_,cX,l,rv,rfl,dg,_,rfl,?_⟩
     have:rv.isSome=r.isSome:=by
      cases r with
      | none=>rw[v2 rfl];rfl
      | some d=>obtain⟨v',rfl,_⟩:=v1 d rfl;rfl
     rw[this]
     exact k H1 _ gg (aJ.drop gd.wt)
    ·cases e0
   ·cases e0
  ·cases e0
 ·cases ee⟩
theorem G9(h:QE X (.Name x p1) (eV i)):jN X (.Return (some (.Name x p1)) pos) (zc i):=⟨have h:=h.o;PS.imp (D0 h) fun Dn σ H ai=>by
 obtain⟨ρ,w,o,gd,ee,k⟩:=ai
 unfold zc at ee
 split at ee
 next d q e=>
  cases ee
  obtain⟨v,F,h1,h2⟩:=gd.slot i _ _ e
  refine⟨v,h1,?_⟩
  have ow:=h2.aE
  have st:dh H w H (fun a=>if a∈F then some (.t 0)else w a):=fun a x e n=>⟨sm e,by
   show(if a∈F then _ else _)=_
   rw[Qk fun m=>by rw[ow a m]at n;cases n]
   exact n⟩
  refine k v H (fun a=>if a∈F then some (.t 0)else w a) F ⟨fun a o e=>?_,gd.wl.tb⟩ ⟨st,fun a o e cC=>⟨rfl,?_⟩⟩ (Rep.go gd.wl st h2 fun a m=>⟨rfl,Qj m⟩)
  ·have e:(if a∈F then some (Ow.t 0)else w a)=some o:=e
   split at e
   ·rename_i m;exact gd.wl a _ (ow a m)
   ·exact gd.wl a _ e
  ·show(if a∈F then _ else _)=_
   rw[Qk fun m=>by rw[ow a m]at e;cases e;exact cC i rfl]
   exact e
 ·cases ee⟩
theorem UQ(hc:X.calm=true)(hm:X.mg "sorted" = none)(ha:QD X a fa)(vU:bootBuiltins "sorted" = some (.builtin "sorted"):=by kernel_rfl)(hg:Gl X "sorted":=by rfl)(hs:starEach [a] X.env=(false,eval a X.env)::starEach [] X.env:=by rfl)(bS:(backTo pos (starEach [] X.env)).any (·.1)=false:=by rfl):QD X (.Call (.Name "sorted" p) [a] [] pos) (v_ fa):=⟨have ha:=ha.o;by
 refine PE.imp (n9 (T4 hc) hg hm vU (i8 ha j5 hs) (by decide) (by decide) hs bS) fun σ H Q ai=>?_
 obtain⟨ρ,w,t,r',q,ρ',gd,ee,k⟩:=ai
 unfold v_ at ee
 split at ee
 next ks ds q1 ρ1 e1=>
  split at ee
  next kp hp=>
   split at ee
   next kT=>
    cases ee
    refine⟨ρ,w,t,_,_,_,gd,e1,fun v H1 w1 F1 g1 aJ r1=>?_⟩
    obtain⟨l,vs,z,rfl,hH,gT,hl,rs⟩:=r1.sf
    cases gT
    obtain⟨ek,dW⟩:=T9 hp
    refine⟨l,_,kp,rfl,hH,?_,kT,dW,fun l bO cs hl pm so vW=>?_⟩
    ·rw[VA (by have:ks.length=ds.length:=hl;have:=rs.length;omega)]
     exact ek
    ·have es:=Ci dW pm so
     subst es
     obtain⟨a1,a2,a3⟩:=lj (g1.drop (t':=t)) hl (yV vW)
     exact k _ _ _ _ a1 ((aJ.drop gd.wt).trans a2) a3
   ·cases ee
  ·cases ee
 ·cases ee⟩
end
theorem Rep.Cr(hl:H l=some z)(hz:(∀ xs,z ≠ .lst xs)/\∀ ob u,z ≠ .fF ob u)(n:∀ a,a≠l->w a=none->w' a=none):∀ {q:Nat} {d:D} {v:V} {F:List Addr},Rep K H w o q d v F->gJ d=true->(∀ a∈F,w' a=some o')->Rep K H w' o' q d v F:=by
 intro q d v F r
 refine Rep.rec (motive_1:=fun q d v F _=>gJ d=true->(∀ a∈F,w' a=some o')->Rep K H w' o' q d v F) (motive_2:=fun q ds vs F _=>kg ds=true->(∀ a∈F,w' a=some o')->ae K H w' o' q ds vs F) ?_ ?_ ?_ ?_ ?_ ?_ ?_ ?_ ?_ ?_ ?_ ?_ ?_ ?_ ?_ r
 ·intro q _ _;exact .bo
 ·intro q b _ _;exact .bl b
 ·intro q i _ _;exact .int i
 ·intro q x _ _;exact .str x
 ·intro q a vs ds h r ih hn _;exact .tup h (ih (by unfold gJ at hn;exact hn) nM)
 ·intro q a ks vs ds h e r ih hn _;cases hn
 ·intro q a nm ob u h x n hn _;cases hn
 ·intro q f c fo oc u u' vs ds h1 h2 x r ih hn _;cases hn
 ·intro a vs ds h r ih hn _;exact .kl h (ih (by unfold gJ at hn;exact hn) nM)
 ·intro a vs ds h e r ih hn _
  refine .shr h (n a (fun q=>?_) e) (ih (by unfold gJ at hn;exact hn) nM)
  subst q
  rcases h with h|⟨ob,h⟩
  ·rw[hl]at h;exact hz.1 _ (QH h)
  ·rw[hl]at h;exact hz.2 _ _ (QH h)
 ·intro q a vs ds F h e r ne ih hn k;exact .own h (k _ Qh) (ih (by unfold gJ at hn;exact hn) fun a m=>k a (Qg _ m)) ne
 ·intro a vs ds k x h i e l r ih hn _;cases hn
 ·intro q a vs ds k x h i e l r ih hn _;cases hn
 ·intro q _ _;exact .nil
 ·intro q d v ds vs F G r s ne l0 l3 hn k
  unfold kg at hn
  exact .cons (l0 (Q9.mp hn).1 fun a m=>k a (Qu _ m)) (l3 (Q9.mp hn).2 fun a m=>k a (Qo _ m)) ne
def zd:Nat->D->Bool
 | 0,d=>gJ d
 | _+1,.mp _ ds=>kg ds
 | _+1,d=>gJ d
theorem Rep.Cs(hl:H l=some z)(hz:(∀ xs,z ≠ .lst xs)/\∀ ob u,z ≠ .fF ob u)(n:∀ a,a≠l->w a=none->w' a=none)(r:Rep K H w o q d v F)(hd:zd q d=true)(k:∀ a∈F,w' a=some o'):Rep K H w' o' q d v F:=by
 cases q with
 | zero=>exact Rep.Cr hl hz n r hd k
 | succ q=>
  cases d with
  | mp mk ds=>
   cases r with
   | kK h i e le rs=>
    refine .kK h i (k _ (Qq.mpr rfl)) le ?_
    have hd:kg ds=true:=hd
    have key:∀ {ds:List D} {vs:List V},kg ds=true->ae K H w o 0 ds vs []->ae K H w' o' 0 ds vs []:=by
     intro ds
     induction ds with
     | nil=>intro vs _ r;rw[r.oT];exact .nil
     | cons d ds ih=>
      intro vs hn r
      obtain⟨v,us,rfl,r1,s⟩:=r.split
      unfold kg at hn
      exact .r_ (Rep.Cr hl hz n r1 (Q9.mp hn).1 nM) (ih (Q9.mp hn).2 s)
    exact key hd rs
  | _=>exact Rep.Cr hl hz n r hd k
theorem UR{H':Hp}{t:Nat}{Fo:List Addr}(g:Good K ρ σ H w t)(hl:H l=some z)(hw:w l=some (.s i))(hz:(∀ xs,z ≠ .lst xs)/\(∀ ob u,z ≠ .fF ob u))(US:oq z=false)
  (go:Go H (fun a=>if a=l then none else(w a).map fun _=>Ow.f) H' w') (pU:WL K w' H') (r:Rep K H' w' (.t 0) q d v Fo) (hd:zd q d=true) :
  Good K ρ σ H' (fun a=>if a∈Fo then some (.t t)else w a) (t+1)/\Go H w H' (fun a=>if a∈Fo then some (.t t)else w a)/\Rep K H' (fun a=>if a∈Fo then some (.t t)else w a) (.t t) q d v Fo:=by
 obtain⟨s1,s2⟩:=go.bJ l z hl (Qj rfl)
 have iy:H' l=some z:=s1.eq US
 have kf:∀ a o,w a=some o->H' a=H a:=fun a o e=>by
  by_cases ha:a=l
  ·rw[ha,iy,hl]
  ·exact(go.keep a .f (by show(if a=l then none else(w a).map _)=_;rw[Qk ha,e];rfl) (fun _ z=>nomatch z)).1
 have kw:∀ a o,w a=some o->a≠l->w' a=some .f:=fun a o e ha=>(go.keep a .f (by show(if a=l then none else(w a).map _)=_;rw[Qk ha,e];rfl) (fun _ z=>nomatch z)).2
 have nf:∀ a x,H a=some x->a ∉ Fo:=fun a x e m=>by
  have h1:=r.aE a m
  by_cases ha:a=l
  ·rw[ha,s2]at h1;cases h1
  ·cases ew:w a with
   | none=>
    have:=(go.bJ a x e (by show(if a=l then none else(w a).map _)=_;rw[Qk ha,ew];rfl)).2
    rw[h1]at this;cases this
   | some o=>rw[kw a o ew ha]at h1;cases h1
 have nw:∀ a o,w a=some o->a ∉ Fo:=fun a o e=>by obtain⟨vs,q⟩:=g.wl a o e;exact nf a _ q
 have st:dh H w H' (fun a=>if a∈Fo then some (.t t)else w a):=fun a x e n=>by
  have ha:a≠l:=fun q=>by rw[q,hw]at n;cases n
  refine⟨(go.bJ a x e (by show(if a=l then none else(w a).map _)=_;rw[Qk ha,n];rfl)).1,?_⟩
  show(if a∈Fo then _ else _)=_
  rw[Qk (nf a x e)];exact n
 have wv:∀ a o,(if a∈Fo then some (Ow.t t)else w a)=some o->(a∈Fo/\o=.t t)\/w a=some o:=fun a o e=>by
  split at e
  ·cases e;exact .inl ⟨by assumption,rfl⟩
  ·exact .inr e
 refine⟨⟨⟨fun a o e=>?_,pU.tb⟩,fun a i e=>?_,fun a i e=>?_,g.len,fun i d q e=>?_⟩,⟨st,fun a o e _=>⟨kf a o e,by show(if a∈Fo then _ else _)=_;rw[Qk (nw a o e)];exact e⟩⟩,?_⟩
 ·rcases wv a o e with⟨m,_⟩|z
  ·exact pU a _ (r.aE a m)
  ·obtain⟨vs,h⟩:=g.wl a o z
   exact⟨vs,(kf a o z).trans h⟩
 ·rcases wv a _ e with⟨_,z⟩|z
  ·cases z
  ·exact g.ws a i z
 ·rcases wv a _ e with⟨_,z⟩|z
  ·cases z;exact Zv _
  ·exact Zk (g.wt a i z)
 ·obtain⟨v,F,h1,h2⟩:=g.slot i d q e
  refine⟨v,F,h1,Rep.go g.wl st h2 fun a m=>⟨kf a _ (h2.aE a m),?_⟩⟩
  show(if a∈Fo then _ else _)=_
  rw[Qk (nw a _ (h2.aE a m))]
  exact h2.aE a m
 ·refine Rep.Cs iy hz (fun a ha n=>?_) r hd fun a m=>Qj m
  show(if a∈Fo then _ else _)=_
  rw[Qk (fun m=>by have:=r.aE a m;rw[n]at this;cases this)]
  cases ew:w a with
  | none=>rfl
  | some o=>have:=kw a o ew ha;rw[n]at this;cases this
def wa (F:List D->OD)(i:Nat)(f0 f2:aA):aA:=fun ρ=>match f0 ρ with
 | some (d0,_,qw)=>if dw qw[i]? = true then match f2 qw with
  | some (d2,_,ρ2)=>match ρ2[i]? with
   | some (some (.mp k ds,1))=>match F [d0,.mp k ds,d2]with
    | some (r,q)=>if zd q r=true then some (r,q,ρ2)else none
    | none=>none
   | _=>none
  | none=>none
  else none
 | none=>none
section
variable {X:Cx}{a b c e:Expr}{fa fb fc f:aA}{p p1 p2 pos pos' az apos:Pos}{x y:Str}{i j:Nat}
theorem MK.UT{k:MK}(h:k.Is K vs z):(∀ xs,z ≠ .lst xs)/\∀ ob u,z ≠ .fF ob u:=by
 cases k with
 | t ks=>cases h;exact⟨(fun _ z=>nomatch z),(fun _ _ z=>nomatch z)⟩
 | k ks=>cases h;exact⟨(fun _ z=>nomatch z),(fun _ _ z=>nomatch z)⟩
 | i C fs=>obtain⟨dx,rfl,_⟩:=h;exact⟨(fun _ z=>nomatch z),(fun _ _ z=>nomatch z)⟩
theorem UU{j k:Nat}{F:List D->OD}(C:ay X.prog X.w X.K X.mg X.base k x 3 F)(hr:a_ j X.A)(hk:k<=j)(ha:QD X a fa)(hv:QE X (.Name y p1) (eV i))(hc:QD X c fc)(hg:Gl X x:=by rfl)(lO:(x==("__debug__":Str))=false:=by decide)(s0:starEach [a,.Name y p1,c] X.env=(false,eval a X.env)::starEach [.Name y p1,c] X.env:=by rfl)(s1:starEach [.Name y p1,c] X.env=(false,eval (.Name y p1) X.env)::starEach [c] X.env:=by rfl)(s2:starEach [c] X.env=(false,eval c X.env)::starEach [] X.env:=by rfl)(bS:(backTo pos (starEach [.Name y p1,c] X.env)).any (·.1)=false:=by rfl):QD X (.Call (.Name x p) [a,.Name y p1,c] [] pos) (wa F i fa fc):=⟨have ha:=ha.o;have hv:=hv.o;have hc:=hc.o;by
 obtain⟨fn,fd,ps,G,hm,Bz,hb⟩:=C
 refine PE.imp (Ee G (hr.mono hk) hg hm Bz hb .nil ED (i8 ha (i8 hv (i8 hc j5 s2) s1) s0) lO s0 bS) fun σ H Q ai=>?_
 obtain⟨ρ,w,t,r',q,ρ',gd,ee,kk⟩:=ai
 unfold wa at ee
 split at ee
 next d0 q0 qw h0=>
  split at ee
  next hd=>
   split at ee
   next d2 q2 ρ2 h2=>
    split at ee
    next k0 ds e1=>
     split at ee
     next r q1 hF=>
      split at ee
      next aB=>
       cases ee
       refine⟨ρ,w,t,_,_,_,gd,h0,fun v0 H1 w1 F1 g1 aJ r1=>?_⟩
       have rR:=g1.drop (t':=t)
       obtain⟨l,cX,_⟩:=rR.dw hd
       refine⟨_,cX,qw,bU t w1,t,_,_,_,rR,h2,fun v2 H2 w2 F2 g2 bY r2=>?_⟩
       have gg:=g2.drop (t':=t)
       have wb:=bY.drop rR.wt
       have r0:Rep X.K H2 (bU t w2) .f 0 d0 v0 []:=Rep.go rR.wl wb.bJ (r1.drop (o:=.f) (Qi t)) nM
       have UW:=r2.drop (o:=.f) (t':=t) (Qi t)
       obtain⟨v,Fs,t1,t2⟩:=gg.slot i _ _ e1
       cases t2 with
       | @kK _ l' vs _ _ z hH gT hw hlen rs=>
        rw[cX]at t1
        cases t1
        have fr:∀ a,bU t w2 a=none->(fun a=>if a=l then none else(bU t w2 a).map fun _=>Ow.f) a=none:=fun a n=>by
         show(if a=l then none else(bU t w2 a).map _)=_
         split
         ·rfl
         ·rw[n];rfl
        refine⟨rfl,[d0,.mp k0 ds,d2],fun a=>if a=l then none else(bU t w2 a).map fun _=>Ow.f,r',q,fun a o e=>?_,⟨fun a o e=>?_,gg.wl.tb⟩,?_,hF,fun v H3 w3 Fo kN UX rr=>?_⟩
        ·have e:(if a=l then none else(bU t w2 a).map fun _=>Ow.f)=some o:=e
         split at e
         ·cases e
         ·cases ew:bU t w2 a with
          | none=>rw[ew]at e;cases e
          | some o'=>rw[ew]at e;cases e;rfl
        ·have e:(if a=l then none else(bU t w2 a).map fun _=>Ow.f)=some o:=e
         split at e
         ·cases e
         ·cases ew:bU t w2 a with
          | none=>rw[ew]at e;cases e
          | some o'=>exact gg.wl a o' ew
        ·refine .r_ (Rep.freeze fr r0 nM) (.r_ (.nu hH gT (Qj rfl) hlen (ae.freeze fr rs nM)) (.r_ (Rep.freeze fr UW nM) .nil))
        ·obtain⟨b1,b2,b3⟩:=UR gg hH hw (MK.UT gT) (MK.Co gT) kN UX rr aB
         exact kk _ _ _ _ b1 (((aJ.drop gd.wt).trans wb).trans b2) b3
      ·cases ee
     ·cases ee
    ·cases ee
   ·cases ee
  ·cases ee
 ·cases ee⟩
end
end L3
namespace L3
open PySem PySem.Spec PyProof.Rows L2
variable {K:PySem.W.Frag}{N ps:List Str}{P:Program}{X:Cx}{base:Heap}{body:aH}{es:List Expr}{g:cy}{mg:Str->Option Value}{st:Stmt}{w:World}{x:Str}
theorem qv(i:Nat){pos:Pos}(hN:X.N[i]? = some x:=by rfl)(hv:s9 X.env.scope x:=by first|exact Or.inl rfl|exact Or.inr (Or.inl rfl)|exact Or.inr (Or.inr rfl))(hd:(x==("__debug__":Str))=false:=by decide)(iA:(x==("__classdict__":Str))=false:=by decide):QE X (.Name x pos) (eV i):=⟨pv i hN hv hd iA⟩
theorem ql(i:Nat){pos:Pos}(hN:X.N[i]? = some x)(hv:X.env.scope.names.lookup x=some .local)(hd:(x==("__debug__":Str))=false:=by decide)(iA:(x==("__classdict__":Str))=false:=by decide):QE X (.Name x pos) (eV i):=⟨pv i hN (.inl hv) hd iA⟩
theorem sj{e:Expr}{f:cO}(h:rA X e f):iS X e f:=⟨PW.pt h.o⟩
theorem aD(i:Nat){pos:Pos}(hN:X.N[i]? = some x)(hv:X.env.scope.names.lookup x=some .local)(hd:(x==("__debug__":Str))=false:=by decide)(iA:(x==("__classdict__":Str))=false:=by decide):QD X (.Name x pos) (aa i):=bE (ql i hN hv hd iA)
theorem aI(i:Nat){pos:Pos}(hN:X.N[i]? = some x)(hv:X.env.scope.names.lookup x=some .local)(hr:gh X es g)(hd:(x==("__debug__":Str))=false:=by decide)(iA:(x==("__classdict__":Str))=false:=by decide):gh X (.Name x pos::es) (ab (aa i) g):=au (aD i hN hv hd iA) hr dG
theorem cN{i:Int}{j:Nat}{pos:Pos}(hr:gh X es g):gh X (.Constant (.int i) j pos::es) (ab (eC (.int i)) g):=au aS hr rM
theorem ay.cQ{k:Nat}(a:At K mg x st ps)(S:af N ps (bu st))
  (h:∀ (f:Addr) (cz:Value) (A:Around) (outer:List Env) (s:Shared) (H:Hp) (E:XK),a_ k (A.deeper (envOfC x (bu st) s.heap.objs.size f cz))->gV (lP ju P w K mg base N x (bu st) f cz A outer s H E).nh (j8 st) body) :
  ay P w K mg base (k+1) x ps.length (bT N.length body):=ay.mk a S fun f cz A outer s H E hr=>(h f cz A outer s H E hr).o
theorem UY{k:Nat}{f:Addr}{fd:FuncData}(F:lU K x x st f fd)(S:af N ps (bu st))
  (h:∀ (f:Addr) (cz:Value) (A:Around) (outer:List Env) (s:Shared) (H:Hp) (E:XK),a_ k (A.deeper (envOfC x (bu st) s.heap.objs.size f cz))->gV (lP ju P w K mg base N x (bu st) f cz A outer s H E).nh (j8 st) body) :
  eG P w K mg base ju (k+1) f fd ps (kL K ps.length (bT N.length body)):=PX F S fun f cz A outer s H E hr=>(h f cz A outer s H E hr).o
end L3
namespace L3
open PySem PySem.Spec PyProof.Rows PySem.W L2
variable {K:PySem.W.Frag}{x:Str}
theorem j65(a:nsIn K mainGlobals x=some none):tabIn K x=none:=by unfold tabIn;rw[a]
theorem T0.of(h1:tabIn K "turned" = none)(h2:tabIn K "chain_ladder" = none)(h3:tabIn K "flat_ladder" = none)(h4:tabIn K "paired" = none)(h5:tabIn K "height_of" = none)(h6:tabIn K "_law_high" = none):∀ x∈tO,tabIn K x=none:=fun x hx=>by
 unfold tO at hx
 simp only[Qw,QI,Vx]at hx
 rcases hx with rfl|rfl|rfl|rfl|rfl|rfl<;>assumption
theorem UZ{l:PySem.W.OpenLaw}{n k:Nat}{q:Program}{loose:List Str}{XP:(Str->Option Value)->Heap->Prop}{YP:World->Heap->Prop}{d:DefRec}{K:Params->PySem.W.Frag}{F0:List D->OD}
  (hn:l.most=some n) (xS:n<=sizeLine) (uY:d.params.defaults=[]) (hr:a_ k callerA) (hY:∀ (w:World) (h:Heap),YP w h->(K w.params).In h)
  (F:∀ (w:World) (mg:Str->Option Value) (fa:Addr) (h:Heap),(K w.params).In h->h.Ns mainGlobals mg->mg d.name=some (.ref fa)->(∀ x∈tO,tabIn (K w.params) x=none) /\
    ∃ fd:FuncData,(∀ (s:Shared) (u:Value),BindsTo s fd ⟨[u],[]⟩ [(x,u)])/\∀ base:Heap,(K w.params).In base->base.Ns mainGlobals mg->eG l.prog w (K w.params) mg base ju k fa fd [x] (kL (K w.params) 1 F0))
  (lg:∀ (w:World) (H:Hp) (a:Addr) (ns:List Int),ns.length<=n->TB (K w.params) H->cH (K w.params) H a (ns.map V.int)->kL (K w.params) 1 F0 [.ref a] H (fun v _=>v=.bl true) fun _ _ _=>False) :
  PySem.W.WalkO q loose XP YP l.row.toRowW d [] (fun f vs=>PySem.call f vs):=by
 refine EA.Ni hn uY fun w cm aO mg mb fa o pm cd doc a vs ns G Y ho hd iA hmg q8 hints hlen hg=>?_
 have KX:=hY w _ Y
 obtain⟨hT,fd,hb,hF⟩:=F w mg fa _ KX G.T.g hmg
 exact Nk KX G.T.g G.T.b G.T.builtins G.T.nolimit hg q8 hints (QL hlen xS) hr hF hb (fun H hO hS=>lg w H a ns hlen (TB.only hO hT) hS) fun _ _ _ z=>z
def hI (v:Nat):Int:=if v=7 then -2 else Int.ofNat v
end L3
namespace L3
open PySem PySem.Spec PyProof.Rows L2
theorem qx{k:Nat}{pt:eT}{tt:cO}{te:aA}{deep:Bool}:∀ (ds:List D) (S:Nat->aQ) (b:Nat->Bool) (v:Nat->D),
  (∀ i (h:i<ds.length),∃ ρ1 ρ2,pt ds[i] (S i++List.replicate k none)=some ρ1/\tt ρ1=some (b i,ρ2) /\
    (if b i=true then ∃ q fS,te ρ2=some (v i,q,fS)/\¬ (deep=true/\(v i).cJ=true/\q≠1)/\fS.take (S i).length=S (i+1)else ρ2.take (S i).length=S (i+1)))->
  jy k pt tt te deep ds (S 0)=some (((List.range ds.length).filter b).map v,S ds.length)
 | [],S,b,v,_=>rfl
 | d::ds,S,b,v,h=>by
  obtain⟨ρ1,ρ2,h1,h2,h3⟩:=h 0 (by simp)
  have ih:=qx ds (fun i=>S (i+1)) (fun i=>b (i+1)) (fun i=>v (i+1)) (fun i hi=>h (i+1) (by simpa using hi))
  have er:((List.range (d::ds).length).filter b).map v=(if b 0=true then [v 0]else [])++((List.range ds.length).filter fun i=>b (i+1)).map fun i=>v (i+1):=by
   rw[QO,VL,List.filter_cons,List.filter_map]
   split<;>simp[Vm]
  rw[er]
  unfold jy
  rw[show pt d (S 0++List.replicate k none)=some ρ1 from h1]
  simp only[h2]
  split at h3
  next hb=>
   obtain⟨q,fS,h4,h5,h6⟩:=h3
   simp only[hb,Zz,h4,Qk h5,h6,ih]
   rfl
  next hb=>
   simp only[hb,h3,ih]
   rfl
theorem jE{pt:eT}{body:aH}:∀ (ds:List D) (I:Nat->aQ->Prop) (ρ:aQ),(∀ i (h:i<ds.length) ρ,I i ρ->∃ ρ1 ρ2,pt ds[i] ρ=some ρ1/\(body ρ1=some (.nx ρ2)\/body ρ1=some (.ct ρ2))/\I (i+1) ρ2)->I 0 ρ->∃ ρ',dF pt body ds ρ=some (.nx ρ')/\I ds.length ρ'
 | [],I,ρ,_,h0=>⟨ρ,rfl,h0⟩
 | d::ds,I,ρ,h,h0=>by
  obtain⟨ρ1,ρ2,h1,h2,h3⟩:=h 0 (by simp) ρ h0
  obtain⟨ρ',e,h4⟩:=jE ds (fun i=>I (i+1)) ρ2 (fun i hi=>h (i+1) (by simpa using hi)) h3
  refine⟨ρ',?_,h4⟩
  unfold dF
  rw[show pt d ρ=some ρ1 from h1]
  rcases h2 with h2|h2<;>(simp only[h2];exact e)
theorem aU{f g:aH}{ρ ρ1:aQ}(h:f ρ=some (.nx ρ1)):aG f g ρ=g ρ1:=by unfold aG;rw[h]
theorem Ct{f g:aH}{ρ:aQ}{d:D}{q:Nat}(h:f ρ=some (.rt d q)):aG f g ρ=some (.rt d q):=by unfold aG;rw[h]
theorem eA{n:Nat}{body:aH}{ds:List D}{d:D}{q:Nat}(h:body (nA n ds)=some (.rt d q)):bT n body ds=some (d,q):=by unfold bT;rw[h]
theorem ie{k:Nat}{it:jP}{pt:eT}{tt:cO}{te:aA}{deep:Bool}{ρ ρ1 ρ2:aQ}{ds vs:List D}(hi:it ρ=some (ds,ρ1))(hc:jy k pt tt te deep ds ρ1=some (vs,ρ2)):dN k it pt tt te deep ρ=some (.lst vs,if deep=true then 2 else 1,ρ2):=by unfold dN;rw[hi];simp only[hc]
theorem U0{i:Nat}{f:aA}{ρ ρ1:aQ}{d:D}{q:Nat}(h:f ρ=some (d,q,ρ1)):bg i f ρ=some (.nx (ρ1.set i (some (d,q)))):=by unfold bg;rw[h]
theorem jF{f:aA}{ρ ρ1:aQ}{d:D}{q:Nat}(h:f ρ=some (d,q,ρ1)):bF f ρ=some (.rt d q):=by unfold bF;rw[h]
theorem gp{it:jP}{pt:eT}{body:aH}{ρ ρ1:aQ}{ds:List D}(h:it ρ=some (ds,ρ1)):dU it pt body ρ=dF pt body ds ρ1:=by unfold dU;rw[h]
theorem Cu{g:cO}{s s':aH}{ρ ρ1:aQ}(h:g ρ=some (true,ρ1)):dZ g s s' ρ=s ρ1:=by unfold dZ;rw[h];rfl
theorem mJ{g:cO}{s s':aH}{ρ ρ1:aQ}(h:g ρ=some (false,ρ1)):dZ g s s' ρ=s' ρ1:=by unfold dZ;rw[h];rfl
theorem ig{i:Nat}{f:aA}{ρ ρ1 ρ2:aQ}{d:D}{q:Nat}(h:f ρ=some (d,q,ρ1))(e:ρ1.set i (some (d,q))=ρ2):bg i f ρ=some (.nx ρ2):=by rw[U0 h,e]
theorem fW{f:aA}{ρ ρ1:aQ}{d:D}{q:Nat}(h:f ρ=some (d,q,ρ1)):ab f ag ρ=some ([d],ρ1):=by unfold ab;rw[h];rfl
theorem ku{f:aA}{g:cy}{ρ ρ1 ρ2:aQ}{d:D}{q:Nat}{ds:List D}(h:f ρ=some (d,q,ρ1))(h':g ρ1=some (ds,ρ2)):ab f g ρ=some (d::ds,ρ2):=by unfold ab;rw[h];simp only[h']
theorem wc{g:cy}{ρ ρ1:aQ}{ds:List D}(h:g ρ=some ([.lst ds],ρ1)):iG g ρ=some (.tup ds,9,ρ1):=by unfold iG;rw[h]
theorem Cv{g:cy}{ρ ρ1:aQ}{ds:List D}(h:cI g ρ=some (ds,ρ1)):oH g ρ=some (.lst ds,1,ρ1):=by unfold oH;rw[h]
theorem gL{F:List D->OD}{n:Nat}{g:cy}{ρ ρ1:aQ}{ds:List D}{d:D}{q:Nat}(h:g ρ=some (ds,ρ1))(hl:ds.length=n)(hF:F ds=some (d,q)):aL F n g ρ=some (d,q,ρ1):=by unfold aL;rw[h];simp only[hl,Zz,hF]
def ak (l:List Nat):List D:=l.map fun i=>.int (Int.ofNat i)
abbrev iD (k:Nat):D:=.int (Int.ofNat k)
abbrev uL (v:List Nat):OD:=some (.lst (ak v),1)
abbrev v9 (v:List Nat):OD:=some (.tup (ak v),9)
abbrev b9 (b:Bool):OD:=some (.bl b,9)
abbrev i9 (k:Nat):OD:=some ((iD k),9)
def kU (n:Nat)(f:Nat->Nat->Nat)(i:Nat):D:=.tup (ak ((List.range n).map fun j=>f i j))
def aT (n:Nat)(f:Nat->Nat->Nat):D:=.tup ((List.range n).map fun i=>kU n f i)
abbrev t9 (n:Nat)(f:Nat->Nat->Nat):OD:=some (aT n f,9)
def eL (n:Nat)(f:Nat->Nat->Nat)(i:Nat):D:=.lst (ak ((List.range n).map fun j=>f i j))
def bP (n:Nat)(f:Nat->Nat->Nat):D:=.lst ((List.range n).map fun i=>eL n f i)
@[simp] theorem j5y{n:Nat}{f:Nat->Nat->Nat}:(aT n f).cJ=false:=rfl
@[simp] theorem j60{n:Nat}{f:Nat->Nat->Nat}{i:Nat}:(kU n f i).cJ=false:=rfl
@[simp] theorem j67{n:Nat}{f:Nat->Nat->Nat}:(bP n f).cJ=true:=rfl
@[simp] theorem j68{n:Nat}{f:Nat->Nat->Nat}{i:Nat}:(eL n f i).cJ=true:=rfl
theorem fC(l:List Nat):(ak l).length=l.length:=by simp[ak]
theorem G_(l:List Nat)(i:Nat):(ak l)[i]? = (l[i]?).map fun x=>.int (Int.ofNat x):=by simp[ak]
theorem ue{n i:Nat}(h:i<n):ib n (Int.ofNat i)=some i:=by
 unfold ib
 rw[Qj (by exact Vc i),Qj (by show(i:Int)<n;omega)]
 rfl
theorem qy{α:Type}{xs:List α}{i:Nat}{x:α}(h:xs[i]? = some x):L2.dC xs (Int.ofNat i)=some x:=by
 unfold L2.dC
 rw[ue (Qy.mp h).1]
 exact h
theorem Cw{l:List Nat}{i x:Nat}(h:l[i]? = some x):L2.dC (ak l) (Int.ofNat i)=some (iD x):=qy (by rw[G_,h];rfl)
theorem Ha{g:Nat->D}{n i:Nat}(h:i<n):L2.dC ((List.range n).map g) (Int.ofNat i)=some (g i):=qy (by rw[Ql,Zn h];rfl)
theorem sk{g:Nat->Nat}{n i:Nat}(h:i<n):L2.dC (ak ((List.range n).map g)) (Int.ofNat i)=some (iD (g i)):=Cw (by rw[Ql,Zn h];rfl)
theorem ky{n:Nat}{f:Nat->Nat->Nat}{i:Nat}(h:i<n):cf (aT n f) (Int.ofNat i)=some (kU n f i):=Ha h
theorem kW{n:Nat}{f:Nat->Nat->Nat}{i j:Nat}(h:j<n):cf (kU n f i) (Int.ofNat j)=some (iD (f i j)):=sk h
theorem U1{n:Nat}{f:Nat->Nat->Nat}{i:Nat}(h:i<n):cf (bP n f) (Int.ofNat i)=some (eL n f i):=Ha h
theorem U2{n:Nat}{f:Nat->Nat->Nat}{i j:Nat}(h:j<n):cf (eL n f i) (Int.ofNat j)=some (iD (f i j)):=sk h
theorem jd{n:Nat}{f:Nat->Nat->Nat}:eU (aT n f)=some n:=by simp[aT,eU]
theorem we{n:Nat}{f:Nat->Nat->Nat}:eU (bP n f)=some n:=by simp[bP,eU]
theorem zf{n:Nat}{f g:Nat->Nat->Nat}(h:∀ a b,a<n->b<n->f a b=g a b):bP n f=bP n g:=by
 unfold bP eL
 refine ZQ D.lst (Ze fun a ha=>?_)
 refine ZQ (fun l=>D.lst (ak l)) (Ze fun b hb=>?_)
 exact h a b (Qz.mp ha) (Qz.mp hb)
theorem Hb{α:Type}{g:Nat->α}{n m:Nat}{x:α}:((List.range n).map g).set m x=(List.range n).map fun a=>if a=m then x else g a:=by
 apply Zt
 intro i
 by_cases hi:i<n
 ·by_cases h:m=i
  ·subst h
   rw[QT (by simpa using hi),Ql,Zn hi]
   simp
  ·rw[QX h,Ql,Ql,Zn hi]
   simp
   exact fun z=>absurd z.symm h
 ·rw[QK (by simp;omega),QK (by simp;omega)]
theorem Cy{g:Nat->Nat}{n:Nat}:ak ((List.range n).map g)=(List.range n).map fun i=>.int (Int.ofNat (g i)):=by simp[ak]
theorem U3{n:Nat}{f:Nat->Nat->Nat}{a b v:Nat}:D.lst (((List.range n).map fun i=>eL n f i).set a (.lst ((ak ((List.range n).map fun j=>f a j)).set b (iD v))))=bP n fun i j=>if i=a/\j=b then v else f i j:=by
 unfold bP
 rw[Hb]
 refine ZQ D.lst (Ze fun i hi=>?_)
 by_cases h:i=a
 ·subst h
  rw[Qj rfl,Cy,Hb]
  unfold eL
  rw[Cy]
  refine ZQ D.lst (Ze fun j hj=>?_)
  by_cases hj:j=b<;>simp[hj]
 ·rw[Qk h]
  unfold eL
  simp[h]
theorem U4(n:Nat):D.lst (List.replicate n [D.int 0]).flatten=eL n (fun _ _=>0) 0:=by
 unfold eL ak
 congr 1
 simp[Jn,List.map_const']
theorem Hc:∀ ds:List D,dv ds=ds.map cP
 | []=>rfl
 | d::ds=>by rw[dv,Hc ds];rfl
def lay (d:D):Bool:=gJ d&&(cP d).canLay0
theorem Hd{d:D}(h:lay d=true):gJ d=true:=(Q9.mp h).1
theorem He{d:D}(h:lay d=true):(cP d).canLay0=true:=(Q9.mp h).2
theorem zg:∀ {ds:List D},(∀ d∈ds,lay d=true)->kg ds=true
 | [],_=>rfl
 | d::ds,h=>by
  show(gJ d&&kg ds)=true
  rw[Hd (h d Qh),zg fun x m=>h x (Qg _ m)]
  rfl
def jw (d:D):Nat:=(cP d).depth
theorem Cz:∀ {ds:List D},(∀ d∈ds,lay d=true)->PyData.canLayAll0 (dv ds)=true
 | [],_=>rfl
 | d::ds,h=>by
  rw[dv,PyData.canLayAll0,Cz fun x m=>h x (Qg _ m),V7]
  exact He (h d Qh)
theorem CA{k:Nat}:∀ {ds:List D},(∀ d∈ds,jw d<=k)->PyData.depthAll (dv ds)<=k
 | [],_=>QS _
 | d::ds,h=>by
  rw[dv,PyData.depthAll]
  exact Nat.max_le.mpr ⟨h d Qh,CA fun x m=>h x (Qg _ m)⟩
def Sh (k:Nat)(d:D):Prop:=lay d=true/\jw d<=k
theorem Sh.int{k:Nat}(i:Int):Sh k (.int i):=⟨rfl,QS _⟩
theorem Sh.bo{k:Nat}:Sh k .bo:=⟨rfl,QS _⟩
theorem Sh.tup{k:Nat}{ds:List D}(h:∀ d∈ds,Sh k d):Sh (k+1) (.tup ds):=⟨Q9.mpr ⟨zg fun d m=>(h d m).1,Cz fun d m=>(h d m).1⟩,Vv (CA fun d m=>(h d m).2)⟩
theorem Sh.lst{k:Nat}{ds:List D}(h:∀ d∈ds,Sh k d):Sh (k+1) (.lst ds):=⟨Q9.mpr ⟨zg fun d m=>(h d m).1,Cz fun d m=>(h d m).1⟩,Vv (CA fun d m=>(h d m).2)⟩
theorem Sh.ok{k:Nat}{d:D}(h:Sh k d)(hk:k<=64:=by decide):eK d=true:=by
 show(gJ d&&((cP d).canLay0&&decide ((cP d).depth<=64)))=true
 rw[Hd h.1,He h.1,J0,J0]
 exact QA (QL h.2 hk)
theorem Hf{l:List Nat}{d:D}(m:d∈ak l):Sh 0 d:=by
 obtain⟨x,_,rfl⟩:=Qr.mp m
 exact .int _
theorem wg(l:List Nat):Sh 1 (.lst (ak l)):=.lst fun _ m=>Hf m
theorem qz(l:List Nat):Sh 1 (.tup (ak l)):=.tup fun _ m=>Hf m
theorem U5(n:Nat)(f:Nat->Nat->Nat):Sh 2 (aT n f):=.tup fun d m=>by
 obtain⟨x,_,rfl⟩:=Qr.mp m
 exact qz _
theorem CB:∀ l l':List Nat,PyData.eqvAll (dv (ak l)) (dv (ak l'))=decide (l=l')
 | [],[]=>rfl
 | [],_::_=>rfl
 | _::_,[]=>rfl
 | x::l,y::l'=>by
  show(((x:Int)==(y:Int))&&PyData.eqvAll (dv (ak l)) (dv (ak l')))=_
  rw[CB l l']
  by_cases h:x=y
  ·subst h;simp
  ·have:((x:Int)==(y:Int))=false:=by simp;omega
   rw[this]
   simp[h]
theorem U6(l l':List Nat):me (.lst (ak l)) (.lst (ak l'))=decide (l=l'):=CB l l'
theorem CC(l l':List Nat):me (.tup (ak l)) (.tup (ak l'))=decide (l=l'):=CB l l'
theorem CD(i j:Int):me (.int i) (.int j)=decide (i=j):=by
 show(i==j)=_
 rw[Bool.beq_eq_decide_eq]
theorem Hg(i j:Nat):me (iD i) (iD j)=decide (i=j):=by
 rw[CD]
 exact Jv.mpr ⟨fun h=>V8 h,fun h=>by rw[h]⟩
theorem Hh(l l':List Nat):cS (.lst (ak l)) (.lst (ak l'))=some (.bl (decide (l=l'))):=by unfold cS;rw[Qj ⟨(wg l).ok,(wg l').ok⟩,U6]
theorem Hi(i j:Int):cS (.int i) (.int j)=some (.bl (decide (i=j))):=by unfold cS;rw[Qj ⟨(Sh.int (k:=0) i).ok,(Sh.int (k:=0) j).ok⟩,CD]
theorem U7(i j:Int):di (.int i) (.int j)=some (.bl (!decide (i=j))):=by unfold di;rw[Qj ⟨(Sh.int (k:=0) i).ok,(Sh.int (k:=0) j).ok⟩,CD]
theorem wj(i j:Nat):cS (iD i) (iD j)=some (.bl (decide (i=j))):=by unfold cS;rw[Qj ⟨(Sh.int (k:=0) _).ok,(Sh.int (k:=0) _).ok⟩,Hg]
theorem wm(i j:Nat):di (iD i) (iD j)=some (.bl (!decide (i=j))):=by unfold di;rw[Qj ⟨(Sh.int (k:=0) _).ok,(Sh.int (k:=0) _).ok⟩,Hg]
theorem Hj{α:Type}{p:α->Bool}:∀ {l:List α} {j:Nat} {x:α},l[j]? = some x->p x=true->(∀ i y,i<j->l[i]? = some y->p y=false)->l.findIdx? p=some j
 | [],j,x,h,_,_=>by simp at h
 | a::l,0,x,h,hp,_=>by
  simp at h;subst h
  simp[List.findIdx?_cons,hp]
 | a::l,j+1,x,h,hp,hn=>by
  have h0:p a=false:=hn 0 a (JA _) rfl
  have ih:=Hj (l:=l) (j:=j) (x:=x) (by simpa using h) hp fun i y hi hy=>hn (i+1) y (Nat.succ_lt_succ hi) (by simpa using hy)
  simp[List.findIdx?_cons,h0,ih]
structure aV (n:Nat) (f:Nat->Nat->Nat):Prop where
 lo:0<n
 hi:n<=16
 cl:∀ i j,i<n->j<n->f i j<n
 idem:∀ i,i<n->f i i=i
 comm:∀ i j,i<n->j<n->f i j=f j i
 assoc:∀ i j k,i<n->j<n->k<n->f (f i j) k=f i (f j k)
 bot:∃ z,z<n/\∀ j,j<n->f z j=j
def CF (n:Nat)(f:Nat->Nat->Nat):Bool:=
 decide (0<n)&&decide (n<=16)&&((List.range n).all fun i=>(List.range n).all fun j=>decide (f i j<n))&&((List.range n).all fun i=>decide (f i i=i))&&((List.range n).all fun i=>(List.range n).all fun j=>decide (f i j=f j i)) &&
 ((List.range n).all fun i=>(List.range n).all fun j=>(List.range n).all fun k=>decide (f (f i j) k=f i (f j k)))&&((List.range n).any fun z=>(List.range n).all fun j=>decide (f z j=j))
theorem U8{n:Nat}{f:Nat->Nat->Nat}(h:CF n f=true):aV n f:=by
 unfold CF at h
 simp only[Yt,ZL,Ju,List.any_eq_true,Qz]at h
 obtain⟨⟨⟨⟨⟨⟨h1,h2⟩,h3⟩,h4⟩,h5⟩,h6⟩,z,hz,h7⟩:=h
 exact⟨h1,h2,fun i j hi hj=>h3 i hi j hj,h4,fun i j hi hj=>h5 i hi j hj,fun i j k hi hj hk=>h6 i hi j hj k hk,z,hz,h7⟩
theorem aV.U9{n:Nat}{f:Nat->Nat->Nat}(L:aV n f){π ι:Nat->Nat}(h1:∀ i,i<n->π i<n)(h2:∀ i,i<n->ι i<n)(h3:∀ i,i<n->ι (π i)=i)(h4:∀ i,i<n->π (ι i)=i):aV n fun a b=>π (f (ι a) (ι b)):=by
 obtain⟨l1,l2,cl,idem,comm,assoc,z,hz,bot⟩:=L
 refine⟨l1,l2,fun i j hi hj=>h1 _ (cl _ _ (h2 i hi) (h2 j hj)),fun i hi=>?_,fun i j hi hj=>?_,fun i j k hi hj hk=>?_,π z,h1 z hz,fun j hj=>?_⟩
 ·show π (f (ι i) (ι i))=i
  rw[idem _ (h2 i hi),h4 i hi]
 ·show π (f (ι i) (ι j))=π (f (ι j) (ι i))
  rw[comm _ _ (h2 i hi) (h2 j hj)]
 ·show π (f (ι (π (f (ι i) (ι j)))) (ι k))=π (f (ι i) (ι (π (f (ι j) (ι k)))))
  rw[h3 _ (cl _ _ (h2 i hi) (h2 j hj)),h3 _ (cl _ _ (h2 j hj) (h2 k hk)),assoc _ _ _ (h2 i hi) (h2 j hj) (h2 k hk)]
 ·show π (f (ι (π z)) (ι j))=j
  rw[h3 z hz,bot _ (h2 j hj),h4 j hj]
def bK (p:Nat->Nat->Nat)(n:Nat):Nat->List Nat
 | 0=>List.range n
 | k+1=>(bK p n k).eraseIdx (p k (bK p n k).length)
def drawn (p:Nat->Nat->Nat)(n k:Nat):Nat:=(bK p n k).getD (p k (bK p n k).length) 0
theorem Hk:∀ (l:List Nat) (j:Nat),(ak l).eraseIdx j=ak (l.eraseIdx j)
 | [],_=>rfl
 | _::_,0=>rfl
 | a::l,j+1=>ZQ ((iD a) :: ·) (Hk l j)
theorem wo{p:Nat->Nat->Nat}{n:Nat}(hp:∀ k m,0<m->p k m<m):∀ k,k<=n->(bK p n k).length=n-k
 | 0,_=>by simp[bK]
 | k+1,h=>by
  have ih:=wo hp k (Nat.le_of_succ_le h)
  have:=hp k (n-k) (by omega)
  rw[bK,V2,ih,Qj this]
  omega
theorem Hl:∀ {l:List Nat} {j:Nat} (h:j<l.length),(l[j]::l.eraseIdx j).Perm l
 | a::l,0,_=>V5 _
 | a::l,j+1,h=>(List.Perm.swap a (l[j]'(by simpa using h)) (l.eraseIdx j)).trans (List.Perm.cons a (Hl (by simpa using h)))
theorem Hm{p:Nat->Nat->Nat}{n:Nat}(hp:∀ k m,0<m->p k m<m):∀ k,k<=n->(((List.range k).map (drawn p n))++bK p n k).Perm (List.range n)
 | 0,_=>by simp[bK]
 | k+1,h=>by
  have ih:=Hm hp k (Nat.le_of_succ_le h)
  have hl:=wo hp k (by omega:k<=n)
  have hj:p k (bK p n k).length<(bK p n k).length:=by rw[hl];exact hp k _ (by omega)
  refine List.Perm.trans ?_ ih
  rw[YS,Q3,ZD]
  refine VS _ ?_
  have e:drawn p n k=(bK p n k)[p k (bK p n k).length]:=by unfold drawn;rw[Qf,Qb hj];rfl
  show(drawn p n k::(bK p n (k+1))).Perm _
  rw[e,bK]
  exact Hl hj
theorem zh{p:Nat->Nat->Nat}{n:Nat}(hp:∀ k m,0<m->p k m<m):((List.range n).map (drawn p n)).Perm (List.range n):=by
 have h:=Hm hp n (Qi n)
 have hl:=wo hp n (Qi n)
 rw[Ud]at hl
 rw[Zj.mp hl,ZX]at h
 exact h
theorem Hn{p:Nat->Nat->Nat}{n:Nat}(hp:∀ k m,0<m->p k m<m){i:Nat}(h:i<n):drawn p n i<n:=by
 have m:drawn p n i∈(List.range n).map (drawn p n):=Qr.mpr ⟨i,Qz.mpr h,rfl⟩
 exact Qz.mp ((zh hp).mem_iff.mp m)
def kz (p:Nat->Nat->Nat)(n a:Nat):Nat:=((List.range n).map (drawn p n)).idxOf a
theorem Ho{p:Nat->Nat->Nat}{n:Nat}(hp:∀ k m,0<m->p k m<m){a:Nat}(h:a<n):kz p n a<n:=by
 have m:a∈(List.range n).map (drawn p n):=(zh hp).mem_iff.mpr (Qz.mpr h)
 have:=Y0 m
 rw[Qc,QM]at this
 exact this
theorem Hq{p:Nat->Nat->Nat}{n:Nat}(hp:∀ k m,0<m->p k m<m){a:Nat}(h:a<n):drawn p n (kz p n a)=a:=by
 have m:a∈(List.range n).map (drawn p n):=(zh hp).mem_iff.mpr (Qz.mpr h)
 have:=List.getElem_idxOf (Y0 m)
 rw[List.getElem_map,List.getElem_range]at this
 exact this
theorem Hr{p:Nat->Nat->Nat}{n:Nat}(hp:∀ k m,0<m->p k m<m){i:Nat}(h:i<n):kz p n (drawn p n i)=i:=by
 have nd:((List.range n).map (drawn p n)).Nodup:=(zh hp).nodup_iff.mpr Yz
 have hi:i<((List.range n).map (drawn p n)).length:=by simpa using h
 have:=nd.idxOf_getElem i hi
 rw[List.getElem_map,List.getElem_range]at this
 exact this
theorem oU{i n:Nat}{tt:cO}{te:aA}{ρ:aQ}{deep:Bool}(hi:ρ.length=i)(b:Nat->Bool)(v:Nat->D)(q:Nat->Nat)(ht:∀ j,j<n->tt (ρ++[(i9 j)])=some (b j,ρ++[(i9 j)]))
  (he:∀ j,j<n->b j=true->te (ρ++[(i9 j)])=some (v j,q j,ρ++[(i9 j)])) (hd:deep=true->∀ j,(v j).cJ=true->q j=1:=by intro h;cases h) :
  jy 1 (aC i) tt te deep (cj n) ρ=some (((List.range n).filter b).map v,ρ):=by
 have h:=qx (k:=1) (pt:=aC i) (tt:=tt) (te:=te) (deep:=deep) (cj n) (fun _=>ρ) b v (fun j hj=>?_)
 ·rw[d7]at h
  exact h
 ·rw[d7]at hj
  refine⟨ρ++[(i9 j)],_,?_,ht j hj,?_⟩
  ·have:(cj n)[j]'(by rw[d7];exact hj)=(iD j):=by simp[cj]
   rw[this]
   unfold aC
   rw[Qj (by simp[hi])]
   subst hi
   simp[VP]
  ·by_cases hb:b j=true
   ·rw[Qj hb]
    exact⟨q j,_,he j hj hb,fun⟨h1,h2,h3⟩=>h3 (hd h1 j h2),by simp⟩
   ·rw[Qk hb]
    simp
theorem Hs{z:Nat}:∀ n:Nat,(List.range n).filter (fun w=>decide (w=z))=if z<n then [z]else []
 | 0=>by simp
 | n+1=>by
  rw[YS,List.filter_append,Hs n]
  by_cases h:n=z
  ·subst h;simp
  ·have:¬ (n=z):=h
   by_cases h2:z<n
   ·rw[Qj h2,Qj (by omega)];simp[h]
   ·rw[Qk h2,Qk (by omega)];simp[h]
theorem U_{n:Nat}{g:Nat->Nat}:(List.range n).map g=List.range n ↔ ∀ j,j<n->g j=j:=by
 constructor
 ·intro h j hj
  have:=ZQ (fun l=>l[j]?) h
  simpa [hj]using this
 ·intro h
  have e:=Ze (l:=List.range n) (f:=g) (g:=id) fun a ha=>h a (Qz.mp ha)
  rw[e,List.map_id]
namespace aV
variable {z:Nat}
variable {n:Nat}{f:Nat->Nat->Nat}(L:aV n f)
include L
theorem mK{x:Nat}(hz:z<n)(bz:∀ j,j<n->f z j=j)(hx:x<n)(bx:∀ j,j<n->f x j=j):x=z:=by
 have h1:=bx z hz
 have h2:=bz x hx
 rw[L.comm x z hx hz]at h1
 omega
theorem fold_lt:∀ {l:List Nat} {a:Nat},a<n->(∀ x∈l,x<n)->l.foldl f a<n
 | [],a,ha,_=>ha
 | y::l,a,ha,h=>fold_lt (l:=l) (L.cl a y ha (h y Qh)) fun x m=>h x (Qg _ m)
theorem Ht:∀ {l:List Nat} {a x:Nat},a<n->x<n->(∀ x∈l,x<n)->f x a=a->f x (l.foldl f a)=l.foldl f a
 | [],a,x,_,_,_,e=>e
 | y::l,a,x,ha,hx,h,e=>by
  have hy:=h y Qh
  refine Ht (l:=l) (L.cl a y ha hy) hx (fun x m=>h x (Qg _ m)) ?_
  rw[<- L.assoc x a y hx ha hy,e]
theorem gq:∀ {l:List Nat} {a x:Nat},a<n->(∀ x∈l,x<n)->x∈l->f x (l.foldl f a)=l.foldl f a
 | y::l,a,x,ha,h,m=>by
  have hy:=h y Qh
  have hl:∀ x∈l,x<n:=fun x m=>h x (Qg _ m)
  rcases Qw.mp m with rfl|m
  ·refine Ht L (l:=l) (L.cl a x ha hy) hy hl ?_
   rw[L.comm a x ha hy,<- L.assoc x x a hy hy ha,L.idem x hy]
  ·exact gq (l:=l) (L.cl a y ha hy) hl m
theorem gr(hz:z<n)(bz:∀ j,j<n->f z j=j):∀ {l:List Nat} {a:Nat},a<n->(∀ x∈l,x<n)->l.foldl f a=f a (l.foldl f z)
 | [],a,ha,_=>by show a=f a z;rw[L.comm a z ha hz,bz a ha]
 | y::l,a,ha,h=>by
  have hy:=h y Qh
  have hl:∀ x∈l,x<n:=fun x m=>h x (Qg _ m)
  show l.foldl f (f a y)=f a (l.foldl f (f z y))
  rw[bz y hy,gr hz bz (L.cl a y ha hy) hl,gr hz bz hy hl,L.assoc a y _ ha hy (L.fold_lt hz hl)]
end aV
theorem CG{pt:eT}{body:aH}{d:D}{q:Nat}:∀ (ds:List D) (I:aQ->Prop) (ok:Nat->Bool) (ρ:aQ),
  (∀ i (h:i<ds.length) ρ,I ρ->∃ ρ1,pt ds[i] ρ=some ρ1/\(ok i=true->∃ ρ2,body ρ1=some (.nx ρ2)/\I ρ2)/\(ok i=false->body ρ1=some (.rt d q)))->I ρ->
  ((List.range ds.length).all ok=true->∃ ρ',dF pt body ds ρ=some (.nx ρ')/\I ρ')/\((List.range ds.length).all ok=false->dF pt body ds ρ=some (.rt d q))
 | [],I,ok,ρ,_,h0=>⟨fun _=>⟨ρ,rfl,h0⟩,fun h=>by simp at h⟩
 | x::ds,I,ok,ρ,h,h0=>by
  obtain⟨ρ1,h1,h2,h3⟩:=h 0 (by simp) ρ h0
  have e1:pt x ρ=some ρ1:=h1
  have er:(List.range (x::ds).length).all ok=(ok 0&&(List.range ds.length).all fun i=>ok (i+1)):=by
   rw[QO,VL,List.all_cons,List.all_map];rfl
  rw[er]
  cases hk:ok 0 with
  | false=>
   refine⟨fun z=>by simp at z,fun _=>?_⟩
   unfold dF
   simp only[e1,h3 hk]
  | true=>
   obtain⟨ρ2,h4,h5⟩:=h2 hk
   obtain⟨i1,i2⟩:=CG ds I (fun i=>ok (i+1)) ρ2 (fun i hi=>h (i+1) (by simpa using hi)) h5
   rw[J0]
   unfold dF
   simp only[e1,h4]
   exact⟨i1,i2⟩
theorem range_all{n:Nat}{p:Nat->Bool}:(List.range n).all p=true ↔ ∀ i,i<n->p i=true:=by
 rw[Ju]
 exact⟨fun h i hi=>h i (Qz.mpr hi),fun h i hi=>h i (Qz.mp hi)⟩
theorem V_{l:List Nat}{i:Nat}(h:i<(ak l).length):(ak l)[i]=(iD (l.getD i 0)):=by
 have h':i<l.length:=by rw[fC]at h;exact h
 simp[ak,h']
theorem Hu{l:List Nat}{i:Nat}(h:i<l.length):l.getD i 0∈l:=by
 rw[Qf,Qb h]
 exact QR h
theorem Wa{i:Nat}{te:aA}{ρ:aQ}{deep:Bool}(l:List Nat)(hi:ρ.length=i)(v:Nat->D)(q:Nat->Nat)
  (he:∀ x,x∈l->te (ρ++[(i9 x)])=some (v x,q x,ρ++[(i9 x)])) (hd:deep=true->∀ j,(v j).cJ=true->q j=1:=by intro h;cases h) :
  jy 1 (aC i) da te deep (ak l) ρ=some (l.map v,ρ):=by
 have h:=qx (k:=1) (pt:=aC i) (tt:=da) (te:=te) (deep:=deep) (ak l) (fun _=>ρ) (fun _=>true) (fun j=>v (l.getD j 0)) (fun j hj=>?_)
 ·rw[fC,show(List.range l.length).filter (fun _=>true)=List.range l.length by simp]at h
  rw[h]
  have e:(List.range l.length).map (fun j=>v (l.getD j 0))=l.map v:=by
   apply Zt
   intro k
   by_cases hk:k<l.length
   ·simp[hk]
   ·rw[QK (by simp;omega),QK (by simp;omega)]
  rw[e]
 ·have Wb:j<l.length:=by rw[fC]at hj;exact hj
  refine⟨ρ++[(i9 (l.getD j 0))],_,?_,rfl,?_⟩
  ·rw[V_ hj]
   unfold aC
   rw[Qj (by simp[hi])]
   subst hi
   simp[VP]
  ·rw[Qj rfl]
   exact⟨q _,_,he _ (Hu Wb),fun⟨h1,h2,h3⟩=>h3 (hd h1 _ h2),by simp⟩
theorem Wc{l:List Nat}{b:Nat->Bool}:decide (l.filter (fun x=>!b x)=[])=l.all b:=by
 rw[Bool.eq_iff_iff,ZL,VM,Ju]
 exact⟨fun h x m=>by simpa using h x m,fun h x m=>by simpa using h x m⟩
theorem iZ{g:D->D->Option D}{fa fb:aA}{ρ ρ1 ρ2:aQ}{x y d:D}{q q':Nat}(ha:fa ρ=some (x,q,ρ1))(hb:fb ρ1=some (y,q',ρ2))(hg:g x y=some d):e2 g fa fb ρ=some (d,9,ρ2):=by unfold e2;rw[ha];simp only[hb,hg]
theorem iJ{f:aA}{ρ ρ1:aQ}{b:Bool}{q:Nat}(h:f ρ=some (.bl b,q,ρ1)):bB f ρ=some (b,ρ1):=by unfold bB;rw[h]
theorem zi{i:Nat}{g:cy}{ρ ρ1 ρ2:aQ}{ds:List D}{d:D}(hl:rG ρ[i]? = true)(hg:g ρ=some ([d],ρ1))(h1:ρ1[i]? = some (some (.lst ds,1)))(hn:ds.length<=1000)(e:ρ1.set i (some (.lst (ds++[d]),1))=ρ2):fK (jb i g) ρ=some (.nx ρ2):=by
 unfold fK jb
 rw[Qj hl,hg]
 simp only[h1,Qj hn,e]
theorem Hv{b:List D->Option D}{g:cy}{ρ ρ1:aQ}{ds:List D}{d:D}(h:g ρ=some (ds,ρ1))(hd:b ds=some d):eB b g ρ=some (d,9,ρ1):=by unfold eB;rw[h];simp only[hd]
def b_ (n:Nat)(r:Nat->Nat):D:=.tup (ak ((List.range n).map r))
abbrev r9 (n:Nat)(r:Nat->Nat):OD:=some (b_ n r,9)
@[simp] theorem j4q{n:Nat}{r:Nat->Nat}:(b_ n r).cJ=false:=rfl
theorem nJ{n i:Nat}{r:Nat->Nat}(h:i<n):cf (b_ n r) (Int.ofNat i)=some (iD (r i)):=sk h
theorem sr(l l':List Nat):di (.tup (ak l)) (.tup (ak l'))=some (.bl (!decide (l=l'))):=by unfold di;rw[Qj ⟨(qz l).ok,(qz l').ok⟩,CC]
theorem Wd{n:Nat}(g:Nat->Nat):D.tup ((List.range n).map fun i=>(iD (g i)))=b_ n g:=by unfold b_;rw[Cy]
theorem We(n:Nat)(r:Nat->Nat):Sh 1 (b_ n r):=qz _
namespace aV
variable {b x y z:Nat}
variable {n:Nat}{f:Nat->Nat->Nat}(L:aV n f)
include L
theorem le_trans(hx:x<n)(hy:y<n)(hz:z<n)(h1:f x y=y)(h2:f y z=z):f x z=z:=by
 rw[<- h2,<- L.assoc x y z hx hy hz,h1]
theorem kA(hx:x<n)(hy:y<n)(h1:f x y=y)(h2:f y x=x):x=y:=by
 rw[L.comm y x hy hx,h1]at h2;exact h2.symm
theorem su(hx:x<n)(hy:y<n):f x (f x y)=f x y:=by rw[<- L.assoc x x y hx hx hy,L.idem x hx]
theorem CH(hx:x<n)(hy:y<n):f y (f x y)=f x y:=by rw[L.comm x y hx hy];exact L.su hy hx
theorem lub(hx:x<n)(hy:y<n)(hz:z<n)(h1:f x z=z)(h2:f y z=z):f (f x y) z=z:=by rw[L.assoc x y z hx hy hz,h2,h1]
theorem fg(hz:z<n)(bz:∀ j,j<n->f z j=j)(hb:b<n):∀ {l:List Nat},(∀ x∈l,x<n)->(∀ x∈l,f x b=b)->f (l.foldl f z) b=b
 | [],_,_=>bz b hb
 | y::l,h,k=>by
  have hy:=h y Qh
  have hl:∀ x∈l,x<n:=fun x m=>h x (Qg _ m)
  have e:(y::l).foldl f z=f y (l.foldl f z):=by
   show l.foldl f (f z y)=_
   rw[bz y hy,L.gr hz bz hy hl]
  rw[e]
  exact L.lub hy (L.fold_lt hz hl) hb (k y Qh) (fg hz bz hb hl fun x m=>k x (Qg _ m))
omit L
def low (n:Nat)(f:Nat->Nat->Nat)(x:Nat):List Nat:=(List.range n).filter fun y=>decide (f y x=x)
theorem eN:y∈low n f x ↔ y<n/\f y x=x:=by simp[low]
def lr (n:Nat)(f:Nat->Nat->Nat)(z:Nat)(r:Nat->Nat)(x:Nat):Nat:=((low n f x).map r).foldl f z
include L
variable {z:Nat}(hz:z<n)(bz:∀ j,j<n->f z j=j){r s:Nat->Nat}(hr:∀ i,i<n->r i<n)
include hz bz hr
theorem iK:∀ y∈(low n f x).map r,y<n:=fun y m=>by
 obtain⟨k,hk,rfl⟩:=Qr.mp m
 exact hr k (eN.mp hk).1
theorem mL(x:Nat):lr n f z r x<n:=L.fold_lt hz (iK L hz bz hr)
theorem wq(hy:y<n)(h:f y x=x):f (r y) (lr n f z r x)=lr n f z r x:=L.gq hz (iK L hz bz hr) (Qr.mpr ⟨y,eN.mpr ⟨hy,h⟩,rfl⟩)
theorem mM(hb:b<n)(h:∀ y,y<n->f y x=x->f (r y) b=b):f (lr n f z r x) b=b:=L.fg hz bz hb (iK L hz bz hr) fun y m=>by
 obtain⟨k,hk,rfl⟩:=Qr.mp m
 exact h k (eN.mp hk).1 (eN.mp hk).2
theorem mO(hx:x<n)(hy:y<n)(h:f x y=y):f (lr n f z r x) (lr n f z r y)=lr n f z r y:=
 L.mM hz bz hr (L.mL hz bz hr y) fun k hk e=>L.wq hz bz hr hk (L.le_trans hk hx hy e h)
end aV
theorem kS{α:Type}{us:List α}(h:us.length=1):∃ a,us=[a]:=match us,h with|[a],_=>⟨a,rfl⟩
theorem ij{α:Type}{us:List α}(h:us.length=2):∃ a b,us=[a,b]:=by
 cases us with
 | nil=>cases h
 | cons a us=>
  obtain⟨b,hh⟩:=kS (JC h)
  exact⟨a,b,by rw[hh]⟩
theorem kX{α:Type}{us:List α}(h:us.length=3):∃ a b c,us=[a,b,c]:=by
 cases us with
 | nil=>cases h
 | cons a us=>
  obtain⟨b,c,hh⟩:=ij (JC h)
  exact⟨a,b,c,by rw[hh]⟩
theorem CI{α:Type}{us:List α}(h:us.length=4):∃ a b c d,us=[a,b,c,d]:=by
 cases us with
 | nil=>cases h
 | cons a us=>
  obtain⟨b,c,d,hh⟩:=kX (JC h)
  exact⟨a,b,c,d,by rw[hh]⟩
theorem zj{pt:eT}{body:aH}{d:D}{ds:List D}{ρ ρ1 ρ2:aQ}(h1:pt d ρ=some ρ1)(h2:body ρ1=some (.nx ρ2)):dF pt body (d::ds) ρ=dF pt body ds ρ2:=by
 show(match pt d ρ with|none=>none|some ρ1=>_)=_
 simp only[h1,h2]
theorem Wf{pt:eT}{body:aH}{d d':D}{q:Nat}{ds:List D}{ρ ρ1:aQ}(h1:pt d ρ=some ρ1)(h2:body ρ1=some (.rt d' q)):dF pt body (d::ds) ρ=some (.rt d' q):=by
 unfold dF
 simp only[h1,h2]
theorem zk{α J σ:Type}{pt:eT}{body:aH}(enc:α->D)(S:σ->J->aQ)(g:σ->α->σ)(I:σ->Prop):∀ (l:List α) (s:σ) (j:J),I s->
  (∀ x∈l,∀ s j,I s->I (g s x)/\∃ ρ1 j',pt (enc x) (S s j)=some ρ1/\body ρ1=some (.nx (S (g s x) j')))->∃ j',dF pt body (l.map enc) (S s j)=some (.nx (S (l.foldl g s) j'))/\I (l.foldl g s)
 | [],s,j,i,_=>⟨j,rfl,i⟩
 | x::l,s,j,i,h=>by
  obtain⟨i1,ρ1,j1,h1,h2⟩:=h x Qh s j i
  obtain⟨j2,e,i2⟩:=zk enc S g I l (g s x) j1 i1 fun y m=>h y (Qg _ m)
  exact⟨j2,(zj h1 h2).trans e,i2⟩
theorem Hw{α J:Type}{pt:eT}{body:aH}{d:D}{q:Nat}(enc:α->D)(ok:α->Bool)(S:J->aQ):∀ (l:List α) (j:J),
  (∀ x∈l,∀ j,∃ ρ1,pt (enc x) (S j)=some ρ1/\(ok x=true->∃ j',body ρ1=some (.nx (S j')))/\(ok x=false->body ρ1=some (.rt d q)))->
  (l.all ok=true->∃ j',dF pt body (l.map enc) (S j)=some (.nx (S j')))/\(l.all ok=false->dF pt body (l.map enc) (S j)=some (.rt d q))
 | [],j,_=>⟨fun _=>⟨j,rfl⟩,fun h=>by simp at h⟩
 | x::l,j,h=>by
  obtain⟨ρ1,h1,h2,h3⟩:=h x Qh j
  rw[List.all_cons]
  cases hk:ok x with
  | false=>exact⟨fun z=>by simp at z,fun _=>Wf h1 (h3 hk)⟩
  | true=>
   obtain⟨j1,h4⟩:=h2 hk
   obtain⟨i1,i2⟩:=Hw enc ok S l j1 fun y m=>h y (Qg _ m)
   rw[J0,QG,zj h1 h4]
   exact⟨i1,i2⟩
theorem Hx{c:cO}{b:aH}{Q:aQ->Prop}(I:Nat->aQ->Prop)
  (h:∀ k ρ,I k ρ->(∃ ρ1,c ρ=some (false,ρ1)/\Q ρ1)\/(∃ ρ1 ρ2 k',c ρ=some (true,ρ1)/\b ρ1=some (.nx ρ2)/\k'<k/\I k' ρ2)):∀ m k ρ,k<m->I k ρ->∃ ρ',mj c b m ρ=some (.nx ρ')/\Q ρ'
 | 0,k,_,hk,_=>absurd hk (Q8 k)
 | m+1,k,ρ,hk,i=>by
  rcases h k ρ i with⟨ρ1,h1,h2⟩|⟨ρ1,ρ2,k',h1,h2,h3,h4⟩
  ·exact⟨ρ1,by unfold mj;simp[h1],h2⟩
  ·obtain⟨ρ',e,q⟩:=Hx I h m k' ρ2 (by omega) h4
   refine⟨ρ',?_,q⟩
   unfold mj
   simp[h1,h2,e]
theorem zm{c:cO}{b:aH}{Q:aQ->Prop}(I:Nat->aQ->Prop){k:Nat}{ρ:aQ}(hk:k<1000)(i:I k ρ)
  (h:∀ k ρ,I k ρ->(∃ ρ1,c ρ=some (false,ρ1)/\Q ρ1)\/(∃ ρ1 ρ2 k',c ρ=some (true,ρ1)/\b ρ1=some (.nx ρ2)/\k'<k/\I k' ρ2)):∃ ρ',qc c b ρ=some (.nx ρ')/\Q ρ':=Hx I h 1000 k ρ hk i
def gv (v:List Nat)(i:Nat):Nat:=v.getD i 0
theorem zo{v:List Nat}{i:Nat}(h:i<v.length):v[i]? = some (gv v i):=by unfold gv;simp[h]
theorem Wg{v:List Nat}{i:Nat}(h:i<v.length):gv v i∈v:=Hu h
theorem CJ{v:List Nat}{i:Nat}(h:i<v.length):cf (.lst (ak v)) (Int.ofNat i)=some (iD (gv v i)):=Cw (zo h)
theorem uf{v:List Nat}{i:Nat}(h:i<v.length):cf (.tup (ak v)) (Int.ofNat i)=some (iD (gv v i)):=Cw (zo h)
theorem Hy(v:List Nat)(i x:Nat):(ak v).set i (.int (Int.ofNat x))=ak (v.set i x):=by simp[ak,List.map_set]
theorem Wh{v:List Nat}{i:Nat}(h:i<v.length)(x j:Nat):gv (v.set i x) j=if j=i then x else gv v j:=by
 unfold gv
 rw[Qf,Qf]
 by_cases e:j=i
 ·subst e;rw[Qj rfl,QT h];rfl
 ·rw[Qk e,QX (fun z=>e z.symm)]
theorem Hz{u v:List Nat}(h:u.length=v.length)(k:∀ i,i<u.length->gv u i=gv v i):u=v:=by
 apply Zt
 intro i
 by_cases hi:i<u.length
 ·rw[zo hi,zo (by omega),k i hi]
 ·rw[QK (by omega),QK (by omega)]
theorem zq{p i:Nat}(g:Nat->Nat)(h:i<p):gv ((List.range p).map g) i=g i:=by unfold gv;simp[h]
structure Vn (n p:Nat) (v:List Nat):Prop where
 len:v.length=p
 lt:∀ x∈v,x<n
theorem Vn.gv{n p:Nat}{v:List Nat}(h:Vn n p v){i:Nat}(hi:i<p):gv v i<n:=h.lt _ (Wg (by rw[h.len];exact hi))
theorem Vn.set{n p:Nat}{v:List Nat}(h:Vn n p v){i x:Nat}(hx:x<n):Vn n p (v.set i x):=⟨by rw[Zh];exact h.len,fun y hy=>by
 rcases List.mem_or_eq_of_mem_set hy with h' | h'
 ·exact h.lt y h'
 ·rw[h'];exact hx⟩
theorem Vn.map{n p:Nat}{g:Nat->Nat}(h:∀ i,i<p->g i<n):Vn n p ((List.range p).map g):=⟨by simp,fun x hx=>by
 obtain⟨i,hi,rfl⟩:=Qr.mp hx
 exact h i (Qz.mp hi)⟩
def dI (f:Nat->Nat->Nat)(p:Nat)(u v:List Nat):Prop:=∀ i,i<p->f (gv u i) (gv v i)=gv v i
abbrev kY:=Nat×(List Nat->Nat)
def bb (f:Nat->Nat->Nat)(v:List Nat)(s:kY):List Nat:=v.set s.1 (f (gv v s.1) (s.2 v))
structure kB (n p:Nat) (f:Nat->Nat->Nat) (s:kY):Prop where
 pl:s.1<p
 lt:∀ v,Vn n p v->s.2 v<n
 mono:∀ u v,Vn n p u->Vn n p v->dI f p u v->f (s.2 u) (s.2 v)=s.2 v
def kZ (f:Nat->Nat->Nat)(l:List kY)(v:List Nat):Prop:=∀ s∈l,f (s.2 v) (gv v s.1)=gv v s.1
namespace aV
variable {s:kY}{u v:List Nat}
variable {n:Nat}{f:Nat->Nat->Nat}(L:aV n f){p:Nat}
include L
theorem gu(h:Vn n p v):dI f p v v:=fun i hi=>L.idem _ (h.gv hi)
theorem fi{w:List Nat}(hu:Vn n p u)(hv:Vn n p v)(hw:Vn n p w)(a:dI f p u v)(b:dI f p v w):dI f p u w:=fun i hi=>L.le_trans (hu.gv hi) (hv.gv hi) (hw.gv hi) (a i hi) (b i hi)
theorem gy(hu:Vn n p u)(hv:Vn n p v)(a:dI f p u v)(b:dI f p v u):u=v:=
 Hz (hu.len.trans hv.len.symm) fun i hi=>by
  rw[hu.len]at hi
  exact L.kA (hu.gv hi) (hv.gv hi) (a i hi) (b i hi)
theorem gz(hs:kB n p f s)(h:Vn n p v):Vn n p (bb f v s):=h.set (L.cl _ _ (h.gv hs.pl) (hs.lt v h))
theorem gA(hs:kB n p f s)(h:Vn n p v)(i:Nat):gv (bb f v s) i=if i=s.1 then f (gv v s.1) (s.2 v)else gv v i:=Wh (by rw[h.len];exact hs.pl) _ _
theorem jT(hs:kB n p f s)(h:Vn n p v):dI f p v (bb f v s):=fun i hi=>by
 rw[L.gA hs h]
 by_cases e:i=s.1
 ·subst e;rw[Qj rfl];exact L.su (h.gv hi) (hs.lt v h)
 ·rw[Qk e];exact L.idem _ (h.gv hi)
theorem mP(hs:kB n p f s)(hu:Vn n p u)(hv:Vn n p v)(a:dI f p u v):dI f p (bb f u s) (bb f v s):=fun i hi=>by
 rw[L.gA hs hu,L.gA hs hv]
 by_cases e:i=s.1
 ·subst e
  rw[Qj rfl,Qj rfl]
  have h1:=hu.gv hs.pl
  have h2:=hs.lt u hu
  have h3:=hv.gv hs.pl
  have h4:=hs.lt v hv
  exact L.lub h1 h2 (L.cl _ _ h3 h4) (L.le_trans h1 h3 (L.cl _ _ h3 h4) (a _ hs.pl) (L.su h3 h4)) (L.le_trans h2 h4 (L.cl _ _ h3 h4) (hs.mono u v hu hv a) (L.CH h3 h4))
 ·rw[Qk e,Qk e];exact a i hi
theorem iL(hs:kB n p f s)(h:Vn n p v):bb f v s=v ↔ f (s.2 v) (gv v s.1)=gv v s.1:=by
 constructor
 ·intro e
  have:=ZQ (fun u=>gv u s.1) e
  rw[L.gA hs h,Qj rfl]at this
  rw[L.comm _ _ (hs.lt v h) (h.gv hs.pl)]
  exact this
 ·intro e
  refine Hz (by unfold bb;rw[Zh]) fun i hi=>?_
  rw[L.gA hs h]
  by_cases e':i=s.1
  ·subst e';rw[Qj rfl,L.comm _ _ (h.gv hs.pl) (hs.lt v h)];exact e
  ·rw[Qk e']
theorem fX:∀ {l:List kY} {v:List Nat},(∀ s∈l,kB n p f s)->Vn n p v->Vn n p (l.foldl (bb f) v)
 | [],v,_,h=>h
 | s::l,v,hs,h=>fX (l:=l) (fun t m=>hs t (Qg _ m)) (L.gz (hs s Qh) h)
theorem dy:∀ {l:List kY} {v:List Nat},(∀ s∈l,kB n p f s)->Vn n p v->dI f p v (l.foldl (bb f) v)
 | [],v,_,h=>L.gu h
 | s::l,v,hs,h=>by
  have h1:=L.gz (hs s Qh) h
  have hl:∀ t∈l,kB n p f t:=fun t m=>hs t (Qg _ m)
  exact L.fi h h1 (L.fX (l:=l) hl h1) (L.jT (hs s Qh) h) (dy (l:=l) hl h1)
theorem dz{a:List Nat}(ha:Vn n p a):∀ {l:List kY} {v:List Nat},(∀ s∈l,kB n p f s)->Vn n p v->kZ f l a->dI f p v a->dI f p (l.foldl (bb f) v) a
 | [],v,_,h,_,e=>e
 | s::l,v,hs,h,c,e=>by
  have s0:=hs s Qh
  have h1:=L.gz s0 h
  have hl:∀ t∈l,kB n p f t:=fun t m=>hs t (Qg _ m)
  refine dz ha (l:=l) hl h1 (fun t m=>c t (Qg _ m)) ?_
  have:=L.mP s0 h ha e
  rw[(L.iL s0 ha).mpr (c s Qh)]at this
  exact this
theorem dJ:∀ {l:List kY} {v:List Nat},(∀ s∈l,kB n p f s)->Vn n p v->(l.foldl (bb f) v=v ↔ kZ f l v)
 | [],v,_,h=>⟨fun _ _ m=>(QI m).elim,fun _=>rfl⟩
 | s::l,v,hs,h=>by
  have s0:=hs s Qh
  have h1:=L.gz s0 h
  have hl:∀ t∈l,kB n p f t:=fun t m=>hs t (Qg _ m)
  constructor
  ·intro e
   have e0:l.foldl (bb f) (bb f v s)=v:=e
   have up:=L.dy hl h1
   rw[e0]at up
   have e1:bb f v s=v:=L.gy h1 h up (L.jT s0 h)
   rw[e1]at e0
   have c:=(dJ (l:=l) hl h).mp e0
   intro t m
   rcases Qw.mp m with rfl|m
   ·exact(L.iL s0 h).mp e1
   ·exact c t m
  ·intro c
   show l.foldl (bb f) (bb f v s)=v
   rw[(L.iL s0 h).mpr (c s Qh)]
   exact(dJ (l:=l) hl h).mpr fun t m=>c t (Qg _ m)
def cnt (n:Nat)(f:Nat->Nat->Nat)(x:Nat):Nat:=((List.range n).filter fun y=>decide (f x y=y)).length
def mu (n:Nat)(f:Nat->Nat->Nat)(v:List Nat):Nat:=(v.map (cnt n f)).sum
omit L in
theorem Wi(x:Nat):cnt n f x<=n:=by
 have:=Zx (fun y=>decide (f x y=y)) (List.range n)
 rw[QM]at this
 exact this
omit L in
theorem qA(h:Vn n p v):mu n f v<=p*n:=by
 have key:∀ l:List Nat,(l.map (cnt n f)).sum<=l.length*n:=by
  intro l
  induction l with
  | nil=>simp
  | cons x l ih=>
   have:=Wi (n:=n) (f:=f) x
   simp only[QG,List.sum_cons,QO,V9]
   omega
 have:=key v
 rw[h.len]at this
 exact this
omit L in
theorem HA{q r:Nat->Bool}{a:Nat}:∀ {l:List Nat},(∀ x∈l,r x=true->q x=true)->a∈l->q a=true->r a=false->(l.filter r).length<(l.filter q).length
 | y::l,h,ha,hq,hr=>by
  have hl:∀ x∈l,r x=true->q x=true:=fun x m=>h x (Qg _ m)
  have le:∀ l:List Nat,(∀ x∈l,r x=true->q x=true)->(l.filter r).length<=(l.filter q).length:=by
   intro l
   induction l with
   | nil=>intro _;simp
   | cons z l ih=>
    intro h
    have i:=ih fun x m=>h x (Qg _ m)
    by_cases hz:r z=true
    ·rw[Zs hz,Zs (h z Qh hz)]
     simp only[QO];omega
    ·rw[ZH hz]
     by_cases wu:q z=true
     ·rw[Zs wu];simp only[QO];omega
     ·rw[ZH wu];exact i
  by_cases e:y=a
  ·subst e
   rw[ZH (by rw[hr];simp),Zs hq]
   have:=le l hl
   simp only[QO];omega
  ·have CK:a∈l:=by
    rcases Qw.mp ha with h' | h'
    ·exact absurd h'.symm e
    ·exact h'
   have i:=HA (l:=l) hl CK hq hr
   by_cases hz:r y=true
   ·rw[Zs hz,Zs (h y Qh hz)]
    simp only[QO];omega
   ·rw[ZH hz]
    by_cases wu:q y=true
    ·rw[Zs wu];simp only[QO];omega
    ·rw[ZH wu];exact i
theorem sv{x y:Nat}(hx:x<n)(hy:y<n)(h:f x y=y)(ne:x≠y):cnt n f y<cnt n f x:=by
 refine HA (a:=x) (fun k m hk=>?_) (Qz.mpr hx) (QA (L.idem x hx)) (QZ fun e=>ne (L.kA hx hy h e))
 exact QA (L.le_trans hx hy (Qz.mp m) h (QV hk))
theorem mQ(hu:Vn n p u)(hv:Vn n p v)(a:dI f p u v)(ne:u≠v):mu n f v<mu n f u:=by
 have key:∀ (u v:List Nat),u.length=v.length->(∀ x∈u,x<n)->(∀ x∈v,x<n)->(∀ i,i<u.length->f (gv u i) (gv v i)=gv v i)->((v.map (cnt n f)).sum<=(u.map (cnt n f)).sum)/\(u≠v->(v.map (cnt n f)).sum<(u.map (cnt n f)).sum):=by
  intro u
  induction u with
  | nil=>
   intro v hl _ _ _
   have:v=[]:=Zj.mp hl.symm
   subst this
   exact⟨Qi _,fun h=>absurd rfl h⟩
  | cons x u ih=>
   intro v hl h1 h2 h3
   cases v with
   | nil=>cases hl
   | cons y v=>
    have iy:u.length=v.length:=by simpa using hl
    obtain⟨i1,i2⟩:=ih v iy (fun z m=>h1 z (Qg _ m)) (fun z m=>h2 z (Qg _ m)) (fun i hi=>h3 (i+1) (by simpa using hi))
    have e0:f x y=y:=h3 0 (by simp)
    have hx:=h1 x Qh
    have hy:=h2 y Qh
    simp only[QG,List.sum_cons]
    by_cases e:x=y
    ·subst e
     exact⟨by omega,fun h=>by have:=i2 (fun z=>h (by rw[z]));omega⟩
    ·have:=L.sv hx hy e0 e
     exact⟨by omega,fun _=>by omega⟩
 exact(key u v (hu.len.trans hv.len.symm) hu.lt hv.lt (fun i hi=>a i (by rw[<- hu.len];exact hi))).2 ne
end aV
end L3
namespace My
open PySem PySem.Spec PyProof.Rows L2 L3
variable {M ks l nw:List (Nat×Nat)}{T:List ((Nat×Nat)×Nat)}{a i j m n p q q' q2 z:Nat}{b:Bool}{d x:D}{ds:List D}{f:Nat->Nat->Nat}{fk fz te:aA}{g h:cO}{r:Nat->Nat}{st:Stmt}{v:List Nat}{y:List Key}{ρ ρ1 ρ2:aQ}
def top (i:Nat):Stmt:=PySem.Challenge.pw_ladderhall_k42_whole_by_paths.main.body.getD i (.Pass ⟨0,0,0,0⟩)
structure Bt (mg:Str->Option Value):Prop where
 wx:mg "all" = none
 sx:mg "bool" = none
 je:mg "enumerate" = none
 qB:mg "int" = none
 cw:mg "isinstance" = none
 aN:mg "len" = none
 d8:mg "list" = none
 qC:mg "max" = none
 av:mg "range" = none
 wy:mg "set" = none
 gB:mg "sorted" = none
 wz:mg "str" = none
 bC:mg "tuple" = none
section
variable {P:Program}{w:World}{K:PySem.W.Frag}{mg:Str->Option Value}{base:Heap}
def HB:aH:=aG (dZ (bB (e2 l9 (aa 1) (bZ 0))) (bF (aw 0 (aa 1))) fJ)
 (aG (dZ (bB (e2 cS (aa 0) (c_ ag))) (bF (eC (.int 0))) fJ)
 (bF (e2 cn (e2 kc (aw 0 (e2 rn (aa 1) (bZ 0))) (eC (.int 31))) (aa 1))))
def wA:=bT 2 (HB)
theorem Wj:af ["_law_script","_law_k"] ["_law_script","_law_k"] (bu (top 32)):=cK (by decide +kernel)
theorem Wl(B:Bt mg)(a:At K mg "_law_cell" (top 32) ["_law_script","_law_k"]):ay P w K mg base 1 "_law_cell" 2 (wA):=
 ay.cQ a Wj fun _ _ _ _ _ _ _ hr=>
  aM (gX (vd (aD 1 rfl rfl) (eZ B.aN (ql 0 rfl rfl))) (aR (bQ (aX (ql 0 rfl rfl) (aD 1 rfl rfl)))) gW)
  (aM (gX (lu hr (aD 0 rfl rfl) (fI aq)) (aR (bQ aS)) gW)
  (aR (bQ (dE (l8 (aX (ql 0 rfl rfl) (tU (aD 1 rfl rfl) (eZ B.aN (ql 0 rfl rfl)))) aS) (aD 1 rfl rfl)))))
def HC:aH:=aG (bg 3 (e2 rn (e2 kc (e2 cn (aL wA 2 (ab (aa 0) (ab (aa 1) ag))) (e2 kc (eC (.int 6151)) (e2 cn (aa 1) (eC (.int 1))))) (eC (.int 40692))) (eC (.int 2147483399))))
 (bF (e2 rn (e2 rn (e2 cn (e2 kc (aa 3) (aa 3)) (e2 yd (aa 3) (eC (.int 31)))) (eC (.int 2147483629))) (aa 2)))
def dQ:=bT 4 (HC)
theorem HD:af ["_law_script","_law_k","_law_many","_law_drawn"] ["_law_script","_law_k","_law_many"] (bu (top 33)):=cK (by decide +kernel)
theorem Wm(B:Bt mg)(c8:ay P w K mg base 1 "_law_cell" 2 wA)(a:At K mg "_law_pick" (top 33) ["_law_script","_law_k","_law_many"]):ay P w K mg base 2 "_law_pick" 3 (dQ):=
 ay.cQ a HD fun _ _ _ _ _ _ _ hr=>
  aM (bG (i:=3) HD.nd rfl (Or.inl rfl) (tU (l8 (dE (bq c8 hr (by decide) (aI 0 rfl rfl (aI 1 rfl rfl aq))) (l8 aS (dE (aD 1 rfl rfl) aS))) aS) aS))
  (aR (bQ (tU (tU (dE (l8 (aD 3 rfl rfl) (aD 3 rfl rfl)) (Bc (aD 3 rfl rfl) aS)) aS) (aD 2 rfl rfl))))
def Wo:aH:=bF (dN 1 (cI (ab (aa 0) ag)) (aC 1) da (dN 1 (cI (ab (aa 0) ag)) (aC 2) da (eB yt (ab (aa 1) (ab (aa 2) ag))) false) false)
def jU:=bT 1 (Wo)
theorem Wp:af ["_law_many"] ["_law_many"] (bu (top 34)):=cK (by decide +kernel)
abbrev HE:List Str:=["_law_many","_law_one","_law_other"]
theorem Wq:(HE).Nodup:=by decide +kernel
abbrev HF:List Str:=["_law_many","_law_one"]
theorem Wr:(HF).Nodup:=by decide +kernel
theorem Ws(B:Bt mg)(a:At K mg "_law_chain" (top 34) ["_law_many"]):ay P w K mg base 1 "_law_chain" 1 (jU):=
 ay.cQ a Wp fun _ _ _ _ _ _ _ hr=>
  aR (bQ (iV (k:=1) (N':=HF) false rfl ⟨rfl,by decide +kernel,rfl,rfl,rfl⟩ (fA B.av (au (bE (qv 0)) aq dG)) (fun _ _ _ _=>bR (i:=1) (show 1<=1 by decide) Wr rfl (Or.inr rfl) (Or.inl rfl)) (fun _ _ _ _=>ke) (fun _ _ _ _=>iV (k:=1) (N':=HE) false rfl ⟨rfl,by decide +kernel,rfl,rfl,rfl⟩ (fA B.av (au (bE (qv 0)) aq dG)) (fun _ _ _ _=>bR (i:=2) (show 2<=2 by decide) Wq rfl (Or.inl rfl) (Or.inr rfl)) (fun _ _ _ _=>ke) (fun _ _ _ _=>Fm rfl B.qC VU (au (bE (qv 1)) (au (bE (qv 2)) aq dG) dG)))))
abbrev Wt:aH:=aG (bg 7 (cL (aw 0 (e2 yd (aa 4) (aa 2))) (e2 yd (aa 6) (aa 2))))
 (fK (jb 5 (ab (e2 cn (e2 kc (aa 7) (aa 2)) (cL (aw 1 (e2 rn (aa 4) (aa 2))) (e2 rn (aa 6) (aa 2)))) ag)))
abbrev Wu:aH:=aG (bg 5 (c_ ag))
 (aG (dU (cI (ab (e2 kc (bZ 0) (aa 2)) ag)) (aC 6) Wt)
 (fK (jb 3 (ab (aa 5) ag))))
def Wv:aH:=aG (bg 2 (bZ 1))
 (aG (bg 3 (c_ ag))
 (aG (dU (cI (ab (e2 kc (bZ 0) (aa 2)) ag)) (aC 4) Wu)
 (bF (aa 3))))
def nK:=bT 8 (Wv)
theorem sy:af ["_law_one","_law_other","_law_many","_law_made","_law_here","_law_row","_law_there","_law_first"] ["_law_one","_law_other"] (bu (top 35)):=cK (by decide +kernel)
theorem Ww(B:Bt mg)(a:At K mg "_law_couples" (top 35) ["_law_one","_law_other"]):ay P w K mg base 1 "_law_couples" 2 (nK):=
 ay.cQ a sy fun _ _ _ _ _ _ _ hr=>
  aM (bG (i:=2) sy.nd rfl (Or.inl rfl) (eZ B.aN (ql 1 rfl rfl)))
  (aM (bG (i:=3) sy.nd rfl (Or.inl rfl) (fI aq))
  (aM (fR QF rfl (fA B.av (au (l8 (eZ B.aN (ql 0 rfl rfl)) (aD 2 rfl rfl)) aq fL)) (bR (i:=4) (show 0<=4 by decide) sy.nd rfl (Or.inl rfl)) (aM (bG (i:=5) sy.nd rfl (Or.inl rfl) (fI aq))
  (aM (fR QF rfl (fA B.av (au (l8 (eZ B.aN (ql 0 rfl rfl)) (aD 2 rfl rfl)) aq fL)) (bR (i:=6) (show 0<=6 by decide) sy.nd rfl (Or.inl rfl)) (aM (bG (i:=7) sy.nd rfl (Or.inl rfl) (fQ (aX (ql 0 rfl rfl) (Bc (aD 4 rfl rfl) (aD 2 rfl rfl))) (Bc (aD 6 rfl rfl) (aD 2 rfl rfl))))
  (aR (jO (mh (ql 5 rfl rfl) (au (dE (l8 (aD 7 rfl rfl) (aD 2 rfl rfl)) (fQ (aX (ql 1 rfl rfl) (tU (aD 4 rfl rfl) (aD 2 rfl rfl))) (tU (aD 6 rfl rfl) (aD 2 rfl rfl)))) aq fL))))))
  (aR (jO (mh (ql 3 rfl rfl) (aI 5 rfl rfl aq)))))))
  (aR (bQ (aD 3 rfl rfl)))))
abbrev Wx:aH:=fK (jb 3 (ab (Bg (ny (bB (e2 yp (eC (.int 0)) (dS (ab (aa 2) (ab (aa 4) ag))))) (bB (e2 cS (aa 2) (aa 4)))) (eB yt (ab (aa 2) (ab (aa 4) ag))) (e2 cn (aa 0) (eC (.int 1)))) ag))
abbrev Wy:aH:=aG (bg 3 (c_ ag))
 (aG (dU (cI (ab (e2 cn (aa 0) (eC (.int 2))) ag)) (aC 4) Wx)
 (fK (jb 1 (ab (aa 3) ag))))
def Wz:aH:=aG (bg 1 (c_ ag))
 (aG (dU (cI (ab (e2 cn (aa 0) (eC (.int 2))) ag)) (aC 2) Wy)
 (bF (aa 1)))
def oV:=bT 5 (Wz)
theorem wB:af ["_law_many","_law_made","_law_one","_law_row","_law_other"] ["_law_many"] (bu (top 36)):=cK (by decide +kernel)
theorem WA(B:Bt mg)(a:At K mg "_law_side_by_side" (top 36) ["_law_many"]):ay P w K mg base 1 "_law_side_by_side" 1 (oV):=
 ay.cQ a wB fun _ _ _ _ _ _ _ hr=>
  aM (bG (i:=1) wB.nd rfl (Or.inl rfl) (fI aq))
  (aM (fR QF rfl (fA B.av (au (dE (aD 0 rfl rfl) aS) aq fL)) (bR (i:=2) (show 0<=2 by decide) wB.nd rfl (Or.inl rfl)) (aM (bG (i:=3) wB.nd rfl (Or.inl rfl) (fI aq))
  (aM (fR QF rfl (fA B.av (au (dE (aD 0 rfl rfl) aS) aq fL)) (bR (i:=4) (show 0<=4 by decide) wB.nd rfl (Or.inl rfl)) (aR (jO (mh (ql 3 rfl rfl) (au (OJ (sj (vg (Pc hr aS (gU (aI 2 rfl rfl (aI 4 rfl rfl aq)))) (yg (lu hr (aD 2 rfl rfl) (aD 4 rfl rfl))))) (Fm rfl B.qC VU (aI 2 rfl rfl (aI 4 rfl rfl aq))) (dE (aD 0 rfl rfl) aS)) aq PU)))))
  (aR (jO (mh (ql 1 rfl rfl) (aI 3 rfl rfl aq)))))))
  (aR (bQ (aD 1 rfl rfl))))
def HG:aH:=aG (bg 2 (aL dQ 3 (ab (aa 0) (ab (aa 1) (ab (eC (.int 9)) ag)))))
 (aG (dZ (bB (e2 l9 (aa 2) (eC (.int 3)))) (bF (aL jU 1 (ab (e2 cn (eC (.int 1)) (aL dQ 3 (ab (aa 0) (ab (e2 cn (aa 1) (eC (.int 1))) (ab (eC (.int 5)) ag))))) ag))) fJ)
 (aG (dZ (bB (e2 l9 (aa 2) (eC (.int 5)))) (bF (aL nK 2 (ab (aL jU 1 (ab (eC (.int 2)) ag)) (ab (aL jU 1 (ab (cL (c_ (ab (eC (.int 2)) (ab (eC (.int 3)) (ab (eC (.int 4)) ag)))) (aL dQ 3 (ab (aa 0) (ab (e2 cn (aa 1) (eC (.int 1))) (ab (eC (.int 3)) ag))))) ag)) ag)))) fJ)
 (aG (dZ (bB (e2 l9 (aa 2) (eC (.int 7)))) (bF (aL oV 1 (ab (aL dQ 3 (ab (aa 0) (ab (e2 cn (aa 1) (eC (.int 1))) (ab (eC (.int 5)) ag)))) ag))) fJ)
 (aG (dZ (bB (e2 cS (aa 2) (eC (.int 7)))) (bF (aL nK 2 (ab (aL jU 1 (ab (eC (.int 2)) ag)) (ab (aL nK 2 (ab (aL jU 1 (ab (eC (.int 2)) ag)) (ab (aL jU 1 (ab (eC (.int 2)) ag)) ag))) ag)))) fJ)
 (aG (bg 3 (c_ (ab (c_ (ab (eC (.int 0)) (ab (eC (.int 1)) (ab (eC (.int 2)) (ab (eC (.int 3)) (ab (eC (.int 4)) ag)))))) (ab (c_ (ab (eC (.int 1)) (ab (eC (.int 1)) (ab (eC (.int 2)) (ab (eC (.int 4)) (ab (eC (.int 4)) ag)))))) (ab (c_ (ab (eC (.int 2)) (ab (eC (.int 2)) (ab (eC (.int 2)) (ab (eC (.int 4)) (ab (eC (.int 4)) ag)))))) (ab (c_ (ab (eC (.int 3)) (ab (eC (.int 4)) (ab (eC (.int 4)) (ab (eC (.int 3)) (ab (eC (.int 4)) ag)))))) (ab (c_ (ab (eC (.int 4)) (ab (eC (.int 4)) (ab (eC (.int 4)) (ab (eC (.int 4)) (ab (eC (.int 4)) ag)))))) ag)))))))
 (bF (aa 3)))))))
def wC:=bT 4 (HG)
theorem CL:af ["_law_script","_law_at","_law_kind","_law_rows"] ["_law_script","_law_at"] (bu (top 37)):=cK (by decide +kernel)
theorem WB(B:Bt mg)(il:ay P w K mg base 2 "_law_pick" 3 dQ)(ug:ay P w K mg base 1 "_law_chain" 1 jU)(CM:ay P w K mg base 1 "_law_couples" 2 nK)(WC:ay P w K mg base 1 "_law_side_by_side" 1 oV)(a:At K mg "_law_base" (top 37) ["_law_script","_law_at"]):ay P w K mg base 3 "_law_base" 2 (wC):=
 ay.cQ a CL fun _ _ _ _ _ _ _ hr=>
  aM (bG (i:=2) CL.nd rfl (Or.inl rfl) (bq il hr (by decide) (aI 0 rfl rfl (aI 1 rfl rfl (cN aq)))))
  (aM (gX (vd (aD 2 rfl rfl) aS) (aR (bQ (bq ug hr (by decide) (au (dE aS (bq il hr (by decide) (aI 0 rfl rfl (au (dE (aD 1 rfl rfl) aS) (cN aq) fL)))) aq fL)))) gW)
  (aM (gX (vd (aD 2 rfl rfl) aS) (aR (bQ (bq CM hr (by decide) (au (bq ug hr (by decide) (cN aq)) (au (bq ug hr (by decide) (au (fQ (fI (cN (cN (cN aq)))) (bq il hr (by decide) (aI 0 rfl rfl (au (dE (aD 1 rfl rfl) aS) (cN aq) fL)))) aq fU)) aq cu) cu)))) gW)
  (aM (gX (vd (aD 2 rfl rfl) aS) (aR (bQ (bq WC hr (by decide) (au (bq il hr (by decide) (aI 0 rfl rfl (au (dE (aD 1 rfl rfl) aS) (cN aq) fL))) aq cu)))) gW)
  (aM (gX (lu hr (aD 2 rfl rfl) aS) (aR (bQ (bq CM hr (by decide) (au (bq ug hr (by decide) (cN aq)) (au (bq CM hr (by decide) (au (bq ug hr (by decide) (cN aq)) (au (bq ug hr (by decide) (cN aq)) aq cu) cu)) aq cu) cu)))) gW)
  (aM (bG (i:=3) CL.nd rfl (Or.inl rfl) (fI (au (fI (cN (cN (cN (cN (cN aq)))))) (au (fI (cN (cN (cN (cN (cN aq)))))) (au (fI (cN (cN (cN (cN (cN aq)))))) (au (fI (cN (cN (cN (cN (cN aq)))))) (au (fI (cN (cN (cN (cN (cN aq)))))) aq tY) tY) tY) tY) tY)))
  (aR (bQ (aD 3 rfl rfl))))))))
abbrev WD:aH:=vp 5 (rJ 4 (oJ 6)) (rJ 4 (oJ 7)) (aw 4 (cL (aw 2 (aa 6)) (aa 7)))
abbrev WE:aH:=dU (cI (ab (bZ 2) ag)) (aC 7) (WD)
def HH:aH:=aG (bg 2 (aL wC 2 (ab (aa 0) (ab (aa 1) ag))))
 (aG (bg 3 (oH (ab (bZ 2) ag)))
 (aG (bg 4 (dN 1 (cI (ab (bZ 2) ag)) (aC 8) da (vm 3 (ab (aL dQ 3 (ab (aa 0) (ab (e2 cn (e2 cn (aa 1) (eC (.int 2))) (aa 8)) (ab (bZ 3) ag)))) ag)) false))
 (aG (bg 5 (dN 1 (cW (aa 2)) (aC 8) da (tX (c_ (ab (eC (.int 0)) ag)) (bZ 2)) true))
 (aG (dU (cI (ab (bZ 2) ag)) (aC 6) WE)
 (bF (iG (ab (dN 1 (cW (aa 5)) (aC 8) da (iG (ab (aa 8) ag)) false) ag)))))))
def wD:=bT 8 (HH)
theorem sA:af ["_law_script","_law_at","_law_base_here","_law_left","_law_name","_law_made","_law_one","_law_other"] ["_law_script","_law_at"] (bu (top 38)):=cK (by decide +kernel)
abbrev HI:List Str:=["_law_script","_law_at","_law_base_here","_law_left","_law_name","_law_made","_law_one","_law_other","_law_k"]
theorem WG:(HI).Nodup:=by decide +kernel
abbrev CN:List Str:=["_law_script","_law_at","_law_base_here","_law_left","_law_name","_law_made","_law_one","_law_other","_law_row"]
theorem HJ:(CN).Nodup:=by decide +kernel
theorem WH(B:Bt mg)(c7:ay P w K mg base 3 "_law_base" 2 wC)(il:ay P w K mg base 2 "_law_pick" 3 dQ)(a:At K mg "_law_ladder" (top 38) ["_law_script","_law_at"]):ay P w K mg base 4 "_law_ladder" 2 (wD):=
 ay.cQ a sA fun _ _ _ _ _ _ _ hr=>
  aM (bG (i:=2) sA.nd rfl (Or.inr rfl) (bq c7 hr (by decide) (au (bE (qv 0)) (au (bE (qv 1)) aq dG) dG)))
  (aM (bG (i:=3) sA.nd rfl (Or.inr rfl) (Bp rfl B.d8 ZB B.av (au (eZ B.aN (qv 2)) aq cu)))
  (aM (yn (i:=4) (k:=1) (N':=HI) false sA.nd rfl (Or.inl rfl) rfl rfl ⟨rfl,by decide +kernel,rfl,rfl,rfl⟩ (fA B.av (au (eZ B.aN (qv 2)) aq cu)) (fun _ _ _ _=>bR (i:=8) (show 8<=8 by decide) WG rfl (Or.inl rfl) (Or.inr rfl)) (fun _ _ _ _=>ke) (fun _ _ _ _=>PF (qv 3) (au (bq il hr (by decide) (au (bE (qv 0)) (au (dE (dE (bE (qv 1)) aS) (bE (qv 8))) (au (eZ B.aN (qv 3)) aq cu) fL) dG)) aq cu)))
  (aM (yn (i:=5) (k:=1) (N':=CN) true sA.nd rfl (Or.inl rfl) rfl rfl ⟨rfl,by decide +kernel,rfl,rfl,rfl⟩ (iF (bE (qv 2))) (fun _ _ _ _=>bR (i:=8) (show 8<=8 by decide) HJ rfl (Or.inl rfl) (Or.inr rfl)) (fun _ _ _ _=>ke) (fun _ _ _ _=>FA (fI (cN aq)) (eZ B.aN (qv 2))))
  (aM (fR QF rfl (fA B.av (au (eZ B.aN (qv 2)) aq cu)) (bR (i:=6) (show 0<=6 by decide) sA.nd rfl (Or.inl rfl)) (aR (fR QF rfl (fA B.av (au (eZ B.aN (qv 2)) aq cu)) (bR (i:=7) (show 0<=7 by decide) sA.nd rfl (Or.inl rfl)) (aR (PN (ql 5 rfl rfl) (FD (ql 4 rfl rfl) (yv (ql 6 rfl rfl))) (FD (ql 4 rfl rfl) (yv (ql 7 rfl rfl))) (aX (ql 4 rfl rfl) (fQ (aX (qv 2) (aD 6 rfl rfl)) (aD 7 rfl rfl))))))))
  (aR (bQ (nF B.bC QY (au (iV (k:=1) (N':=CN) false rfl ⟨rfl,by decide +kernel,rfl,rfl,rfl⟩ (iF (aD 5 rfl rfl)) (fun _ _ _ _=>bR (i:=8) (show 8<=8 by decide) HJ rfl (Or.inl rfl) (Or.inr rfl)) (fun _ _ _ _=>ke) (fun _ _ _ _=>nF B.bC QY (au (bE (qv 8)) aq dG))) aq rL))))))))
def HK:aH:=bF (cL (dN 1 (cI (ab (bZ 0) ag)) (aC 1) (bB (e2 cS (vi (ab (aw 0 (aa 1)) ag)) (oH (ab (bZ 0) ag)))) (aa 1) false) (eC (.int 0)))
def nN:=bT 1 (HK)
theorem WI:af ["_law_ladder_here"] ["_law_ladder_here"] (bu (top 39)):=cK (by decide +kernel)
abbrev HL:List Str:=["_law_ladder_here","_law_worth"]
theorem WJ:(HL).Nodup:=by decide +kernel
theorem WK(B:Bt mg)(a:At K mg "_law_low" (top 39) ["_law_ladder_here"]):ay P w K mg base 1 "_law_low" 1 (nN):=
 ay.cQ a WI fun _ _ _ _ _ _ _ hr=>
  aR (bQ (fQ (iV (k:=1) (N':=HL) false rfl ⟨rfl,by decide +kernel,rfl,rfl,rfl⟩ (fA B.av (au (eZ B.aN (qv 0)) aq cu)) (fun _ _ _ _=>bR (i:=1) (show 1<=1 by decide) WJ rfl (Or.inl rfl) (Or.inr rfl)) (fun _ _ _ _=>pX (lu hr (Pd B.d8 ZB (au (aX (qv 0) (bE (qv 1))) aq fU)) (Bp rfl B.d8 ZB B.av (au (eZ B.aN (qv 0)) aq cu)))) (fun _ _ _ _=>bE (qv 1))) aS))
abbrev WM:aH:=bg 2 (cL (aw 0 (aa 2)) (aa 3))
def HM:aH:=aG (bg 2 (aL nN 1 (ab (aa 0) ag)))
 (aG (dU (cW (aa 1)) (aC 3) WM)
 (bF (aa 2)))
def oW:=bT 4 (HM)
theorem zr:af ["_law_ladder_here","_law_worths_here","_law_here","_law_worth"] ["_law_ladder_here","_law_worths_here"] (bu (top 40)):=cK (by decide +kernel)
theorem WN(B:Bt mg)(wF:ay P w K mg base 1 "_law_low" 1 nN)(a:At K mg "_law_join" (top 40) ["_law_ladder_here","_law_worths_here"]):ay P w K mg base 2 "_law_join" 2 (oW):=
 ay.cQ a zr fun _ _ _ _ _ _ _ hr=>
  aM (bG (i:=2) zr.nd rfl (Or.inl rfl) (bq wF hr (by decide) (aI 0 rfl rfl aq)))
  (aM (fR QF rfl (iF (aD 1 rfl rfl)) (bR (i:=3) (show 0<=3 by decide) zr.nd rfl (Or.inl rfl)) (aR (bG (i:=2) zr.nd rfl (Or.inl rfl) (fQ (aX (ql 0 rfl rfl) (aD 2 rfl rfl)) (aD 3 rfl rfl)))))
  (aR (bQ (aD 2 rfl rfl))))
def HN:aH:=bF (dN 1 (cI (ab (bZ 0) ag)) (aC 2) (bB (e2 cS (cL (aw 0 (aa 2)) (aa 1)) (aa 1))) (aa 2) false)
def qD:=bT 2 (HN)
theorem WO:af ["_law_ladder_here","_law_worth"] ["_law_ladder_here","_law_worth"] (bu (top 41)):=cK (by decide +kernel)
abbrev HP:List Str:=["_law_ladder_here","_law_worth","_law_one"]
theorem WQ:(HP).Nodup:=by decide +kernel
theorem WR(B:Bt mg)(a:At K mg "_law_under" (top 41) ["_law_ladder_here","_law_worth"]):ay P w K mg base 1 "_law_under" 2 (qD):=
 ay.cQ a WO fun _ _ _ _ _ _ _ hr=>
  aR (bQ (iV (k:=1) (N':=HP) false rfl ⟨rfl,by decide +kernel,rfl,rfl,rfl⟩ (fA B.av (au (eZ B.aN (qv 0)) aq cu)) (fun _ _ _ _=>bR (i:=2) (show 2<=2 by decide) WQ rfl (Or.inl rfl) (Or.inr rfl)) (fun _ _ _ _=>pX (lu hr (fQ (aX (qv 0) (bE (qv 2))) (bE (qv 1))) (bE (qv 1)))) (fun _ _ _ _=>bE (qv 2))))
abbrev WS:aH:=fK (jb 6 (ab (aL oW 2 (ab (aa 2) (ab (dN 1 (cW (aL qD 2 (ab (aa 2) (ab (aa 5) ag)))) (aC 7) da (aw 4 (aa 7)) false) ag))) ag))
abbrev WT:aH:=fK (jb 4 (ab (cL (c_ (ab (aa 3) (ab (aa 5) (ab (aL dQ 3 (ab (aa 0) (ab (e2 cn (aa 1) (aa 5)) (ab (bZ 2) ag)))) ag)))) (aL dQ 3 (ab (aa 0) (ab (e2 cn (e2 cn (aa 1) (eC (.int 8))) (aa 5)) (ab (eC (.int 3)) ag))))) ag))
def HQ:aH:=aG (bg 3 (aL nN 1 (ab (aa 2) ag)))
 (aG (bg 4 (c_ ag))
 (aG (dU (cI (ab (bZ 2) ag)) (aC 5) WT)
 (aG (bg 6 (c_ ag))
 (aG (dU (cI (ab (bZ 2) ag)) (aC 5) WS)
 (bF (iG (ab (aa 6) ag)))))))
def sC:=bT 7 (HQ)
theorem uh:af ["_law_script","_law_at","_law_ladder_here","_law_low_here","_law_drawn","_law_worth","_law_made"] ["_law_script","_law_at","_law_ladder_here"] (bu (top 42)):=cK (by decide +kernel)
abbrev HR:List Str:=["_law_script","_law_at","_law_ladder_here","_law_low_here","_law_drawn","_law_worth","_law_made","_law_one"]
theorem WU:(HR).Nodup:=by decide +kernel
theorem WV(B:Bt mg)(wF:ay P w K mg base 1 "_law_low" 1 nN)(il:ay P w K mg base 2 "_law_pick" 3 dQ)(CO:ay P w K mg base 2 "_law_join" 2 oW)(WW:ay P w K mg base 1 "_law_under" 2 qD)(a:At K mg "_law_rule" (top 42) ["_law_script","_law_at","_law_ladder_here"]):ay P w K mg base 3 "_law_rule" 3 (sC):=
 ay.cQ a uh fun _ _ _ _ _ _ _ hr=>
  aM (bG (i:=3) uh.nd rfl (Or.inl rfl) (bq wF hr (by decide) (aI 2 rfl rfl aq)))
  (aM (bG (i:=4) uh.nd rfl (Or.inr rfl) (fI aq))
  (aM (fR QF rfl (fA B.av (au (eZ B.aN (ql 2 rfl rfl)) aq cu)) (bR (i:=5) (show 0<=5 by decide) uh.nd rfl (Or.inl rfl)) (aR (jO (mh (qv 4) (au (fQ (fI (aI 3 rfl rfl (aI 5 rfl rfl (au (bq il hr (by decide) (aI 0 rfl rfl (au (dE (aD 1 rfl rfl) (aD 5 rfl rfl)) (au (eZ B.aN (ql 2 rfl rfl)) aq cu) fL))) aq cu)))) (bq il hr (by decide) (aI 0 rfl rfl (au (dE (dE (aD 1 rfl rfl) aS) (aD 5 rfl rfl)) (cN aq) fL)))) aq fU)))))
  (aM (bG (i:=6) uh.nd rfl (Or.inl rfl) (fI aq))
  (aM (fR QF rfl (fA B.av (au (eZ B.aN (ql 2 rfl rfl)) aq cu)) (bR (i:=5) (show 0<=5 by decide) uh.nd rfl (Or.inl rfl)) (aR (jO (mh (ql 6 rfl rfl) (au (bq CO hr (by decide) (aI 2 rfl rfl (au (iV (k:=1) (N':=HR) false rfl ⟨rfl,by decide +kernel,rfl,rfl,rfl⟩ (iF (bq WW hr (by decide) (aI 2 rfl rfl (aI 5 rfl rfl aq)))) (fun _ _ _ _=>bR (i:=7) (show 7<=7 by decide) WU rfl (Or.inl rfl) (Or.inr rfl)) (fun _ _ _ _=>ke) (fun _ _ _ _=>aX (qv 4) (bE (qv 7)))) aq rL))) aq cu)))))
  (aR (bQ (nF B.bC QY (aI 6 rfl rfl aq))))))))
abbrev WX:aH:=aG (bg 4 (cL (aw 0 (aw 1 (aa 2))) (aw 1 (aa 3))))
 (dZ (bB (e2 di (aw 1 (cL (aw 0 (aa 2)) (aa 3))) (aa 4))) (bF (eC (.bl false))) fJ)
abbrev WY:aH:=dU (cI (ab (aa 2) ag)) (aC 3) (WX)
def HS:aH:=aG (dU (cI (ab (bZ 0) ag)) (aC 2) WY)
 (bF (eC (.bl true)))
def qE:=bT 5 (HS)
theorem zt:af ["_law_ladder_here","_law_rule_here","_law_one","_law_other","_law_due"] ["_law_ladder_here","_law_rule_here"] (bu (top 43)):=cK (by decide +kernel)
theorem WZ(B:Bt mg)(a:At K mg "_law_spreads" (top 43) ["_law_ladder_here","_law_rule_here"]):ay P w K mg base 1 "_law_spreads" 2 (qE):=
 ay.cQ a zt fun _ _ _ _ _ _ _ hr=>
  aM (fR QF rfl (fA B.av (au (eZ B.aN (ql 0 rfl rfl)) aq cu)) (bR (i:=2) (show 0<=2 by decide) zt.nd rfl (Or.inl rfl)) (aR (fR QF rfl (fA B.av (aI 2 rfl rfl aq)) (bR (i:=3) (show 0<=3 by decide) zt.nd rfl (Or.inl rfl)) (aM (bG (i:=4) zt.nd rfl (Or.inl rfl) (fQ (aX (ql 0 rfl rfl) (aX (ql 1 rfl rfl) (aD 2 rfl rfl))) (aX (ql 1 rfl rfl) (aD 3 rfl rfl))))
  (aR (gX (ly hr (aX (ql 1 rfl rfl) (fQ (aX (ql 0 rfl rfl) (aD 2 rfl rfl)) (aD 3 rfl rfl))) (aD 4 rfl rfl)) (aR (bQ l7)) gW))))))
  (aR (bQ l7))
def CP:aH:=aG (bg 3 (aL sC 3 (ab (aa 0) (ab (aa 1) (ab (aa 2) ag)))))
 (aG (dZ (iT (aL qE 2 (ab (aa 2) (ab (aa 3) ag)))) (bF (aa 3)) fJ)
 (aG (bg 4 (aL dQ 3 (ab (aa 0) (ab (e2 cn (aa 1) (eC (.int 17))) (ab (bZ 2) ag)))))
 (aG (bg 5 (c_ (ab (iG (ab (oH (ab (bZ 2) ag)) ag)) (ab (yE (dS (ab (aa 4) ag)) (bZ 2)) ag))))
 (aG (fK (jb 5 (ab (iG (ab (dN 1 (cI (ab (bZ 2) ag)) (aC 6) da (cL (aw 2 (aa 6)) (aa 4)) false) ag)) ag)))
 (bF (aw 5 (aL dQ 3 (ab (aa 0) (ab (e2 cn (aa 1) (eC (.int 16))) (ab (eC (.int 3)) ag))))))))))
def ui:=bT 6 (CP)
theorem zu:af ["_law_script","_law_at","_law_ladder_here","_law_rule_here","_law_worth","_law_some"] ["_law_script","_law_at","_law_ladder_here"] (bu (top 44)):=cK (by decide +kernel)
abbrev HU:List Str:=["_law_script","_law_at","_law_ladder_here","_law_rule_here","_law_worth","_law_some","_law_one"]
theorem W0:(HU).Nodup:=by decide +kernel
theorem W1(B:Bt mg)(CQ:ay P w K mg base 3 "_law_rule" 3 sC)(CS:ay P w K mg base 1 "_law_spreads" 2 qE)(il:ay P w K mg base 2 "_law_pick" 3 dQ)(a:At K mg "_law_spread_rule" (top 44) ["_law_script","_law_at","_law_ladder_here"]):ay P w K mg base 4 "_law_spread_rule" 3 (ui):=
 ay.cQ a zu fun _ _ _ _ _ _ _ hr=>
  aM (bG (i:=3) zu.nd rfl (Or.inl rfl) (bq CQ hr (by decide) (aI 0 rfl rfl (aI 1 rfl rfl (au (bE (qv 2)) aq dG)))))
  (aM (gX (oB (bq CS hr (by decide) (au (bE (qv 2)) (aI 3 rfl rfl aq) dG))) (aR (bQ (aD 3 rfl rfl))) gW)
  (aM (bG (i:=4) zu.nd rfl (Or.inr rfl) (bq il hr (by decide) (aI 0 rfl rfl (au (dE (aD 1 rfl rfl) aS) (au (eZ B.aN (qv 2)) aq cu) fL))))
  (aM (bG (i:=5) zu.nd rfl (Or.inl rfl) (fI (au (nF B.bC QY (au (Bp rfl B.d8 ZB B.av (au (eZ B.aN (qv 2)) aq cu)) aq cu)) (au (RA (gU (au (bE (qv 4)) aq dG)) (eZ B.aN (qv 2))) aq fL) cu)))
  (aM (jO (mh (ql 5 rfl rfl) (au (nF B.bC QY (au (iV (k:=1) (N':=HU) false rfl ⟨rfl,by decide +kernel,rfl,rfl,rfl⟩ (fA B.av (au (eZ B.aN (qv 2)) aq cu)) (fun _ _ _ _=>bR (i:=6) (show 6<=6 by decide) W0 rfl (Or.inl rfl) (Or.inr rfl)) (fun _ _ _ _=>ke) (fun _ _ _ _=>fQ (aX (qv 2) (bE (qv 6))) (bE (qv 4)))) aq rL)) aq cu)))
  (aR (bQ (aX (ql 5 rfl rfl) (bq il hr (by decide) (aI 0 rfl rfl (au (dE (aD 1 rfl rfl) aS) (cN aq) fL))))))))))
abbrev sD:aH:=aG (bg 10 (aL dQ 3 (ab (aa 0) (ab (e2 cn (e2 cn (aa 1) (eC (.int 3))) (e2 kc (eC (.int 2)) (aa 6))) (ab (bZ 2) ag)))))
 (fK (jb 9 (ab (dS (ab (aL dQ 3 (ab (aa 0) (ab (e2 cn (e2 cn (aa 1) (eC (.int 4))) (e2 kc (eC (.int 2)) (aa 6))) (ab (aa 4) ag)))) (ab (aa 10) ag))) ag)))
abbrev sE:aH:=aG (bg 7 (e2 cn (e2 cn (aa 1) (eC (.int 10))) (e2 kc (eC (.int 22)) (aa 6))))
 (aG (bg 8 (aL sC 3 (ab (aa 0) (ab (e2 cn (aa 7) (eC (.int 2))) (ab (aa 2) ag)))))
 (aG (dZ (iT (aa 3)) (bg 8 (aL ui 3 (ab (aa 0) (ab (e2 cn (aa 7) (eC (.int 2))) (ab (aa 2) ag))))) fJ)
 (fK (jb 5 (ab (dS (ab (aL dQ 3 (ab (aa 0) (ab (aa 7) (ab (aa 4) ag)))) (ab (aL dQ 3 (ab (aa 0) (ab (e2 cn (aa 7) (eC (.int 1))) (ab (aa 4) ag)))) (ab (aa 8) ag)))) ag)))))
def CT:aH:=aG (bg 4 (e2 cn (eC (.int 1)) (aL dQ 3 (ab (aa 0) (ab (aa 1) (ab (eC (.int 5)) ag))))))
 (aG (bg 5 (c_ ag))
 (aG (dU (cI (ab (aL dQ 3 (ab (aa 0) (ab (e2 cn (aa 1) (eC (.int 1))) (ab (eC (.int 8)) ag)))) ag)) (aC 6) sE)
 (aG (bg 9 (c_ ag))
 (aG (dU (cI (ab (aL dQ 3 (ab (aa 0) (ab (e2 cn (aa 1) (eC (.int 2))) (ab (eC (.int 4)) ag)))) ag)) (aC 6) sD)
 (bF (dS (ab (aa 4) (ab (iG (ab (aa 5) ag)) (ab (iG (ab (aa 9) ag)) ag)))))))))
def oX:=bT 11 (CT)
theorem nO:af ["_law_script","_law_at","_law_ladder_here","_law_spread","_law_places","_law_ways","_law_k","_law_base_here","_law_rule_here","_law_begins","_law_worth"] ["_law_script","_law_at","_law_ladder_here","_law_spread"] (bu (top 45)):=cK (by decide +kernel)
theorem W2(B:Bt mg)(il:ay P w K mg base 2 "_law_pick" 3 dQ)(CQ:ay P w K mg base 3 "_law_rule" 3 sC)(W3:ay P w K mg base 4 "_law_spread_rule" 3 ui)(a:At K mg "_law_chart" (top 45) ["_law_script","_law_at","_law_ladder_here","_law_spread"]):ay P w K mg base 5 "_law_chart" 4 (oX):=
 ay.cQ a nO fun _ _ _ _ _ _ _ hr=>
  aM (bG (i:=4) nO.nd rfl (Or.inl rfl) (dE aS (bq il hr (by decide) (aI 0 rfl rfl (aI 1 rfl rfl (cN aq))))))
  (aM (bG (i:=5) nO.nd rfl (Or.inl rfl) (fI aq))
  (aM (fR QF rfl (fA B.av (au (bq il hr (by decide) (aI 0 rfl rfl (au (dE (aD 1 rfl rfl) aS) (cN aq) fL))) aq cu)) (bR (i:=6) (show 0<=6 by decide) nO.nd rfl (Or.inl rfl)) (aM (bG (i:=7) nO.nd rfl (Or.inl rfl) (dE (dE (aD 1 rfl rfl) aS) (l8 aS (aD 6 rfl rfl))))
  (aM (bG (i:=8) nO.nd rfl (Or.inl rfl) (bq CQ hr (by decide) (aI 0 rfl rfl (au (dE (aD 7 rfl rfl) aS) (aI 2 rfl rfl aq) fL))))
  (aM (gX (oB (aD 3 rfl rfl)) (aR (bG (i:=8) nO.nd rfl (Or.inl rfl) (bq W3 hr (by decide) (aI 0 rfl rfl (au (dE (aD 7 rfl rfl) aS) (aI 2 rfl rfl aq) fL))))) gW)
  (aR (jO (mh (ql 5 rfl rfl) (au (gU (au (bq il hr (by decide) (aI 0 rfl rfl (aI 7 rfl rfl (aI 4 rfl rfl aq)))) (au (bq il hr (by decide) (aI 0 rfl rfl (au (dE (aD 7 rfl rfl) aS) (aI 4 rfl rfl aq) fL))) (aI 8 rfl rfl aq) cu) cu)) aq By))))))))
  (aM (bG (i:=9) nO.nd rfl (Or.inl rfl) (fI aq))
  (aM (fR QF rfl (fA B.av (au (bq il hr (by decide) (aI 0 rfl rfl (au (dE (aD 1 rfl rfl) aS) (cN aq) fL))) aq cu)) (bR (i:=6) (show 0<=6 by decide) nO.nd rfl (Or.inl rfl)) (aM (bG (i:=10) nO.nd rfl (Or.inl rfl) (bq il hr (by decide) (aI 0 rfl rfl (au (dE (dE (aD 1 rfl rfl) aS) (l8 aS (aD 6 rfl rfl))) (au (eZ B.aN (ql 2 rfl rfl)) aq cu) fL))))
  (aR (jO (mh (ql 9 rfl rfl) (au (gU (au (bq il hr (by decide) (aI 0 rfl rfl (au (dE (dE (aD 1 rfl rfl) aS) (l8 aS (aD 6 rfl rfl))) (aI 4 rfl rfl aq) fL))) (aI 10 rfl rfl aq) cu)) aq By))))))
  (aR (bQ (gU (aI 4 rfl rfl (au (nF B.bC QY (aI 5 rfl rfl aq)) (au (nF B.bC QY (aI 9 rfl rfl aq)) aq cu) cu)))))))))
def HV:aH:=aG (bg 1 (dN 1 (cI (ab (aw 0 (eC (.int 0))) ag)) (aC 2) da (dS (ab (eC (.str "place")) (ab (aa 2) ag))) false))
 (bF (qd (aa 1) (dN 1 (cI (ab (eB nE (ab (aw 0 (eC (.int 2))) ag)) ag)) (aC 2) da (dS (ab (eC (.str "begin")) (ab (aa 2) ag))) false)))
def sF:=bT 2 (HV)
theorem HW:af ["chart","places"] ["chart"] (bu (top 12)):=cK (by decide +kernel)
abbrev CU:List Str:=["chart","places","number"]
theorem HX:(CU).Nodup:=by decide +kernel
theorem W4(B:Bt mg)(a:At K mg "all_starts" (top 12) ["chart"]):ay P w K mg base 1 "all_starts" 1 (sF):=
 ay.cQ a HW fun _ _ _ _ _ _ _ hr=>
  aM (yn (i:=1) (k:=1) (N':=CU) false HW.nd rfl (Or.inl rfl) rfl rfl ⟨rfl,by decide +kernel,rfl,rfl,rfl⟩ (fA B.av (au (aX (ql 0 rfl rfl) aS) aq fU)) (fun _ _ _ _=>bR (i:=2) (show 2<=2 by decide) HX rfl (Or.inl rfl) (Or.inr rfl)) (fun _ _ _ _=>ke) (fun _ _ _ _=>gU (au tS (au (bE (qv 2)) aq dG) rM)))
  (aR (bQ (BD (aD 1 rfl rfl) (iV (k:=1) (N':=CU) false rfl ⟨rfl,by decide +kernel,rfl,rfl,rfl⟩ (fA B.av (au (yr B.aN (au (aX (ql 0 rfl rfl) aS) aq fU)) aq cu)) (fun _ _ _ _=>bR (i:=2) (show 2<=2 by decide) HX rfl (Or.inl rfl) (Or.inr rfl)) (fun _ _ _ _=>ke) (fun _ _ _ _=>gU (au tS (au (bE (qv 2)) aq dG) rM))))))
def HY:aH:=bF (dN 2 (vD (ab (aw 0 (eC (.int 1))) ag)) (jc (cE (aC 2) (cE (aC 3) iH))) (bB (e2 cS (aw 3 (eC (.int 0))) (aa 1))) (aa 2) false)
def sG:=bT 2 (HY)
theorem W5:af ["chart","place"] ["chart","place"] (bu (top 14)):=cK (by decide +kernel)
abbrev HZ:List Str:=["chart","place","number","way"]
theorem H0:(HZ).Nodup:=by decide +kernel
theorem W6(B:Bt mg)(a:At K mg "ways_from" (top 14) ["chart","place"]):ay P w K mg base 1 "ways_from" 2 (sG):=
 ay.cQ a W5 fun _ _ _ _ _ _ _ hr=>
  aR (bQ (iV (k:=2) (N':=HZ) false rfl ⟨rfl,by decide +kernel,rfl,rfl,rfl⟩ (RX B.je (au (aX (ql 0 rfl rfl) aS) aq fU)) (fun _ _ _ _=>rO (n:=2) rfl (jA (bR (i:=2) (show 2<=2 by decide) H0 rfl (Or.inl rfl) (Or.inr rfl)) (jA (bR (i:=3) (show 2<=3 by decide) H0 rfl (Or.inl rfl) (Or.inr rfl)) rN)) vq) (fun _ _ _ _=>pX (lu hr (aX (qv 3) aS) (bE (qv 1)))) (fun _ _ _ _=>bE (qv 2))))
def H9:aH:=aG (bg 3 (cL (aw 0 (eC (.int 1))) (aa 2)))
 (bF (dS (ab (aw 3 (eC (.int 1))) (ab (cL (aw 3 (eC (.int 2))) (aw 1 (eC (.int 1)))) ag))))
def uj:=bT 4 (H9)
theorem H_:af ["chart","state","number","way"] ["chart","state","number"] (bu (top 15)):=cK (by decide +kernel)
theorem W7(B:Bt mg)(a:At K mg "led_on" (top 15) ["chart","state","number"]):ay P w K mg base 1 "led_on" 3 (uj):=
 ay.cQ a H_ fun _ _ _ _ _ _ _ hr=>
  aM (bG (i:=3) H_.nd rfl (Or.inl rfl) (fQ (aX (ql 0 rfl rfl) aS) (aD 2 rfl rfl)))
  (aR (bQ (gU (au (aX (ql 3 rfl rfl) aS) (au (fQ (aX (ql 3 rfl rfl) aS) (aX (ql 1 rfl rfl) aS)) aq fU) fU))))
abbrev wG:aH:=aG (bg 7 (aL uj 3 (ab (aa 0) (ab (aa 4) (ab (aa 6) ag)))))
 (dZ (bB (zb (aa 7) 1)) (v7 3 (aa 7) (dS (ab (aw 5 (eC (.int 0))) (ab (qd (aw 5 (eC (.int 1))) (c_ (ab (aa 6) ag))) ag)))) fJ)
abbrev CV:aH:=aG (bg 5 (uc 1 (aa 4)))
 (dU (cW (aL sG 2 (ab (aa 0) (ab (aw 4 (eC (.int 0))) ag)))) (aC 6) wG)
def Ie:aH:=aG (bg 3 Cp)
 (aG (dU (cW (aa 2)) (aC 4) CV)
 (zc 3))
def uk:=bT 8 (Ie)
theorem um:af ["chart","paths","newest","longer","state","path","number","reached"] ["chart","paths","newest"] (bu (top 17)):=cK (by decide +kernel)
theorem W8(B:Bt mg)(W9:ay P w K mg base 1 "ways_from" 2 sG)(W_:ay P w K mg base 1 "led_on" 3 uj)(a:At K mg "longer_paths" (top 17) ["chart","paths","newest"]):ay P w K mg base 2 "longer_paths" 3 (uk):=
 ay.cQ a um fun _ _ _ _ _ _ _ hr=>
  aM (bG (i:=3) um.nd rfl (Or.inl rfl) G2)
  (aM (fR QF rfl (iF (aD 2 rfl rfl)) (bR (i:=4) (show 0<=4 by decide) um.nd rfl (Or.inl rfl)) (aM (bG (i:=5) um.nd rfl (Or.inl rfl) (T_ hr (ql 1 rfl rfl) (aD 4 rfl rfl)))
  (aR (fR QF rfl (iF (bq W9 hr (by decide) (aI 0 rfl rfl (au (aX (ql 4 rfl rfl) aS) aq fU)))) (bR (i:=6) (show 0<=6 by decide) um.nd rfl (Or.inl rfl)) (aM (bG (i:=7) um.nd rfl (Or.inl rfl) (bq W_ hr (by decide) (aI 0 rfl rfl (aI 4 rfl rfl (aI 6 rfl rfl aq)))))
  (aR (gX (UP hr (aD 7 rfl rfl) (ql 1 rfl rfl)) (aR (Uh hr (ql 3 rfl rfl) (aD 7 rfl rfl) (gU (au (aX (ql 5 rfl rfl) aS) (au (BD (aX (ql 5 rfl rfl) aS) (fI (aI 6 rfl rfl aq))) aq fL) fU)))) gW)))))))
  (aR (G9 (ql 3 rfl rfl))))
def Ig:aH:=bF (Fw (ab (aa 0) ag))
def wH:=bT 1 (Ig)
theorem Xa:af ["many"] ["many"] (bu (top 8)):=cK (by decide +kernel)
theorem Xb(B:Bt mg)(a:At K mg "row_of_least" (top 8) ["many"]):ay P w K mg base 1 "row_of_least" 1 (wH):=
 ay.cQ a Xa fun _ _ _ _ _ _ _ hr=>
  aR (bQ (Pl rfl B.bC QY B.av (aI 0 rfl rfl aq)))
def Ih:aH:=bF (Bu (aa 0) (ab (aL wH 1 (ab (bZ 0) ag)) ag))
def oY:=bT 1 (Ih)
theorem Xc:af ["ladder"] ["ladder"] (bu (top 9)):=cK (by decide +kernel)
theorem Xd(B:Bt mg)(Xe:ay P w K mg base 1 "row_of_least" 1 wH)(a:At K mg "least_of" (top 9) ["ladder"]):ay P w K mg base 2 "least_of" 1 (oY):=
 ay.cQ a Xc fun _ _ _ _ _ _ _ hr=>
  aR (bQ (Pz hr (aD 0 rfl rfl) (au (bq Xe hr (by decide) (au (eZ B.aN (ql 0 rfl rfl)) aq cu)) aq cu)))
def Ii:aH:=aG (dZ (bB (e2 cS (aw 2 (eC (.int 0))) (eC (.str "place")))) (bF (dS (ab (aw 2 (eC (.int 1))) (ab (aL oY 1 (ab (aa 0) ag)) ag)))) fJ)
 (bF (cL (aw 1 (eC (.int 2))) (aw 2 (eC (.int 1)))))
def uo:=bT 3 (Ii)
theorem Xf:af ["ladder","chart","start"] ["ladder","chart","start"] (bu (top 13)):=cK (by decide +kernel)
theorem Xg(B:Bt mg)(wI:ay P w K mg base 2 "least_of" 1 oY)(a:At K mg "started" (top 13) ["ladder","chart","start"]):ay P w K mg base 3 "started" 3 (uo):=
 ay.cQ a Xf fun _ _ _ _ _ _ _ hr=>
  aM (gX (lu hr (aX (ql 2 rfl rfl) aS) tS) (aR (bQ (gU (au (aX (ql 2 rfl rfl) aS) (au (bq wI hr (by decide) (aI 0 rfl rfl aq)) aq cu) fU)))) gW)
  (aR (bQ (fQ (aX (ql 1 rfl rfl) aS) (aX (ql 2 rfl rfl) aS))))
abbrev CW:aH:=aG (bg 5 (wa uk 2 (aa 1) (aa 4)))
 (aG (fK (za 2 5))
 (bg 4 (ud 5)))
abbrev CY:aH:=fK (si 2 (aL uo 3 (ab (aa 0) (ab (aa 1) (ab (aa 3) ag)))) (dS (ab (aa 3) (ab (c_ ag) ag))))
def Ij:aH:=aG (bg 2 Cp)
 (aG (dU (cW (aL sF 1 (ab (aa 1) ag))) (aC 3) CY)
 (aG (bg 4 (ud 2))
 (aG (qc (iT (aa 4)) CW)
 (zc 2))))
def sH:=bT 6 (Ij)
theorem uq:af ["ladder","chart","paths","start","newest","further"] ["ladder","chart"] (bu (top 16)):=cK (by decide +kernel)
theorem Xh(B:Bt mg)(Xi:ay P w K mg base 1 "all_starts" 1 sF)(Xj:ay P w K mg base 3 "started" 3 uo)(Xk:ay P w K mg base 2 "longer_paths" 3 uk)(a:At K mg "shortest_paths" (top 16) ["ladder","chart"]):ay P w K mg base 4 "shortest_paths" 2 (sH):=
 ay.cQ a uq fun _ _ _ _ _ _ _ hr=>
  aM (bG (i:=2) uq.nd rfl (Or.inl rfl) G2)
  (aM (fR QF rfl (iF (bq Xi hr (by decide) (aI 1 rfl rfl aq))) (bR (i:=3) (show 0<=3 by decide) uq.nd rfl (Or.inl rfl)) (aR (jO (UJ hr (ql 2 rfl rfl) (bq Xj hr (by decide) (aI 0 rfl rfl (aI 1 rfl rfl (aI 3 rfl rfl aq)))) (gU (aI 3 rfl rfl (au (fI aq) aq tY)))))))
  (aM (bG (i:=4) uq.nd rfl (Or.inl rfl) (G8 rfl B.d8 ZB (ql 2 rfl rfl)))
  (aM (yG QF (oB (aD 4 rfl rfl)) (aM (bG (i:=5) uq.nd rfl (Or.inl rfl) (UU Xk hr (by decide) (aD 1 rfl rfl) (ql 2 rfl rfl) (aD 4 rfl rfl)))
  (aM (jO (UM hr (ql 2 rfl rfl) (ql 5 rfl rfl)))
  (aR (bG (i:=4) uq.nd rfl (Or.inl rfl) (G8 rfl B.d8 ZB (ql 5 rfl rfl)))))))
  (aR (G9 (ql 2 rfl rfl))))))
def Ik:aH:=bF (v_ (aL sH 2 (ab (aa 0) (ab (aa 1) ag))))
def oZ:=bT 2 (Ik)
theorem Xl:af ["ladder","chart"] ["ladder","chart"] (bu (top 18)):=cK (by decide +kernel)
theorem Xm(B:Bt mg)(Xn:ay P w K mg base 4 "shortest_paths" 2 sH)(a:At K mg "states" (top 18) ["ladder","chart"]):ay P w K mg base 5 "states" 2 (oZ):=
 ay.cQ a Xl fun _ _ _ _ _ _ _ hr=>
  aR (bQ (UQ rfl B.gB (bq Xn hr (by decide) (aI 0 rfl rfl (aI 1 rfl rfl aq)))))
abbrev Xo:aH:=bg 2 (cL (aw 0 (aa 2)) (aa 3))
def Il:aH:=aG (bg 2 (aL oY 1 (ab (aa 0) ag)))
 (aG (dU (cW (aa 1)) (aC 3) Xo)
 (bF (aa 2)))
def wJ:=bT 4 (Il)
theorem zw:af ["ladder","worths","joined","worth"] ["ladder","worths"] (bu (top 10)):=cK (by decide +kernel)
theorem Xp(B:Bt mg)(wI:ay P w K mg base 2 "least_of" 1 oY)(a:At K mg "joined_all" (top 10) ["ladder","worths"]):ay P w K mg base 3 "joined_all" 2 (wJ):=
 ay.cQ a zw fun _ _ _ _ _ _ _ hr=>
  aM (bG (i:=2) zw.nd rfl (Or.inl rfl) (bq wI hr (by decide) (aI 0 rfl rfl aq)))
  (aM (fR QF rfl (iF (aD 1 rfl rfl)) (bR (i:=3) (show 0<=3 by decide) zw.nd rfl (Or.inl rfl)) (aR (bG (i:=2) zw.nd rfl (Or.inl rfl) (fQ (aX (ql 0 rfl rfl) (aD 2 rfl rfl)) (aD 3 rfl rfl)))))
  (aR (bQ (aD 2 rfl rfl))))
def Im:aH:=bF (aL wJ 2 (ab (aa 0) (ab (dN 2 (cW (aa 1)) (jc (cE (aC 3) (cE (aC 4) iH))) (bB (e2 cS (aa 3) (aa 2))) (aa 4) false) ag)))
def ur:=bT 3 (Im)
theorem Xq:af ["ladder","ends","place"] ["ladder","ends","place"] (bu (top 20)):=cK (by decide +kernel)
abbrev Io:List Str:=["ladder","ends","place","end","worth"]
theorem Ip:(Io).Nodup:=by decide +kernel
theorem Xr(B:Bt mg)(Xs:ay P w K mg base 3 "joined_all" 2 wJ)(a:At K mg "joined_at" (top 20) ["ladder","ends","place"]):ay P w K mg base 4 "joined_at" 3 (ur):=
 ay.cQ a Xq fun _ _ _ _ _ _ _ hr=>
  aR (bQ (bq Xs hr (by decide) (aI 0 rfl rfl (au (iV (k:=2) (N':=Io) false rfl ⟨rfl,by decide +kernel,rfl,rfl,rfl⟩ (iF (aD 1 rfl rfl)) (fun _ _ _ _=>rO (n:=2) rfl (jA (bR (i:=3) (show 3<=3 by decide) Ip rfl (Or.inl rfl) (Or.inr rfl)) (jA (bR (i:=4) (show 3<=4 by decide) Ip rfl (Or.inl rfl) (Or.inr rfl)) rN)) vq) (fun _ _ _ _=>pX (lu hr (bE (qv 3)) (bE (qv 2)))) (fun _ _ _ _=>bE (qv 4))) aq rL))))
def Iq:aH:=aG (bg 2 (aL oZ 2 (ab (aa 0) (ab (aa 1) ag))))
 (bF (iG (ab (dN 1 (cI (ab (aw 1 (eC (.int 0))) ag)) (aC 3) da (aL ur 3 (ab (aa 0) (ab (aa 2) (ab (aa 3) ag)))) false) ag)))
def wK:=bT 3 (Iq)
theorem Ir:af ["ladder","chart","ends"] ["ladder","chart"] (bu (top 19)):=cK (by decide +kernel)
abbrev Iu:List Str:=["ladder","chart","ends","place"]
theorem Xt:(Iu).Nodup:=by decide +kernel
theorem Xu(B:Bt mg)(CZ:ay P w K mg base 5 "states" 2 oZ)(Xv:ay P w K mg base 4 "joined_at" 3 ur)(a:At K mg "by_paths" (top 19) ["ladder","chart"]):ay P w K mg base 6 "by_paths" 2 (wK):=
 ay.cQ a Ir fun _ _ _ _ _ _ _ hr=>
  aM (bG (i:=2) Ir.nd rfl (Or.inr rfl) (bq CZ hr (by decide) (au (bE (qv 0)) (aI 1 rfl rfl aq) dG)))
  (aR (bQ (nF B.bC QY (au (iV (k:=1) (N':=Iu) false rfl ⟨rfl,by decide +kernel,rfl,rfl,rfl⟩ (fA B.av (au (aX (ql 1 rfl rfl) aS) aq fU)) (fun _ _ _ _=>bR (i:=3) (show 3<=3 by decide) Xt rfl (Or.inl rfl) (Or.inr rfl)) (fun _ _ _ _=>ke) (fun _ _ _ _=>bq Xv hr (by decide) (au (bE (qv 0)) (au (bE (qv 2)) (au (bE (qv 3)) aq dG) dG) dG))) aq rL))))
def Iv:aH:=bF (yw (t4 .int (aa 0)) (Bx (t4 .bool (aa 0))))
def wL:=bT 1 (Iv)
theorem Xw:af ["thing"] ["thing"] (bu (top 4)):=cK (by decide +kernel)
theorem Xx(B:Bt mg)(a:At K mg "is_whole" (top 4) ["thing"]):ay P w K mg base 1 "is_whole" 1 (wL):=
 ay.cQ a Xw fun _ _ _ _ _ _ _ hr=>
  aR (bQ (FF (yx .int B.cw B.qB PyProof.Rows.boot_int (aD 0 rfl rfl)) (FE (PR (yx .bool B.cw B.sx PyProof.Rows.boot_bool (aD 0 rfl rfl))))))
def Iw:aH:=bF (yw (aL wL 1 (ab (aa 0) ag)) (t5 E6 l9 (eC (.int 0)) (aa 0) (aa 1)))
def wM:=bT 2 (Iw)
theorem Xy:af ["thing","many"] ["thing","many"] (bu (top 5)):=cK (by decide +kernel)
theorem Xz(B:Bt mg)(XA:ay P w K mg base 1 "is_whole" 1 wL)(a:At K mg "is_number_of" (top 5) ["thing","many"]):ay P w K mg base 2 "is_number_of" 2 (wM):=
 ay.cQ a Xy fun _ _ _ _ _ _ _ hr=>
  aR (bQ (FF (bq XA hr (by decide) (aI 0 rfl rfl aq)) (FE (Rj aS (aD 0 rfl rfl) (aD 1 rfl rfl)))))
def Iy:aH:=aG (dZ (ny (ls (iT (t4 .tuple (aa 0)))) (ny (bB (e2 di (bZ 0) (eC (.int 2)))) (ls (iT (t4 .str (aw 0 (eC (.int 0)))))))) (bF (eC (.bl false))) fJ)
 (bF (aL wM 2 (ab (aw 0 (eC (.int 1))) (ab (BF (aa 1) (aw 0 (eC (.int 0))) (eC (.int 0))) ag))))
def wN:=bT 2 (Iy)
theorem XB:af ["thing","many_by_name"] ["thing","many_by_name"] (bu (top 6)):=cK (by decide +kernel)
theorem XD(B:Bt mg)(XE:ay P w K mg base 2 "is_number_of" 2 wM)(a:At K mg "is_named_number" (top 6) ["thing","many_by_name"]):ay P w K mg base 3 "is_named_number" 2 (wN):=
 ay.cQ a XB fun _ _ _ _ _ _ _ hr=>
  aM (gX (sj (vg (vf (oB (yx .tuple B.cw B.bC QY (aD 0 rfl rfl)))) (vg (ly hr (eZ B.aN (ql 0 rfl rfl)) aS) (yg (vf (oB (yx .str B.cw B.wz PyProof.Rows.boot_str (aX (ql 0 rfl rfl) aS)))))))) (aR (bQ l7)) gW)
  (aR (bQ (bq XE hr (by decide) (au (aX (ql 0 rfl rfl) aS) (au (RI hr (aD 1 rfl rfl) (aX (ql 0 rfl rfl) aS) aS) aq cu) fU))))
def Iz:aH:=bF (aL wN 2 (ab (aa 1) (ab (vy "begin" "way" (qe 0 2) (qe 0 1)) ag)))
def qF:=bT 2 (Iz)
theorem XF:af ["chart","thing"] ["chart","thing"] (bu (top 25)):=cK (by decide +kernel)
theorem XG(B:Bt mg)(XH:ay P w K mg base 3 "is_named_number" 2 wN)(a:At K mg "is_step" (top 25) ["chart","thing"]):ay P w K mg base 4 "is_step" 2 (qF):=
 ay.cQ a XF fun _ _ _ _ _ _ _ hr=>
  aR (bQ (bq XH hr (by decide) (aI 1 rfl rfl (au (RG (by decide) (FT B.aN (ql 0 rfl rfl)) (FT B.aN (ql 0 rfl rfl))) aq RM))))
def IA:aH:=dZ (ls (iT (eB tZ (ab (dN 1 (cW (aa 1)) (aC 2) da (aL qF 2 (ab (aa 0) (ab (aa 2) ag))) false) ag)))) BB (fJ)
def wO:=bT 2 (IA)
theorem XI:af ["chart","steps"] ["chart","steps"] (bu (top 26)):=cK (by decide +kernel)
abbrev IB:List Str:=["chart","steps","step"]
theorem XJ:(IB).Nodup:=by decide +kernel
theorem XM(B:Bt mg)(XN:ay P w K mg base 4 "is_step" 2 qF)(a:At K mg "refuse_no_step" (top 26) ["chart","steps"]):ay P w K mg base 5 "refuse_no_step" 2 (wO):=
 ay.cQ a XI fun _ _ _ _ _ _ _ hr=>
  aR (gX (vf (oB (P6 rfl B.wx (au (iV (k:=1) (N':=IB) false rfl ⟨rfl,by decide +kernel,rfl,rfl,rfl⟩ (iF (aD 1 rfl rfl)) (fun _ _ _ _=>bR (i:=2) (show 2<=2 by decide) XJ rfl (Or.inl rfl) (Or.inr rfl)) (fun _ _ _ _=>ke) (fun _ _ _ _=>bq XN hr (by decide) (au (bE (qv 0)) (au (bE (qv 2)) aq dG) dG))) aq rL)))) (aR RC) gW)
def IC:aH:=aG (dZ (bB (e2 cS (aw 2 (eC (.int 0))) (eC (.str "begin")))) (bF (cL (aw 0 (eC (.int 2))) (aw 2 (eC (.int 1))))) fJ)
 (aG (bg 3 (cL (aw 0 (eC (.int 1))) (aw 2 (eC (.int 1)))))
 (bF (dS (ab (aw 3 (eC (.int 1))) (ab (cL (aw 3 (eC (.int 2))) (aw 1 (aw 3 (eC (.int 0))))) ag)))))
def wQ:=bT 4 (IC)
theorem ID:af ["chart","worths","step","way"] ["chart","worths","step"] (bu (top 27)):=cK (by decide +kernel)
theorem XQ(B:Bt mg)(a:At K mg "place_and_worth" (top 27) ["chart","worths","step"]):ay P w K mg base 1 "place_and_worth" 3 (wQ):=
 ay.cQ a ID fun _ _ _ _ _ _ _ hr=>
  aM (gX (lu hr (aX (ql 2 rfl rfl) aS) tS) (aR (bQ (fQ (aX (ql 0 rfl rfl) aS) (aX (ql 2 rfl rfl) aS)))) gW)
  (aM (bG (i:=3) ID.nd rfl (Or.inl rfl) (fQ (aX (ql 0 rfl rfl) aS) (aX (ql 2 rfl rfl) aS)))
  (aR (bQ (gU (au (aX (ql 3 rfl rfl) aS) (au (fQ (aX (ql 3 rfl rfl) aS) (aX (ql 1 rfl rfl) (aX (ql 3 rfl rfl) aS))) aq fU) fU)))))
def IE:aH:=aG (bg 4 (aL wQ 3 (ab (aa 1) (ab (aa 2) (ab (aa 3) ag)))))
 (aG (bg 5 (aw 4 (eC (.int 0))))
 (aG (bg 6 (cL (aw 0 (aw 2 (aa 5))) (aw 4 (eC (.int 1)))))
 (bF (yy (yy (yD (aa 2) BA (yC (aa 5))) (dS (ab (aa 6) ag))) (yD (aa 2) (yC (e2 cn (aa 5) (eC (.int 1)))) BA)))))
def wR:=bT 7 (IE)
theorem zx:af ["ladder","chart","worths","step","coming","place","joined"] ["ladder","chart","worths","step"] (bu (top 28)):=cK (by decide +kernel)
theorem XR(B:Bt mg)(XS:ay P w K mg base 1 "place_and_worth" 3 wQ)(a:At K mg "worths_behind" (top 28) ["ladder","chart","worths","step"]):ay P w K mg base 2 "worths_behind" 4 (wR):=
 ay.cQ a zx fun _ _ _ _ _ _ _ hr=>
  aM (bG (i:=4) zx.nd rfl (Or.inl rfl) (bq XS hr (by decide) (aI 1 rfl rfl (aI 2 rfl rfl (aI 3 rfl rfl aq)))))
  (aM (bG (i:=5) zx.nd rfl (Or.inl rfl) (aX (ql 4 rfl rfl) aS))
  (aM (bG (i:=6) zx.nd rfl (Or.inl rfl) (fQ (aX (ql 0 rfl rfl) (aX (ql 2 rfl rfl) (aD 5 rfl rfl))) (aX (ql 4 rfl rfl) aS)))
  (aR (bQ (FL (FL (FP (aD 2 rfl rfl) FN (FO (aD 5 rfl rfl))) (gU (aI 6 rfl rfl aq))) (FP (aD 2 rfl rfl) (FO (dE (aD 5 rfl rfl) aS)) FN))))))
abbrev wU:aH:=aG (bg 7 (aL wR 4 (ab (aa 0) (ab (aa 1) (ab (aa 3) (ab (aa 6) ag))))))
 (aG (dZ (bB (e2 di (aa 7) (aa 3))) (fK (jb 4 (ab (aa 6) ag))) fJ)
 (bg 3 (aa 7)))
abbrev zy:aH:=aG (bg 5 (aa 3))
 (dU (cW (aa 2)) (aC 6) wU)
def IF:aH:=aG (bg 4 (c_ ag))
 (aG (bg 5 (eC .bo))
 (aG (qc (bB (e2 di (aa 3) (aa 5))) zy)
 (bF (dS (ab (aa 3) (ab (aa 4) ag))))))
def uu:=bT 8 (IF)
theorem sI:af ["ladder","chart","order","worths","raising","ahead","step","behind"] ["ladder","chart","order","worths"] (bu (top 29)):=cK (by decide +kernel)
theorem XT(B:Bt mg)(XU:ay P w K mg base 2 "worths_behind" 4 wR)(a:At K mg "risen" (top 29) ["ladder","chart","order","worths"]):ay P w K mg base 3 "risen" 4 (uu):=
 ay.cQ a sI fun _ _ _ _ _ _ _ hr=>
  aM (bG (i:=4) sI.nd rfl (Or.inl rfl) (fI aq))
  (aM (bG (i:=5) sI.nd rfl (Or.inl rfl) OB)
  (aM (yG QF (ly hr (aD 3 rfl rfl) (aD 5 rfl rfl)) (aM (bG (i:=5) sI.nd rfl (Or.inl rfl) (aD 3 rfl rfl))
  (aR (fR QF rfl (iF (aD 2 rfl rfl)) (bR (i:=6) (show 0<=6 by decide) sI.nd rfl (Or.inl rfl)) (aM (bG (i:=7) sI.nd rfl (Or.inl rfl) (bq XU hr (by decide) (aI 0 rfl rfl (aI 1 rfl rfl (aI 3 rfl rfl (aI 6 rfl rfl aq))))))
  (aM (gX (ly hr (aD 7 rfl rfl) (aD 3 rfl rfl)) (aR (jO (mh (ql 4 rfl rfl) (aI 6 rfl rfl aq)))) gW)
  (aR (bG (i:=3) sI.nd rfl (Or.inl rfl) (aD 7 rfl rfl)))))))))
  (aR (bQ (gU (aI 3 rfl rfl (aI 4 rfl rfl aq)))))))
def IG:aH:=bF (iG (ab (tX (c_ (ab (aL oY 1 (ab (aa 0) ag)) ag)) (aw 1 (eC (.int 0)))) ag))
def wV:=bT 2 (IG)
theorem XW:af ["ladder","chart"] ["ladder","chart"] (bu (top 22)):=cK (by decide +kernel)
theorem XX(B:Bt mg)(wI:ay P w K mg base 2 "least_of" 1 oY)(a:At K mg "lowest" (top 22) ["ladder","chart"]):ay P w K mg base 3 "lowest" 2 (wV):=
 ay.cQ a XW fun _ _ _ _ _ _ _ hr=>
  aR (bQ (nF B.bC QY (au (FA (fI (au (bq wI hr (by decide) (aI 0 rfl rfl aq)) aq cu)) (aX (ql 1 rfl rfl) aS)) aq fL)))
def IH:aH:=aG (fK (aL wO 2 (ab (aa 1) (ab (aa 2) ag))))
 (aG (bg 3 (aL uu 4 (ab (aa 0) (ab (aa 1) (ab (aa 2) (ab (aL wV 2 (ab (aa 0) (ab (aa 1) ag))) ag))))))
 (bF (dS (ab (aw 3 (eC (.int 0))) (ab (eB nE (ab (aw 3 (eC (.int 1))) ag)) ag)))))
def wW:=bT 4 (IH)
theorem II:af ["ladder","chart","order","ended"] ["ladder","chart","order"] (bu (top 30)):=cK (by decide +kernel)
theorem XY(B:Bt mg)(XZ:ay P w K mg base 5 "refuse_no_step" 2 wO)(X0:ay P w K mg base 3 "risen" 4 uu)(X1:ay P w K mg base 3 "lowest" 2 wV)(a:At K mg "least_by" (top 30) ["ladder","chart","order"]):ay P w K mg base 6 "least_by" 3 (wW):=
 ay.cQ a II fun _ _ _ _ _ _ _ hr=>
  aM (jO (bq XZ hr (by decide) (aI 1 rfl rfl (aI 2 rfl rfl aq))))
  (aM (bG (i:=3) II.nd rfl (Or.inl rfl) (bq X0 hr (by decide) (aI 0 rfl rfl (aI 1 rfl rfl (aI 2 rfl rfl (au (bq X1 hr (by decide) (aI 0 rfl rfl (aI 1 rfl rfl aq))) aq cu))))))
  (aR (bQ (gU (au (aX (ql 3 rfl rfl) aS) (au (yr B.aN (au (aX (ql 3 rfl rfl) aS) aq fU)) aq cu) fU)))))
def IJ:aH:=aG (bg 1 (dN 1 (cI (ab (eB nE (ab (aw 0 (eC (.int 2))) ag)) ag)) (aC 2) da (dS (ab (eC (.str "begin")) (ab (aa 2) ag))) false))
 (bF (qd (aa 1) (dN 1 (cI (ab (eB nE (ab (aw 0 (eC (.int 1))) ag)) ag)) (aC 2) da (dS (ab (eC (.str "way")) (ab (aa 2) ag))) false)))
def wX:=bT 2 (IJ)
theorem IK:af ["chart","begins"] ["chart"] (bu (top 24)):=cK (by decide +kernel)
abbrev C0:List Str:=["chart","begins","number"]
theorem IL:(C0).Nodup:=by decide +kernel
theorem X2(B:Bt mg)(a:At K mg "all_steps" (top 24) ["chart"]):ay P w K mg base 1 "all_steps" 1 (wX):=
 ay.cQ a IK fun _ _ _ _ _ _ _ hr=>
  aM (yn (i:=1) (k:=1) (N':=C0) false IK.nd rfl (Or.inl rfl) rfl rfl ⟨rfl,by decide +kernel,rfl,rfl,rfl⟩ (fA B.av (au (yr B.aN (au (aX (ql 0 rfl rfl) aS) aq fU)) aq cu)) (fun _ _ _ _=>bR (i:=2) (show 2<=2 by decide) IL rfl (Or.inl rfl) (Or.inr rfl)) (fun _ _ _ _=>ke) (fun _ _ _ _=>gU (au tS (au (bE (qv 2)) aq dG) rM)))
  (aR (bQ (BD (aD 1 rfl rfl) (iV (k:=1) (N':=C0) false rfl ⟨rfl,by decide +kernel,rfl,rfl,rfl⟩ (fA B.av (au (yr B.aN (au (aX (ql 0 rfl rfl) aS) aq fU)) aq cu)) (fun _ _ _ _=>bR (i:=2) (show 2<=2 by decide) IL rfl (Or.inl rfl) (Or.inr rfl)) (fun _ _ _ _=>ke) (fun _ _ _ _=>gU (au tS (au (bE (qv 2)) aq dG) rM))))))
def IM:aH:=bF (cL (aL wW 3 (ab (aa 0) (ab (aa 1) (ab (aL wX 1 (ab (aa 1) ag)) ag)))) (eC (.int 0)))
def wY:=bT 2 (IM)
theorem X3:af ["ladder","chart"] ["ladder","chart"] (bu (top 23)):=cK (by decide +kernel)
theorem X4(B:Bt mg)(X5:ay P w K mg base 6 "least_by" 3 wW)(X6:ay P w K mg base 1 "all_steps" 1 wX)(a:At K mg "least" (top 23) ["ladder","chart"]):ay P w K mg base 7 "least" 2 (wY):=
 ay.cQ a X3 fun _ _ _ _ _ _ _ hr=>
  aR (bQ (fQ (bq X5 hr (by decide) (aI 0 rfl rfl (aI 1 rfl rfl (au (bq X6 hr (by decide) (aI 1 rfl rfl aq)) aq cu)))) aS))
abbrev uv:aH:=dZ (nv (bB (e2 cS (aa 6) (aa 4))) (bB (qf (dS (ab (aa 7) (ab (aw 8 (aa 5)) ag))) 2))) (fK (jb 2 (ab (dS (ab (aa 7) (ab (aw 8 (aa 5)) ag))) ag))) (fJ)
abbrev C1:aH:=aG (vw (aw 2 (aa 3)) (jc (cE (aC 4) (cE (aC 5) iH))))
 (aG (dU (cW (aw 1 (eC (.int 1)))) (jc (cE (aC 6) (cE (aC 7) (cE (aC 8) iH)))) uv)
 (bg 3 (e2 cn (aa 3) (eC (.int 1)))))
def IP:aH:=aG (bg 2 (dN 1 (cI (ab (aw 1 (eC (.int 0))) ag)) (aC 9) da (dS (ab (aa 9) (ab (aL nN 1 (ab (aa 0) ag)) ag))) false))
 (aG (fK (vx 2 (dN 1 (cW (aw 1 (eC (.int 2)))) (aC 9) (bB (qf (aa 9) 2)) (aa 9) false)))
 (aG (bg 2 (yU (aa 2)))
 (aG (bg 3 (eC (.int 0)))
 (aG (qc (bB (e2 l9 (aa 3) (bZ 2))) C1)
 (bF (Cj (aa 2)))))))
def wZ:=bT 9 (IP)
theorem nP:af ["_law_ladder_here","_law_chart_here","_law_found","_law_at","_law_place","_law_worth","_law_start","_law_goal","_law_rule_here"] ["_law_ladder_here","_law_chart_here"] (bu (top 51)):=cK (by decide +kernel)
abbrev IQ:List Str:=["_law_ladder_here","_law_chart_here","_law_found","_law_at","#4","_law_worth","_law_start","_law_goal","_law_rule_here","_law_place"]
theorem X7:(IQ).Nodup:=by decide +kernel
abbrev IS:List Str:=["_law_ladder_here","_law_chart_here","_law_found","_law_at","_law_place","_law_worth","_law_start","_law_goal","_law_rule_here","_law_begin"]
theorem X8:(IS).Nodup:=by decide +kernel
theorem X9(B:Bt mg)(wF:ay P w K mg base 1 "_law_low" 1 nN)(a:At K mg "_law_states" (top 51) ["_law_ladder_here","_law_chart_here"]):ay P w K mg base 2 "_law_states" 2 (wZ):=
 ay.cQ a nP fun _ _ _ _ _ _ _ hr=>
  aM (bG (i:=2) nP.nd rfl (Or.inr rfl) (iV (k:=1) (N':=IQ) false rfl ⟨rfl,by decide +kernel,rfl,rfl,rfl⟩ (fA B.av (au (aX (ql 1 rfl rfl) aS) aq fU)) (fun _ _ _ _=>bR (i:=9) (show 9<=9 by decide) X7 rfl (Or.inl rfl) (Or.inr rfl)) (fun _ _ _ _=>ke) (fun _ _ _ _=>gU (au (bE (qv 9)) (au (bq wF hr (by decide) (au (bE (qv 0)) aq dG)) aq cu) dG))))
  (aM (jO (RB (qv 2) (iV (k:=1) (N':=IS) false rfl ⟨rfl,by decide +kernel,rfl,rfl,rfl⟩ (iF (aX (ql 1 rfl rfl) aS)) (fun _ _ _ _=>bR (i:=9) (show 9<=9 by decide) X8 rfl (Or.inl rfl) (Or.inr rfl)) (fun _ _ _ _=>pX (F9 hr (bE (qv 9)) (qv 2))) (fun _ _ _ _=>bE (qv 9)))))
  (aM (bG (i:=2) nP.nd rfl (Or.inr rfl) (TL rfl hr B.gB B.wy (bE (qv 2))))
  (aM (bG (i:=3) nP.nd rfl (Or.inl rfl) aS)
  (aM (yG QF (vd (aD 3 rfl rfl) (eZ B.aN (qv 2))) (aM (Rr (aX (qv 2) (aD 3 rfl rfl)) (rO (n:=2) rfl (jA (bR (i:=4) (show 0<=4 by decide) nP.nd rfl (Or.inl rfl)) (jA (bR (i:=5) (show 0<=5 by decide) nP.nd rfl (Or.inl rfl)) rN)) vq))
  (aM (fR QF rfl (iF (aX (ql 1 rfl rfl) aS)) (rO (n:=3) rfl (jA (bR (i:=6) (show 0<=6 by decide) nP.nd rfl (Or.inl rfl)) (jA (bR (i:=7) (show 0<=7 by decide) nP.nd rfl (Or.inl rfl)) (jA (bR (i:=8) (show 0<=8 by decide) nP.nd rfl (Or.inl rfl)) rN))) FQ) (aR (gX (sj (Bf (lu hr (aD 6 rfl rfl) (aD 4 rfl rfl)) (Be (F9 hr (gU (aI 7 rfl rfl (au (aX (ql 8 rfl rfl) (aD 5 rfl rfl)) aq fU))) (qv 2))))) (aR (jO (mh (qv 2) (au (gU (aI 7 rfl rfl (au (aX (ql 8 rfl rfl) (aD 5 rfl rfl)) aq fU))) aq By)))) gW)))
  (aR (bG (i:=3) nP.nd rfl (Or.inl rfl) (dE (aD 3 rfl rfl) aS))))))
  (aR (bQ (TU B.gB (bE (qv 2)))))))))
def IU:aH:=bF (e2 cS (dN 1 (cI (ab (bZ 1) ag)) (aC 3) (bB (e2 di (cL (aw 0 (aw 1 (aa 3))) (aw 2 (aa 3))) (aw 2 (aa 3)))) (aa 3) false) (c_ ag))
def w9:=bT 3 (IU)
theorem X_:af ["_law_ladder_here","_law_one","_law_other"] ["_law_ladder_here","_law_one","_law_other"] (bu (top 50)):=cK (by decide +kernel)
abbrev IV:List Str:=["_law_ladder_here","_law_one","_law_other","_law_k"]
theorem Y_:(IV).Nodup:=by decide +kernel
theorem Z_(B:Bt mg)(a:At K mg "_law_is_no_more" (top 50) ["_law_ladder_here","_law_one","_law_other"]):ay P w K mg base 1 "_law_is_no_more" 3 (w9):=
 ay.cQ a X_ fun _ _ _ _ _ _ _ hr=>
  aR (bQ (Pb hr (iV (k:=1) (N':=IV) false rfl ⟨rfl,by decide +kernel,rfl,rfl,rfl⟩ (fA B.av (au (eZ B.aN (qv 1)) aq cu)) (fun _ _ _ _=>bR (i:=3) (show 3<=3 by decide) Y_ rfl (Or.inl rfl) (Or.inr rfl)) (fun _ _ _ _=>pX (ly hr (fQ (aX (qv 0) (aX (qv 1) (bE (qv 3)))) (aX (qv 2) (bE (qv 3)))) (aX (qv 2) (bE (qv 3))))) (fun _ _ _ _=>bE (qv 3))) (fI aq)))
abbrev C2:aH:=aG (bg 8 (aw 7 (aw 2 (aa 5))))
 (yH 2 (oJ 6) (cL (aw 0 (aw 2 (aa 6))) (aa 8)))
abbrev C3:aH:=yH 2 (oJ 3) (cL (aw 0 (aw 2 (aa 3))) (aa 4))
def IW:aH:=aG (bg 2 (BG 2))
 (aG (dU (cW (aw 1 (eC (.int 2)))) (jc (cE (aC 3) (cE (aC 4) iH))) C3)
 (aG (dU (cW (aw 1 (eC (.int 1)))) (jc (cE (aC 5) (cE (aC 6) (cE (aC 7) iH)))) C2)
 (bF (iG (ab (aa 2) ag)))))
def uw:=bT 9 (IW)
theorem qG:af ["_law_ladder_here","_law_chart_here","_law_worths_here","_law_place","_law_worth","_law_start","_law_goal","_law_rule_here","_law_comes"] ["_law_ladder_here","_law_chart_here","_law_worths_here"] (bu (top 46)):=cK (by decide +kernel)
theorem y4r(B:Bt mg)(a:At K mg "_law_raised" (top 46) ["_law_ladder_here","_law_chart_here","_law_worths_here"]):ay P w K mg base 1 "_law_raised" 3 (uw):=
 ay.cQ a qG fun _ _ _ _ _ _ _ hr=>
  aM (bG (i:=2) qG.nd rfl (Or.inl rfl) (R0 B.d8 ZB (ql 2 rfl rfl)))
  (aM (fR QF rfl (iF (aX (ql 1 rfl rfl) aS)) (rO (n:=2) rfl (jA (bR (i:=3) (show 0<=3 by decide) qG.nd rfl (Or.inl rfl)) (jA (bR (i:=4) (show 0<=4 by decide) qG.nd rfl (Or.inl rfl)) rN)) vq) (aR (FR (ql 2 rfl rfl) (yv (ql 3 rfl rfl)) (fQ (aX (ql 0 rfl rfl) (aX (ql 2 rfl rfl) (aD 3 rfl rfl))) (aD 4 rfl rfl)))))
  (aM (fR QF rfl (iF (aX (ql 1 rfl rfl) aS)) (rO (n:=3) rfl (jA (bR (i:=5) (show 0<=5 by decide) qG.nd rfl (Or.inl rfl)) (jA (bR (i:=6) (show 0<=6 by decide) qG.nd rfl (Or.inl rfl)) (jA (bR (i:=7) (show 0<=7 by decide) qG.nd rfl (Or.inl rfl)) rN))) FQ) (aM (bG (i:=8) qG.nd rfl (Or.inl rfl) (aX (ql 7 rfl rfl) (aX (ql 2 rfl rfl) (aD 5 rfl rfl))))
  (aR (FR (ql 2 rfl rfl) (yv (ql 6 rfl rfl)) (fQ (aX (ql 0 rfl rfl) (aX (ql 2 rfl rfl) (aD 6 rfl rfl))) (aD 8 rfl rfl))))))
  (aR (bQ (nF B.bC QY (aI 2 rfl rfl aq))))))
abbrev C4:aH:=aG (bg 2 (aa 3))
 (bg 3 (aL uw 3 (ab (aa 0) (ab (aa 1) (ab (aa 2) ag)))))
def IX:aH:=aG (bg 3 (aL uw 3 (ab (aa 0) (ab (aa 1) (ab (aa 2) ag)))))
 (aG (qc (bB (e2 di (aa 3) (aa 2))) C4)
 (bF (aa 2)))
def w_:=bT 4 (IX)
theorem zz:af ["_law_ladder_here","_law_chart_here","_law_worths_here","_law_more"] ["_law_ladder_here","_law_chart_here","_law_worths_here"] (bu (top 47)):=cK (by decide +kernel)
theorem y41(B:Bt mg)(IY:ay P w K mg base 1 "_law_raised" 3 uw)(a:At K mg "_law_lowest" (top 47) ["_law_ladder_here","_law_chart_here","_law_worths_here"]):ay P w K mg base 2 "_law_lowest" 3 (w_):=
 ay.cQ a zz fun _ _ _ _ _ _ _ hr=>
  aM (bG (i:=3) zz.nd rfl (Or.inl rfl) (bq IY hr (by decide) (aI 0 rfl rfl (aI 1 rfl rfl (aI 2 rfl rfl aq)))))
  (aM (yG QF (ly hr (aD 3 rfl rfl) (aD 2 rfl rfl)) (aM (bG (i:=2) zz.nd rfl (Or.inl rfl) (aD 3 rfl rfl))
  (aR (bG (i:=3) zz.nd rfl (Or.inl rfl) (bq IY hr (by decide) (aI 0 rfl rfl (aI 1 rfl rfl (aI 2 rfl rfl aq))))))))
  (aR (bQ (aD 2 rfl rfl))))
abbrev C5:aH:=dZ (bB (e2 di (cL (aw 1 (aa 8)) (aw 5 (aa 7))) (aw 5 (aa 7)))) (bF (eC (.bl false))) (fJ)
abbrev C6:aH:=dZ (bB (e2 di (aw 4 (aa 7)) (aL oW 2 (ab (aa 1) (ab (dN 1 (cW (aa 6)) (aC 9) (bB (e2 cS (aw 9 (eC (.int 0))) (aa 7))) (aw 9 (eC (.int 1))) false) ag))))) (bF (eC (.bl false))) (fJ)
abbrev zA:aH:=aG (bg 3 (aL oX 4 (ab (aa 0) (ab (e2 cn (eC (.int 20)) (e2 kc (eC (.int 180)) (eB yK (ab (aa 2) ag)))) (ab (aa 1) (ab (aa 2) ag))))))
 (aG (bg 4 (aL wK 2 (ab (aa 1) (ab (aa 3) ag))))
 (aG (bg 5 (aL wY 2 (ab (aa 1) (ab (aa 3) ag))))
 (aG (bg 6 (aL wZ 2 (ab (aa 1) (ab (aa 3) ag))))
 (aG (dU (cI (ab (aw 3 (eC (.int 0))) ag)) (aC 7) C6)
 (aG (dZ (ny (ls (iT (aL w9 3 (ab (aa 1) (ab (aa 4) (ab (aa 5) ag)))))) (bB (e2 di (aL w_ 3 (ab (aa 1) (ab (aa 3) (ab (aa 4) ag)))) (aa 5)))) (bF (eC (.bl false))) fJ)
 (aG (dU (cW (aa 6)) (jc (cE (aC 7) (cE (aC 8) iH))) C5)
 (aG (dZ (ny (bB (e2 di (aL oZ 2 (ab (aa 1) (ab (aa 3) ag))) (aa 6))) (nv (iT (aa 2)) (bB (e2 di (aa 4) (aa 5))))) (bF (eC (.bl false))) fJ)
 (dZ (nv (bB (e2 cS (dN 1 (cW (aw 3 (eC (.int 1)))) (aC 9) (ls (iT (aL qE 2 (ab (aa 1) (ab (aw 9 (eC (.int 2))) ag))))) (aa 9) false) (c_ ag))) (bB (e2 di (aa 4) (aa 5)))) (bF (eC (.bl false))) fJ))))))))
def IZ:aH:=aG (bg 1 (aL wD 2 (ab (aa 0) (ab (eC (.int 0)) ag))))
 (aG (dU (cW (dS (ab (eC (.bl false)) (ab (eC (.bl true)) ag)))) (aC 2) zA)
 (bF (eC (.bl true))))
def ux:=bT 9 (IZ)
theorem nQ:af ["_law_script","_law_ladder_here","_law_spread","_law_chart_here","_law_told","_law_least_here","_law_found","_law_place","_law_worth"] ["_law_script"] (bu (top 52)):=cK (by decide +kernel)
abbrev I0:List Str:=["_law_script","_law_ladder_here","_law_spread","_law_chart_here","_law_told","_law_least_here","_law_found","_law_place","_law_worth","_law_state"]
theorem j1f:(I0).Nodup:=by decide +kernel
abbrev I9:List Str:=["_law_script","_law_ladder_here","_law_spread","_law_chart_here","_law_told","_law_least_here","_law_found","_law_place","_law_worth","_law_way"]
theorem j2k:(I9).Nodup:=by decide +kernel
theorem z9x(B:Bt mg)(c15:ay P w K mg base 4 "_law_ladder" 2 wD)(c11:ay P w K mg base 5 "_law_chart" 4 oX)(c28:ay P w K mg base 6 "by_paths" 2 wK)(c35:ay P w K mg base 7 "least" 2 wY)(c24:ay P w K mg base 2 "_law_states" 2 wZ)(CO:ay P w K mg base 2 "_law_join" 2 oW)(c13:ay P w K mg base 1 "_law_is_no_more" 3 w9)(c17:ay P w K mg base 2 "_law_lowest" 3 w_)(CZ:ay P w K mg base 5 "states" 2 oZ)(CS:ay P w K mg base 1 "_law_spreads" 2 qE){f:Addr}{fd:FuncData}(F:lU K "law" "law" (top 52) f fd):eG P w K mg base ju 8 f fd ["_law_script"] (kL K 1 ux):=
 UY (k:=7) F nQ fun _ _ _ _ _ _ _ hr=>
  aM (bG (i:=1) nQ.nd rfl (Or.inr rfl) (bq c15 hr (by decide) (aI 0 rfl rfl (cN aq))))
  (aM (fR QF rfl (iF (gU (au l7 (au l7 aq rM) rM))) (bR (i:=2) (show 0<=2 by decide) nQ.nd rfl (Or.inl rfl)) (aM (bG (i:=3) nQ.nd rfl (Or.inl rfl) (bq c11 hr (by decide) (aI 0 rfl rfl (au (dE aS (l8 aS (R_ B.qB (aI 2 rfl rfl aq)))) (au (bE (qv 1)) (aI 2 rfl rfl aq) dG) fL))))
  (aM (bG (i:=4) nQ.nd rfl (Or.inl rfl) (bq c28 hr (by decide) (au (bE (qv 1)) (aI 3 rfl rfl aq) dG)))
  (aM (bG (i:=5) nQ.nd rfl (Or.inl rfl) (bq c35 hr (by decide) (au (bE (qv 1)) (aI 3 rfl rfl aq) dG)))
  (aM (bG (i:=6) nQ.nd rfl (Or.inl rfl) (bq c24 hr (by decide) (au (bE (qv 1)) (aI 3 rfl rfl aq) dG)))
  (aM (fR QF rfl (fA B.av (au (aX (ql 3 rfl rfl) aS) aq fU)) (bR (i:=7) (show 0<=7 by decide) nQ.nd rfl (Or.inr rfl)) (aR (gX (ly hr (aX (ql 4 rfl rfl) (bE (qv 7))) (bq CO hr (by decide) (au (bE (qv 1)) (au (iV (k:=1) (N':=I0) false rfl ⟨rfl,by decide +kernel,rfl,rfl,rfl⟩ (iF (aD 6 rfl rfl)) (fun _ _ _ _=>bR (i:=9) (show 9<=9 by decide) j1f rfl (Or.inl rfl) (Or.inr rfl)) (fun _ _ _ _=>pX (lu hr (aX (qv 9) aS) (bE (qv 7)))) (fun _ _ _ _=>aX (qv 9) aS)) aq rL) dG))) (aR (bQ l7)) gW)))
  (aM (gX (sj (vg (vf (oB (bq c13 hr (by decide) (au (bE (qv 1)) (aI 4 rfl rfl (aI 5 rfl rfl aq)) dG)))) (yg (ly hr (bq c17 hr (by decide) (au (bE (qv 1)) (aI 3 rfl rfl (aI 4 rfl rfl aq)) dG)) (aD 5 rfl rfl))))) (aR (bQ l7)) gW)
  (aM (fR QF rfl (iF (aD 6 rfl rfl)) (rO (n:=2) rfl (jA (bR (i:=7) (show 0<=7 by decide) nQ.nd rfl (Or.inr rfl)) (jA (bR (i:=8) (show 0<=8 by decide) nQ.nd rfl (Or.inl rfl)) rN)) vq) (aR (gX (ly hr (fQ (aX (qv 1) (aD 8 rfl rfl)) (aX (ql 5 rfl rfl) (bE (qv 7)))) (aX (ql 5 rfl rfl) (bE (qv 7)))) (aR (bQ l7)) gW)))
  (aM (gX (sj (vg (ly hr (bq CZ hr (by decide) (au (bE (qv 1)) (aI 3 rfl rfl aq) dG)) (aD 6 rfl rfl)) (yg (sj (Bf (oB (aD 2 rfl rfl)) (Be (ly hr (aD 4 rfl rfl) (aD 5 rfl rfl)))))))) (aR (bQ l7)) gW)
  (aR (gX (sj (Bf (lu hr (iV (k:=1) (N':=I9) false rfl ⟨rfl,by decide +kernel,rfl,rfl,rfl⟩ (iF (aX (ql 3 rfl rfl) aS)) (fun _ _ _ _=>bR (i:=9) (show 9<=9 by decide) j2k rfl (Or.inl rfl) (Or.inr rfl)) (fun _ _ _ _=>pX (vf (oB (bq CS hr (by decide) (au (bE (qv 1)) (au (aX (qv 9) aS) aq fU) dG))))) (fun _ _ _ _=>bE (qv 9))) (fI aq)) (Be (ly hr (aD 4 rfl rfl) (aD 5 rfl rfl))))) (aR (bQ l7)) gW)))))))))))
  (aR (bQ l7)))
end
abbrev bV (ns:List Int):D:=.lst (ns.map D.int)
abbrev n0 (l:List Int):OD:=some (bV l,0)
def zB (ns:List Int)(k:Int):Int:=if k<ns.length then ns.getD k.toNat 0 else if ns=[]then 0 else ns.getD (k % ns.length).toNat 0*31+k
theorem I_{ns:List Int}{k:Int}(h0:0<=k)(h:k<ns.length):L2.dC (ns.map D.int) k=some (.int (ns.getD k.toNat 0)):=by
 obtain⟨m,rfl⟩:∃ m:Nat,k=Int.ofNat m:=⟨k.toNat,by show k=(k.toNat:Int);omega⟩
 have hk:m<ns.length:=by have:(m:Int)<ns.length:=h;omega
 apply qy
 rw[Ql,Qb hk]
 simp[hk]
theorem j3o(ns:List Int):Sh 1 (bV ns):=.lst fun d m=>by
 obtain⟨x,_,rfl⟩:=Qr.mp m
 exact .int _
theorem J_(ns:List Int):cS (bV ns) (.lst [])=some (.bl (decide (ns=[]))):=by
 unfold cS
 rw[Qj ⟨(j3o ns).ok,(wg []).ok⟩]
 cases ns<;>rfl
theorem j2q(ns:List Int)(k:Int)(h0:0<=k):wA [bV ns,.int k]=some (.int (zB ns k),9):=by
 unfold wA HB zB
 by_cases h:k<ns.length
 ·simp[h,I_ h0 h,eU,cf]
 ·by_cases hn:ns=[]
  ·subst hn
   have h':¬ k<0:=by omega
   simp[h',eU,J_]
  ·have hp:(0:Int)<ns.length:=by have:=Z1.mpr hn;omega
   have h1:=VQ k (Int.ne_of_gt hp)
   have h2:=Vd k hp
   have h3:=I_ h1 h2
   have j9:=Z1.mpr hn
   simp[h,eU,cf,J_,hn,j9,h3]
def qH (ns:List Int)(k:Int):Int:=(zB ns k+6151*(k+1))*40692 % 2147483399
def i6 (ns:List Int)(k m:Int):Int:=(qH ns k*qH ns k+qH ns k / 31) % 2147483629 % m
theorem o7(ns:List Int)(k m:Int)(h0:0<=k)(hm:0<m):dQ [bV ns,.int k,.int m]=some (.int (i6 ns k m),9):=by
 have d0:0<=qH ns k:=VQ _ (by decide)
 have d1:qH ns k<2147483399:=Vd _ (by decide)
 have g1:-18446744073709551616<qH ns k:=by omega
 have g2:qH ns k<18446744073709551616:=by omega
 have hd:(zB ns k+6151*(k+1))*40692 % 2147483399=qH ns k:=rfl
 unfold dQ HC i6
 simp[j2q ns k h0,hm,hd,g1,g2]
theorem nR(ns:List Int)(k:Int){m:Int}(hm:0<m):0<=i6 ns k m:=VQ _ (Int.ne_of_gt hm)
theorem o8(ns:List Int)(k:Int){m:Int}(hm:0<m):i6 ns k m<m:=Vd _ hm
def tf (rows:List (List Nat))(i j:Nat):Nat:=(rows.getD i []).getD j 0
def eE (rows:List (List Nat)):D:=bP rows.length (tf rows)
def ch (n:Nat):List (List Nat):=(List.range n).map fun i=>(List.range n).map fun j=>max i j
def cp (a b:List (List Nat)):List (List Nat):=(List.range (a.length*b.length)).map fun i=>(List.range (a.length*b.length)).map fun j=>tf a (i / b.length) (j / b.length)*b.length+tf b (i % b.length) (j % b.length)
def sb (n:Nat):List (List Nat):=(List.range (n+2)).map fun i=>(List.range (n+2)).map fun j=>if i=0\/j=0\/i=j then max i j else n+1
def n5:List (List Nat):=[[0,1,2,3,4],[1,1,2,4,4],[2,2,2,4,4],[3,4,4,3,4],[4,4,4,4,4]]
def o9:List (List (List Nat)):=[ch 1,ch 2,ch 3,ch 4,ch 5,cp (ch 2) (ch 2),cp (ch 2) (ch 3),cp (ch 2) (ch 4),sb 0,sb 1,sb 2,sb 3,sb 4,cp (ch 2) (cp (ch 2) (ch 2)),n5]
theorem ch1:jU [.int 1]=some (eE (ch 1),1):=by rfl
theorem zC:jU [.int 2]=some (eE (ch 2),1):=by rfl
theorem Ka:jU [.int 3]=some (eE (ch 3),1):=by rfl
theorem Kb:jU [.int 4]=some (eE (ch 4),1):=by rfl
theorem ch5:jU [.int 5]=some (eE (ch 5),1):=by rfl
theorem sb0:oV [.int 0]=some (eE (sb 0),0):=by rfl
theorem sb1:oV [.int 1]=some (eE (sb 1),0):=by rfl
theorem sb2:oV [.int 2]=some (eE (sb 2),0):=by rfl
theorem sb3:oV [.int 3]=some (eE (sb 3),0):=by rfl
theorem sb4:oV [.int 4]=some (eE (sb 4),0):=by rfl
theorem Kc:nK [eE (ch 2),eE (ch 2)]=some (eE (cp (ch 2) (ch 2)),0):=by rfl
theorem j8t:nK [eE (ch 2),eE (ch 3)]=some (eE (cp (ch 2) (ch 3)),0):=by rfl
theorem j98:nK [eE (ch 2),eE (ch 4)]=some (eE (cp (ch 2) (ch 4)),0):=by rfl
theorem j7a:nK [eE (ch 2),eE (cp (ch 2) (ch 2))]=some (eE (cp (ch 2) (cp (ch 2) (ch 2))),0):=by rfl
theorem j0e(ns:List Int)(t:Int)(h0:0<=t):∃ rows∈o9,∃ q,wC [bV ns,.int t]=some (eE rows,q):=by
 have k0:=nR ns t (m:=9) (by decide)
 have k1:=o8 ns t (m:=9) (by decide)
 have p0:=nR ns (t+1) (m:=5) (by decide)
 have p1:=o8 ns (t+1) (m:=5) (by decide)
 have r0:=nR ns (t+1) (m:=3) (by decide)
 have r1:=o8 ns (t+1) (m:=3) (by decide)
 have e9:=o7 ns t 9 h0 (by decide)
 have e5:=o7 ns (t+1) 5 (by omega) (by decide)
 have e3:=o7 ns (t+1) 3 (by omega) (by decide)
 have mem:∀ i:Nat,i<15->o9.getD i []∈o9:=fun i hi=>by
  rw[Qf,Qb (show i<o9.length from hi)]
  exact QR _
 have hc:∀ p:Int,0<=p->p<5->∃ rows∈o9,jU [.int (1+p)]=some (eE rows,1):=fun p a b=>by
  have:p=0\/p=1\/p=2\/p=3\/p=4:=by omega
  rcases this with rfl|rfl|rfl|rfl|rfl
  ·exact⟨_,mem 0 (by decide),ch1⟩
  ·exact⟨_,mem 1 (by decide),zC⟩
  ·exact⟨_,mem 2 (by decide),Ka⟩
  ·exact⟨_,mem 3 (by decide),Kb⟩
  ·exact⟨_,mem 4 (by decide),ch5⟩
 have hs:∀ p:Int,0<=p->p<5->∃ rows∈o9,oV [.int p]=some (eE rows,0):=fun p a b=>by
  have:p=0\/p=1\/p=2\/p=3\/p=4:=by omega
  rcases this with rfl|rfl|rfl|rfl|rfl
  ·exact⟨_,mem 8 (by decide),sb0⟩
  ·exact⟨_,mem 9 (by decide),sb1⟩
  ·exact⟨_,mem 10 (by decide),sb2⟩
  ·exact⟨_,mem 11 (by decide),sb3⟩
  ·exact⟨_,mem 12 (by decide),sb4⟩
 have hp:∀ r:Int,0<=r->r<3->∃ x mR rows,cf (.lst [.int 2,.int 3,.int 4]) r=some (.int x)/\jU [.int x]=some (eE mR,1)/\rows∈o9/\nK [eE (ch 2),eE mR]=some (eE rows,0):=fun r a b=>by
  have:r=0\/r=1\/r=2:=by omega
  rcases this with rfl|rfl|rfl
  ·exact⟨2,_,_,rfl,zC,mem 5 (by decide),Kc⟩
  ·exact⟨3,_,_,rfl,Ka,mem 6 (by decide),j8t⟩
  ·exact⟨4,_,_,rfl,Kb,mem 7 (by decide),j98⟩
 unfold wC HG
 generalize i6 ns t 9=k at *
 generalize i6 ns (t+1) 5=p at *
 generalize i6 ns (t+1) 3=r at *
 by_cases h3:k<3
 ·obtain⟨rows,hm,e⟩:=hc p p0 p1
  exact⟨rows,hm,1,by simp[e9,e5,h3,e]⟩
 by_cases h5:k<5
 ·obtain⟨x,mR,rows,ea,e1,hm,kQ⟩:=hp r r0 r1
  exact⟨rows,hm,0,by simp[e9,e3,h3,h5,zC,ea,e1,kQ]⟩
 by_cases h7:k<7
 ·obtain⟨rows,hm,e⟩:=hs p p0 p1
  exact⟨rows,hm,0,by simp[e9,e5,h3,h5,h7,e]⟩
 have:k=7\/k=8:=by omega
 rcases this with rfl|rfl
 ·exact⟨_,mem 13 (by decide),0,by simp[e9,Hi,zC,Kc];exact j7a⟩
 ·refine⟨_,mem 14 (by decide),0,?_⟩
  simp[e9,Hi]
  rfl
theorem z6y:∀ rows∈o9,CF rows.length (tf rows)=true:=by decide +kernel
def pk (ns:List Int)(t:Int)(k m:Nat):Nat:=(i6 ns (t+2+Int.ofNat k) (Int.ofNat m)).toNat
theorem C7(ns:List Int)(t:Int)(k m:Nat)(h:0<m):pk ns t k m<m:=by
 have h1:=nR ns (t+2+Int.ofNat k) (m:=Int.ofNat m) (by show(0:Int)<m;omega)
 have h2:=o8 ns (t+2+Int.ofNat k) (m:=Int.ofNat m) (by show(0:Int)<m;omega)
 have h3:(Int.ofNat m)=(m:Int):=rfl
 unfold pk
 omega
theorem j7p(ns:List Int)(t:Int)(k m:Nat)(h:0<m):i6 ns (t+2+Int.ofNat k) (Int.ofNat m)=Int.ofNat (pk ns t k m):=by
 have h1:=nR ns (t+2+Int.ofNat k) (m:=Int.ofNat m) (by show(0:Int)<m;omega)
 unfold pk
 show _=((i6 ns (t+2+Int.ofNat k) (Int.ofNat m)).toNat:Int)
 omega
section
variable (ns:List Int)(t:Int)(n:Nat)(B:Nat->Nat->Nat)(q:Nat)
theorem z66(h0:0<=t)(hn:n<=16):jy 1 (aC 8) da (vm 3 (ab (aL dQ 3 (ab (aa 0) (ab (e2 cn (e2 cn (aa 1) (eC (.int 2))) (aa 8)) (ab (bZ 3) ag)))) ag)) false (cj n)
  [(n0 ns),some (.int t,9),some (bP n B,q),some (.lst (cj n),1),none,none,none,none] =
  some (ak ((List.range n).map (drawn (pk ns t) n)),[(n0 ns),some (.int t,9),some (bP n B,q),some (.lst [],1),none,none,none,none]):=by
 have hp:=C7 ns t
 have h:=qx (k:=1) (pt:=aC 8) (tt:=da) (te:=vm 3 (ab (aL dQ 3 (ab (aa 0) (ab (e2 cn (e2 cn (aa 1) (eC (.int 2))) (aa 8)) (ab (bZ 3) ag)))) ag)) (deep:=false) (cj n)
  (fun k=>[(n0 ns),some (.int t,9),some (bP n B,q),(uL (bK (pk ns t) n k)),none,none,none,none]) (fun _=>true) (fun k=>(iD (drawn (pk ns t) n k))) (fun k hk=>?_)
 ·rw[d7]at h
  have hl:bK (pk ns t) n n=[]:=Zj.mp (by rw[wo hp n (Qi n)];omega)
  rw[hl]at h
  have e1:(List.range n).filter (fun _=>true)=List.range n:=by simp
  rw[e1]at h
  simp only[ak,Zb,Vm]
  exact h
 ·rw[d7]at hk
  have hl:=wo hp k (ZI hk)
  have Kd:0<(bK (pk ns t) n k).length:=by rw[hl];omega
  have e:=j7p ns t k _ Kd
  have hj:=C7 ns t k _ Kd
  have Ke:=o7 ns (t+2+Int.ofNat k) (Int.ofNat (bK (pk ns t) n k).length) (by show 0<=t+2+(k:Int);omega) (by show(0:Int)<((bK (pk ns t) n k).length:Int);omega)
  have hs:seqIndex? (Int.ofNat (pk ns t k (bK (pk ns t) n k).length)) (ak (bK (pk ns t) n k)).length=some (pk ns t k (bK (pk ns t) n k).length):=(Al (ue (by rw[fC];exact hj))).1
  have hg:(ak (bK (pk ns t) n k))[pk ns t k (bK (pk ns t) n k).length]? = some (iD (drawn (pk ns t) n k)):=by
   rw[G_]
   unfold drawn
   rw[Qf,Qb hj]
   rfl
  have hb:pk ns t k (bK (pk ns t) n k).length<=16:=by omega
  have he:(ak (bK (pk ns t) n k)).eraseIdx (pk ns t k (bK (pk ns t) n k).length)=ak (bK (pk ns t) n (k+1)):=by rw[bK,Hk]
  refine⟨[(n0 ns),some (.int t,9),some (bP n B,q),(uL (bK (pk ns t) n k)),none,none,none,none,(i9 k)],_,by simp[cj],rfl,?_⟩
  rw[Qj rfl]
  refine⟨9,[(n0 ns),some (.int t,9),some (bP n B,q),(uL (bK (pk ns t) n (k+1))),none,none,none,none,(i9 k)],?_,by simp,by simp⟩
  have b1:(-1000:Int)<=Int.ofNat (pk ns t k (bK (pk ns t) n k).length):=by show(-1000:Int)<=(pk ns t k (bK (pk ns t) n k).length:Int);omega
  have b2:Int.ofNat (pk ns t k (bK (pk ns t) n k).length)<=1000:=by show(pk ns t k (bK (pk ns t) n k).length:Int)<=1000;omega
  have iy:eU (.lst (ak (bK (pk ns t) n k)))=some (bK (pk ns t) n k).length:=by simp[eU,fC]
  rw[e]at Ke
  simp[-Int.ofNat_eq_natCast,iy,Ke,hs,hg,he,b1,b2]
theorem j0y(hn:n<=16)(x:OD):jy 1 (aC 8) da (tX (c_ (ab (eC (.int 0)) ag)) (bZ 2)) true ((List.range n).map fun i=>eL n B i)
  [(n0 ns),some (.int t,9),some (bP n B,0),some (.lst [],1),x,none,none,none] =
  some ((List.range n).map fun i=>eL n (fun _ _=>0) i,[(n0 ns),some (.int t,9),some (bP n B,0),some (.lst [],1),x,none,none,none]):=by
 have h:=qx (k:=1) (pt:=aC 8) (tt:=da) (te:=tX (c_ (ab (eC (.int 0)) ag)) (bZ 2)) (deep:=true) ((List.range n).map fun i=>eL n B i)
  (fun _=>[(n0 ns),some (.int t,9),some (bP n B,0),some (.lst [],1),x,none,none,none]) (fun _=>true) (fun i=>eL n (fun _ _=>0) i) (fun k hk=>?_)
 ·rw[Qc,QM,show(List.range n).filter (fun _=>true)=List.range n by simp]at h
  exact h
 ·refine⟨[(n0 ns),some (.int t,9),some (bP n B,0),some (.lst [],1),x,none,none,none,some (eL n B k,0)],_,by simp[eL],rfl,?_⟩
  rw[Qj rfl]
  refine⟨1,[(n0 ns),some (.int t,9),some (bP n B,0),some (.lst [],1),x,none,none,none,some (eL n B k,0)],?_,by simp,by simp⟩
  have z:eL n (fun _ _=>0) k=D.lst (List.replicate n [D.int 0]).flatten:=(U4 n).symm
  have b1:(-1000:Int)<=n:=by omega
  have b2:(n:Int)<=1000:=by omega
  have b3:n<=1000:=by omega
  rw[z]
  simp[we,b1,b2,b3]
def gM (π ι:Nat->Nat)(i j a b:Nat):Nat:=if ι a<i\/(ι a=i/\ι b<j)then π (B (ι a) (ι b))else 0
abbrev sJ:aH:=vp 5 (rJ 4 (oJ 6)) (rJ 4 (oJ 7)) (aw 4 (cL (aw 2 (aa 6)) (aa 7)))
section
variable {n B}{π ι:Nat->Nat}(cl:∀ i j,i<n->j<n->B i j<n)(h1:∀ i,i<n->π i<n)(h2:∀ i,i<n->ι i<n)(h3:∀ i,i<n->ι (π i)=i)(h4:∀ i,i<n->π (ι i)=i)
include cl h1 h2 h3 h4
theorem z3k(hi:i<n)(hj:j<n){y:OD} :
  sJ [(n0 ns),some (.int t,9),some (bP n B,0),some (.lst [],1),(uL ((List.range n).map π)),some (bP n f,2),(i9 i),(i9 j)] =
  some (.nx [(n0 ns),some (.int t,9),some (bP n B,0),some (.lst [],1),(uL ((List.range n).map π)),some (bP n (fun a b=>if a=π i/\b=π j then π (B i j)else f a b),2),(i9 i),(i9 j)]):=by
 have a1:=U1 (f:=B) hi
 have a2:=U2 (f:=B) (i:=i) hj
 have a3:cf (.lst (ak ((List.range n).map π))) (Int.ofNat (B i j))=some (iD (π (B i j))):=sk (cl i j hi hj)
 have a4:cf (.lst (ak ((List.range n).map π))) (Int.ofNat i)=some (iD (π i)):=sk hi
 have a5:cf (.lst (ak ((List.range n).map π))) (Int.ofNat j)=some (iD (π j)):=sk hj
 have a6:ib ((List.range n).map fun a=>eL n f a).length (Int.ofNat (π i))=some (π i):=ue (by simpa using h1 i hi)
 have a7:((List.range n).map fun a=>eL n f a)[π i]? = some (.lst (ak ((List.range n).map fun b=>f (π i) b))):=by rw[Ql,Zn (h1 i hi)];rfl
 have a8:ib (ak ((List.range n).map fun b=>f (π i) b)).length (Int.ofNat (π j))=some (π j):=ue (by simpa [fC]using h1 j hj)
 have a9:=U3 (n:=n) (f:=f) (a:=π i) (b:=π j) (v:=π (B i j))
 rw[<- a9]
 show sJ [(n0 ns),some (.int t,9),some (bP n B,0),some (.lst [],1),(uL ((List.range n).map π)),some (.lst ((List.range n).map fun a=>eL n f a),2),(i9 i),(i9 j)]=_
 unfold sJ
 simp only[vp,aw,cL,aa,rJ,oJ,Zy,List.getElem?_cons_zero,D.cJ,Zz,a1,a2,a3,a4,a5,a6,a7,a8,ne_eq,not_true_eq_false,false_and,and_false,Zl,Qt,reduceCtorEq,Q8,Q0,fy,List.set_cons_succ,List.set_cons_zero]
abbrev kC (f:Nat->Nat->Nat)(x y:OD):aQ:=[(n0 ns),some (.int t,9),some (bP n B,0),some (.lst [],1),(uL ((List.range n).map π)),some (bP n f,2),x,y]
omit cl h1 h2 h3 h4
theorem qI(h:i<(cj n).length):(cj n)[i]=(iD i):=by simp[cj]
include cl h1 h2 h3 h4
theorem z7t(hi:i<n)(hj:j<n):bP n (fun a b=>if a=π i/\b=π j then π (B i j)else gM B π ι i j a b)=bP n (gM B π ι i (j+1)):=by
 refine zf fun a b ha hb=>?_
 unfold gM
 by_cases h:a=π i/\b=π j
 ·obtain⟨rfl,rfl⟩:=h
  rw[Qj ⟨rfl,rfl⟩,h3 i hi,h3 j hj,Qj (.inr ⟨rfl,Zv _⟩)]
 ·rw[Qk h]
  have:¬ (ι a=i/\ι b=j):=fun⟨e1,e2⟩=>h ⟨by rw[<- e1,h4 a ha],by rw[<- e2,h4 b hb]⟩
  by_cases c:ι a<i\/ι a=i/\ι b<j
  ·rw[Qj c,Qj (by omega)]
  ·rw[Qk c,Qk (by omega)]
theorem z98:bP n (gM B π ι i n)=bP n (gM B π ι (i+1) 0):=by
 refine zf fun a b ha hb=>?_
 have:=h2 b hb
 unfold gM
 by_cases c:ι a<i\/ι a=i/\ι b<n
 ·rw[Qj c,Qj (by omega)]
 ·rw[Qk c,Qk (by omega)]
theorem z7k(hn:n<=16)(hi:i<n)(y:OD):∃ y',dF (aC 7) sJ (cj n) (kC ns t (n:=n) (B:=B) (π:=π) (gM B π ι i 0) ((i9 i)) y) =
  some (.nx (kC ns t (n:=n) (B:=B) (π:=π) (gM B π ι (i+1) 0) ((i9 i)) y')):=by
 obtain⟨ρ',e,y',rfl⟩:=jE (pt:=aC 7) (body:=sJ) (cj n) (fun j ρ=>∃ y,ρ=kC ns t (n:=n) (B:=B) (π:=π) (gM B π ι i j) ((i9 i)) y) (kC ns t (n:=n) (B:=B) (π:=π) (gM B π ι i 0) ((i9 i)) y) (fun j hj ρ ai=>by
  obtain⟨y,hy⟩:=ai
  subst hy
  rw[d7]at hj
  refine⟨kC ns t (n:=n) (B:=B) (π:=π) (gM B π ι i j) ((i9 i)) ((i9 j)),_,by rw[qI];simp,.inl (z3k ns t cl h1 h2 h3 h4 hi hj (y:=none)),?_⟩
  rw[z7t cl h1 h2 h3 h4 hi hj]
  exact⟨_,rfl⟩) ⟨y,rfl⟩
 refine⟨y',?_⟩
 rw[e,d7]
 show some (Out.nx [_,_,_,_,_,some (bP n (gM B π ι i n),2),_,_])=_
 rw[z98 cl h1 h2 h3 h4]
theorem z5t(hn:n<=16)(x y:OD):∃ x' y',dF (aC 6) (dU (cI (ab (bZ 2) ag)) (aC 7) sJ) (cj n) (kC ns t (n:=n) (B:=B) (π:=π) (fun _ _=>0) x y) =
  some (.nx (kC ns t (n:=n) (B:=B) (π:=π) (fun a b=>π (B (ι a) (ι b))) x' y')):=by
 have z:bP n (fun _ _=>0)=bP n (gM B π ι 0 0):=zf fun a b _ _=>by unfold gM;rw[Qk (by omega)]
 have z':bP n (gM B π ι n 0)=bP n (fun a b=>π (B (ι a) (ι b))):=zf fun a b ha _=>by unfold gM;rw[Qj (.inl (h2 a ha))]
 obtain⟨ρ',e,x',y',rfl⟩:=jE (pt:=aC 6) (body:=dU (cI (ab (bZ 2) ag)) (aC 7) sJ) (cj n) (fun i ρ=>∃ x y,ρ=kC ns t (n:=n) (B:=B) (π:=π) (gM B π ι i 0) x y) (kC ns t (n:=n) (B:=B) (π:=π) (gM B π ι 0 0) x y) (fun i hi ρ ai=>by
  obtain⟨x,y,hy⟩:=ai
  subst hy
  rw[d7]at hi
  obtain⟨y',nS⟩:=z7k ns t cl h1 h2 h3 h4 hn hi y
  refine⟨kC ns t (n:=n) (B:=B) (π:=π) (gM B π ι i 0) ((i9 i)) y,_,by rw[qI];simp,.inl (show _=some (Out.nx (kC ns t (n:=n) (B:=B) (π:=π) (gM B π ι (i+1) 0) ((i9 i)) y'))from ?_),⟨_,_,rfl⟩⟩
  have b1:(-1000:Int)<=Int.ofNat n:=by show(-1000:Int)<=n;omega
  have b2:Int.ofNat n<=1000:=by show(n:Int)<=1000;omega
  have e:cI (ab (bZ 2) ag) (kC ns t (n:=n) (B:=B) (π:=π) (gM B π ι i 0) ((i9 i)) y)=some (cj n,kC ns t (n:=n) (B:=B) (π:=π) (gM B π ι i 0) ((i9 i)) y):=by
   simp[-Int.ofNat_eq_natCast,we,b1,b2]
   rfl
  unfold dU
  rw[e]
  exact nS) ⟨x,y,rfl⟩
 refine⟨x',y',?_⟩
 show dF _ _ _ [_,_,_,_,_,some (bP n (fun _ _=>0),2),_,_]=some (.nx [_,_,_,_,_,some (bP n (fun a b=>π (B (ι a) (ι b))),2),_,_])
 rw[z,<- z']
 rw[d7]at e
 exact e
end
end
theorem z6o{a b c d e:OD}{x y:OD}:jy 1 (aC 8) da (iG (ab (aa 8) ag)) false ((List.range n).map fun i=>eL n f i) [a,b,c,d,e,some (bP n f,0),x,y] =
  some ((List.range n).map fun i=>kU n f i,[a,b,c,d,e,some (bP n f,0),x,y]):=by
 have h:=qx (k:=1) (pt:=aC 8) (tt:=da) (te:=iG (ab (aa 8) ag)) (deep:=false) ((List.range n).map fun i=>eL n f i)
  (fun _=>[a,b,c,d,e,some (bP n f,0),x,y]) (fun _=>true) (fun i=>kU n f i) (fun k hk=>?_)
 ·rw[Qc,QM,show(List.range n).filter (fun _=>true)=List.range n by simp]at h
  exact h
 ·refine⟨[a,b,c,d,e,some (bP n f,0),x,y,some (eL n f k,0)],_,by simp[eL],rfl,?_⟩
  rw[Qj rfl]
  exact⟨9,[a,b,c,d,e,some (bP n f,0),x,y,some (eL n f k,0)],by simp[eL,kU],by simp,by simp⟩
theorem k5(hn:n<=1000)(h:ρ[i]? = some (some (d,q)))(hl:eU d=some n):cI (ab (bZ i) ag) ρ=some (cj n,ρ):=by
 have b1:(-1000:Int)<=Int.ofNat n:=by show(-1000:Int)<=n;omega
 have b2:Int.ofNat n<=1000:=by show(n:Int)<=1000;omega
 simp only[cI,ab,bZ,ag,h,hl]
 rw[Qj ⟨b1,b2⟩]
 rfl
theorem j0v:∀ rows∈o9,rows.length<=8:=by decide +kernel
theorem j2l(ns:List Int)(t:Int)(h0:0<=t):∃ n f,aV n f/\n<=8/\wD [bV ns,.int t]=(t9 n f):=by
 obtain⟨rows,hm,q,hb⟩:=j0e ns t h0
 have L:=U8 (z6y rows hm)
 have h8:=j0v rows hm
 unfold eE at hb
 revert hb L h8
 generalize rows.length=n
 generalize tf rows=B
 intro hb L h8
 have hp:=C7 ns t
 have hn:n<=1000:=QL L.hi (by decide)
 refine⟨n,fun a b=>drawn (pk ns t) n (B (kz (pk ns t) n a) (kz (pk ns t) n b)),L.U9 (fun i hi=>Hn hp hi) (fun i hi=>Ho hp hi) (fun i hi=>Hr hp hi) (fun i hi=>Hq hp hi),h8,?_⟩
 unfold wD HH
 refine eA ?_
 have s0:nA 8 [bV ns,.int t]=[(n0 ns),some (.int t,9),none,none,none,none,none,none]:=rfl
 rw[s0]
 refine(aU (ρ1:=[(n0 ns),some (.int t,9),some (bP n B,q),none,none,none,none,none]) ?_).trans ?_
 ·simp[hb]
 refine(aU (ρ1:=[(n0 ns),some (.int t,9),some (bP n B,q),some (.lst (cj n),1),none,none,none,none]) ?_).trans ?_
 ·exact ig (Cv (k5 hn rfl we)) rfl
 refine(aU (ρ1:=[(n0 ns),some (.int t,9),some (bP n B,q),some (.lst [],1),(uL ((List.range n).map (drawn (pk ns t) n))),none,none,none]) ?_).trans ?_
 ·exact ig (ie (k5 hn rfl we) (z66 ns t n B q h0 L.hi)) rfl
 refine(aU (ρ1:=[(n0 ns),some (.int t,9),some (bP n B,0),some (.lst [],1),(uL ((List.range n).map (drawn (pk ns t) n))),some (bP n (fun _ _=>0),2),none,none]) ?_).trans ?_
 ·have e:cW (aa 2) [(n0 ns),some (.int t,9),some (bP n B,q),some (.lst [],1),(uL ((List.range n).map (drawn (pk ns t) n))),none,none,none]=some ((List.range n).map fun i=>eL n B i,[(n0 ns),some (.int t,9),some (bP n B,0),some (.lst [],1),(uL ((List.range n).map (drawn (pk ns t) n))),none,none,none]):=by
   by_cases hq:q=0
   ·subst hq;simp[bP,hn]
   ·simp[bP,hn,hq]
  exact ig (ie e (j0y ns t n B L.hi _)) rfl
 obtain⟨x',y',hf⟩:=z5t ns t (n:=n) (B:=B) (π:=drawn (pk ns t) n) (ι:=kz (pk ns t) n) L.cl (fun i hi=>Hn hp hi) (fun i hi=>Ho hp hi) (fun i hi=>Hr hp hi) (fun i hi=>Hq hp hi) L.hi none none
 refine(aU ((gp (k5 hn rfl we)).trans hf)).trans ?_
 refine jF (ρ1:=[(n0 ns),some (.int t,9),some (bP n B,0),some (.lst [],1),(uL ((List.range n).map (drawn (pk ns t) n))),some (bP n (fun a b=>drawn (pk ns t) n (B (kz (pk ns t) n a) (kz (pk ns t) n b))),0),x',y']) ?_
 have e:cW (aa 5) (kC ns t (n:=n) (B:=B) (π:=drawn (pk ns t) n) (fun a b=>drawn (pk ns t) n (B (kz (pk ns t) n a) (kz (pk ns t) n b))) x' y')=some ((List.range n).map fun i=>eL n (fun a b=>drawn (pk ns t) n (B (kz (pk ns t) n a) (kz (pk ns t) n b))) i,[(n0 ns),some (.int t,9),some (bP n B,0),some (.lst [],1),(uL ((List.range n).map (drawn (pk ns t) n))),some (bP n (fun a b=>drawn (pk ns t) n (B (kz (pk ns t) n a) (kz (pk ns t) n b))),0),x',y']):=by
  simp[bP,hn]
 have e2:=ie (k:=1) (pt:=aC 8) (tt:=da) (te:=iG (ab (aa 8) ag)) (deep:=false) e z6o
 exact wc (fW e2)
section
variable {n:Nat}{f:Nat->Nat->Nat}
theorem z7d(hn:n<=1000){w:Nat}(hw:w<n):qD [aT n f,(iD w)]=(uL ((List.range n).filter fun x=>decide (f x w=w))):=by
 unfold qD HN
 refine eA (jF (ie (deep:=false) (ρ2:=[(t9 n f),(i9 w)]) (k5 hn rfl jd) ?_))
 refine oU (i:=2) (ρ:=[(t9 n f),(i9 w)]) (deep:=false) rfl (fun x=>decide (f x w=w)) (fun x=>(iD x)) (fun _=>9) (fun j hj=>?_) (fun j hj _=>?_)
 ·simp[-Int.ofNat_eq_natCast,ky hj,kW hw,wj]
 ·simp[-Int.ofNat_eq_natCast]
variable (L:aV n f){z:Nat}(hz:z<n)(bz:∀ j,j<n->f z j=j)
include L hz bz
theorem Kf{w:Nat}(hw:w<n):decide ((List.range n).map (fun j=>f w j)=List.range n)=decide (w=z):=by
 rw[Jv,U_]
 exact⟨fun h=>L.mK hz bz hw h,fun h=>by subst h;exact bz⟩
theorem C8(hn:n<=1000):nN [aT n f]=(i9 z):=by
 unfold nN HK
 refine eA (jF (ρ1:=[(t9 n f)]) ?_)
 have hc:dN 1 (cI (ab (bZ 0) ag)) (aC 1) (bB (e2 cS (vi (ab (aw 0 (aa 1)) ag)) (oH (ab (bZ 0) ag)))) (aa 1) false (nA 1 [aT n f])=some (.lst (ak [z]),1,[(t9 n f)]):=by
  refine(ie (deep:=false) (ρ2:=[(t9 n f)]) (k5 hn rfl jd) (oU rfl (fun x=>decide (x=z)) (fun x=>(iD x)) (fun _=>9) (fun j hj=>?_) (fun j hj _=>?_))).trans ?_
  ·have e1:vi (ab (aw 0 (aa 1)) ag) ([(t9 n f)]++[(i9 j)])=some (.lst (ak ((List.range n).map fun k=>f j k)),1,[(t9 n f),(i9 j)]):=by
    simp[-Int.ofNat_eq_natCast,ky hj,kU]
   have kQ:oH (ab (bZ 0) ag) [(t9 n f),(i9 j)]=some (.lst (ak (List.range n)),1,[(t9 n f),(i9 j)]):=Cv (k5 hn rfl jd)
   unfold bB e2
   rw[e1]
   simp only[kQ,Hh,Kf L hz bz hj]
   rfl
  ·simp[-Int.ofNat_eq_natCast]
  ·rw[Hs,Qj hz]
   rfl
 unfold cL
 rw[hc]
 simp[-Int.ofNat_eq_natCast,cf,ak,L2.dC,ib]
theorem Kg(hn:n<=1000){l:List Nat}(hl:l.length<=1000)(hm:∀ x∈l,x<n):oW [aT n f,.lst (ak l)]=(i9 (l.foldl f z)):=by
 unfold oW HM
 refine eA ?_
 refine(aU (ρ1:=[(t9 n f),some (.lst (ak l),0),(i9 z),none]) ?_).trans ?_
 ·simp[-Int.ofNat_eq_natCast,C8 L hz bz hn]
 obtain⟨ρ',e,y,rfl⟩:=jE (pt:=aC 3) (body:=bg 2 (cL (aw 0 (aa 2)) (aa 3))) (ak l) (fun i ρ=>∃ y,ρ=[(t9 n f),some (.lst (ak l),0),(i9 ((l.take i).foldl f z)),y]) [(t9 n f),some (.lst (ak l),0),(i9 z),none] (fun i hi ρ ai=>by
  obtain⟨y,hy⟩:=ai
  subst hy
  have cD:i<l.length:=by rw[fC]at hi;exact hi
  have hg:(ak l)[i]=.int (Int.ofNat l[i]):=by simp[ak]
  have hx:l[i]<n:=hm _ (QR cD)
  have ha:(l.take i).foldl f z<n:=L.fold_lt hz fun x m=>hm x (JN m)
  refine⟨[(t9 n f),some (.lst (ak l),0),(i9 ((l.take i).foldl f z)),some (.int (Int.ofNat l[i]),9)],[(t9 n f),some (.lst (ak l),0),(i9 ((l.take (i+1)).foldl f z)),some (.int (Int.ofNat l[i]),9)],?_,.inl ?_,⟨_,rfl⟩⟩
  ·rw[hg];simp
  ·rw[Yo cD,JH]
   simp[-Int.ofNat_eq_natCast,ky ha,kW hx]) ⟨none,rfl⟩
 rw[fC,ZG]at e
 refine(aU ((gp (ds:=ak l) (ρ1:=[(t9 n f),some (.lst (ak l),0),(i9 z),none]) ?_).trans e)).trans ?_
 ·simp[fC,hl]
 ·simp[-Int.ofNat_eq_natCast]
end
section
variable {n:Nat}{f:Nat->Nat->Nat}
variable (L:aV n f){z:Nat}(hz:z<n)(bz:∀ j,j<n->f z j=j)
include L hz bz
theorem C9(hn:n<=1000):oY [aT n f]=(i9 z):=by
 have b1:(-1000:Int)<=Int.ofNat n:=by show(-1000:Int)<=n;omega
 have b2:Int.ofNat n<=1000:=by show(n:Int)<=1000;omega
 have hr:wH [(iD n)]=(v9 (List.range n)):=by
  unfold wH Ig
  simp[-Int.ofNat_eq_natCast,b1,b2]
  rfl
 have hi:yu (.tup (ak (List.range n))) ((List.range n).map fun i=>kU n f i)=some z:=by
  unfold yu
  rw[Hc,Zb]
  have ev:∀ i,i<n->PyData.eqv (cP (kU n f i)) (cP (.tup (ak (List.range n))))=decide (i=z):=fun i hi=>(CC _ _).trans (Kf L hz bz hi)
  refine Hj (x:=cP (kU n f z)) ?_ ?_ ?_
  ·rw[Ql,Zn hz];rfl
  ·rw[ev z hz];simp
  ·intro i y hi hy
   have cD:i<n:=JQ hi hz
   rw[Ql,Zn cD]at hy
   cases hy
   refine(ev i cD).trans ?_
   simp;omega
 have h1:eK (.tup ((List.range n).map fun i=>kU n f i))=true:=(U5 n f).ok
 have h2:eK (.tup (ak (List.range n)))=true:=(qz _).ok
 have hl:eU (.tup ((List.range n).map fun i=>kU n f i))=some n:=jd (f:=f)
 unfold oY Ih aT
 simp[-Int.ofNat_eq_natCast,hr,hl,h1,h2,hi]
theorem z2s(hn:n<=1000){l:List Nat}(hl:l.length<=1000)(hm:∀ x∈l,x<n):wJ [aT n f,.lst (ak l)]=(i9 (l.foldl f z)):=by
 unfold wJ Il
 refine eA ?_
 refine(aU (ρ1:=[(t9 n f),some (.lst (ak l),0),(i9 z),none]) ?_).trans ?_
 ·simp[-Int.ofNat_eq_natCast,C9 L hz bz hn]
 obtain⟨ρ',e,y,rfl⟩:=jE (pt:=aC 3) (body:=bg 2 (cL (aw 0 (aa 2)) (aa 3))) (ak l) (fun i ρ=>∃ y,ρ=[(t9 n f),some (.lst (ak l),0),(i9 ((l.take i).foldl f z)),y]) [(t9 n f),some (.lst (ak l),0),(i9 z),none] (fun i hi ρ ai=>by
  obtain⟨y,hy⟩:=ai
  subst hy
  have cD:i<l.length:=by rw[fC]at hi;exact hi
  have hg:(ak l)[i]=.int (Int.ofNat l[i]):=by simp[ak]
  have hx:l[i]<n:=hm _ (QR cD)
  have ha:(l.take i).foldl f z<n:=L.fold_lt hz fun x m=>hm x (JN m)
  refine⟨[(t9 n f),some (.lst (ak l),0),(i9 ((l.take i).foldl f z)),some (.int (Int.ofNat l[i]),9)],[(t9 n f),some (.lst (ak l),0),(i9 ((l.take (i+1)).foldl f z)),some (.int (Int.ofNat l[i]),9)],?_,.inl ?_,⟨_,rfl⟩⟩
  ·rw[hg];simp
  ·rw[Yo cD,JH]
   simp[-Int.ofNat_eq_natCast,ky ha,kW hx]) ⟨none,rfl⟩
 rw[fC,ZG]at e
 refine(aU ((gp (ds:=ak l) (ρ1:=[(t9 n f),some (.lst (ak l),0),(i9 z),none]) ?_).trans e)).trans ?_
 ·simp[fC,hl]
 ·simp[-Int.ofNat_eq_natCast]
include L hz bz
theorem C_(ns:List Int)(t:Int)(h0:0<=t):∃ d:Nat->Nat,(∀ i,i<n->d i<n)/\sC [bV ns,.int t,aT n f]=some (b_ n (aV.lr n f z d),9):=by
 have hn:n<=1000:=QL L.hi (by decide)
 have mU:(0:Int)<Int.ofNat n:=by show(0:Int)<(n:Int);omega
 have dr:∀ i,∃ v,v<n/\(i<n->∀ ρ:aQ,ρ[0]? = some (some (bV ns,0))->ρ[1]? = some (some (.int t,9))->ρ[2]? = some (some (aT n f,9))->ρ[3]? = some (some (.int (Int.ofNat z),9))->ρ[5]? = some (some (.int (Int.ofNat i),9))->
   cL (c_ (ab (aa 3) (ab (aa 5) (ab (aL dQ 3 (ab (aa 0) (ab (e2 cn (aa 1) (aa 5)) (ab (bZ 2) ag)))) ag)))) (aL dQ 3 (ab (aa 0) (ab (e2 cn (e2 cn (aa 1) (eC (.int 8))) (aa 5)) (ab (eC (.int 3)) ag)))) ρ=some (.int (Int.ofNat v),9,ρ)):=fun i=>by
  have e1:=o7 ns (t+Int.ofNat i) (Int.ofNat n) (by show 0<=t+(i:Int);omega) mU
  have kQ:=o7 ns (t+8+Int.ofNat i) 3 (by show 0<=t+8+(i:Int);omega) (by decide)
  have l1:=nR ns (t+Int.ofNat i) mU
  have l2:=o8 ns (t+Int.ofNat i) mU
  have k1:=nR ns (t+8+Int.ofNat i) (m:=3) (by decide)
  have k2:=o8 ns (t+8+Int.ofNat i) (m:=3) (by decide)
  generalize i6 ns (t+Int.ofNat i) (Int.ofNat n)=a at *
  generalize i6 ns (t+8+Int.ofNat i) 3=b at *
  obtain⟨a',rfl⟩:∃ a':Nat,a=Int.ofNat a':=⟨a.toNat,by show a=(a.toNat:Int);omega⟩
  have CK:a'<n:=by have:(a':Int)<(n:Int):=l2;omega
  by_cases hi:i<n
  ·have hb:b=0\/b=1\/b=2:=by omega
   rcases hb with rfl|rfl|rfl
   ·refine⟨z,hz,fun _ ρ h0 h1 h2 h3 h5=>?_⟩
    simp[-Int.ofNat_eq_natCast,h0,h1,h2,h3,h5,jd,e1,kQ,cf,L2.dC,ib]
   ·refine⟨i,hi,fun _ ρ h0 h1 h2 h3 h5=>?_⟩
    simp[-Int.ofNat_eq_natCast,h0,h1,h2,h3,h5,jd,e1,kQ,cf,L2.dC,ib]
   ·refine⟨a',CK,fun _ ρ h0 h1 h2 h3 h5=>?_⟩
    simp[-Int.ofNat_eq_natCast,h0,h1,h2,h3,h5,jd,e1,kQ,cf,L2.dC,ib]
  ·exact⟨z,hz,fun h=>absurd h hi⟩
 obtain⟨d,hd⟩:∃ d:Nat->Nat,∀ i,d i<n/\(i<n->∀ ρ:aQ,ρ[0]? = some (some (bV ns,0))->ρ[1]? = some (some (.int t,9))->ρ[2]? = some (some (aT n f,9))->ρ[3]? = some (some (.int (Int.ofNat z),9))->ρ[5]? = some (some (.int (Int.ofNat i),9))->
   cL (c_ (ab (aa 3) (ab (aa 5) (ab (aL dQ 3 (ab (aa 0) (ab (e2 cn (aa 1) (aa 5)) (ab (bZ 2) ag)))) ag)))) (aL dQ 3 (ab (aa 0) (ab (e2 cn (e2 cn (aa 1) (eC (.int 8))) (aa 5)) (ab (eC (.int 3)) ag)))) ρ=some (.int (Int.ofNat (d i)),9,ρ)):=
  ⟨fun i=>(dr i).choose,fun i=>(dr i).choose_spec⟩
 refine⟨d,fun i _=>(hd i).1,?_⟩
 unfold sC HQ
 refine eA ?_
 have hs:nA 7 [bV ns,.int t,aT n f]=[some (bV ns,0),some (.int t,9),some (aT n f,9),none,none,none,none]:=rfl
 rw[hs]
 refine(aU (ρ1:=[some (bV ns,0),some (.int t,9),some (aT n f,9),some (.int (Int.ofNat z),9),none,none,none]) ?_).trans ?_
 ·simp[-Int.ofNat_eq_natCast,C8 L hz bz hn]
 refine(aU (ρ1:=[some (bV ns,0),some (.int t,9),some (aT n f,9),some (.int (Int.ofNat z),9),some (.lst [],1),none,none]) ?_).trans ?_
 ·simp
 obtain⟨ρ',e,y,rfl⟩:=jE (pt:=aC 5) (body:=fK (jb 4 (ab (cL (c_ (ab (aa 3) (ab (aa 5) (ab (aL dQ 3 (ab (aa 0) (ab (e2 cn (aa 1) (aa 5)) (ab (bZ 2) ag)))) ag)))) (aL dQ 3 (ab (aa 0) (ab (e2 cn (e2 cn (aa 1) (eC (.int 8))) (aa 5)) (ab (eC (.int 3)) ag))))) ag))) (cj n)
  (fun i ρ=>∃ y,ρ=[some (bV ns,0),some (.int t,9),some (aT n f,9),some (.int (Int.ofNat z),9),some (.lst (ak ((List.range i).map d)),1),y,none])
  [some (bV ns,0),some (.int t,9),some (aT n f,9),some (.int (Int.ofNat z),9),some (.lst [],1),none,none] (fun i hi ρ ai=>by
   obtain⟨y,hy⟩:=ai
   subst hy
   have cD:i<n:=by rw[d7]at hi;exact hi
   have hdi:=(hd i).2 cD [some (bV ns,0),some (.int t,9),some (aT n f,9),some (.int (Int.ofNat z),9),some (.lst (ak ((List.range i).map d)),1),some (.int (Int.ofNat i),9),none] rfl rfl rfl rfl rfl
   refine⟨[some (bV ns,0),some (.int t,9),some (aT n f,9),some (.int (Int.ofNat z),9),some (.lst (ak ((List.range i).map d)),1),some (.int (Int.ofNat i),9),none],[some (bV ns,0),some (.int t,9),some (aT n f,9),some (.int (Int.ofNat z),9),some (.lst (ak ((List.range (i+1)).map d)),1),some (.int (Int.ofNat i),9),none],?_,.inl ?_,⟨_,rfl⟩⟩
   ·rw[show(cj n)[i]=.int (Int.ofNat i)by simp[cj]];simp
   ·have ex:ak ((List.range (i+1)).map d)=ak ((List.range i).map d)++[.int (Int.ofNat (d i))]:=by rw[YS];simp[ak]
    have hl:(ak ((List.range i).map d)).length<=1000:=by rw[fC,Qc,QM];omega
    exact zi rfl (fW hdi) rfl hl (by rw[ex];rfl)) ⟨none,rfl⟩
 rw[d7]at e
 refine(aU ((gp (k5 hn rfl jd)).trans e)).trans ?_
 refine(aU (ρ1:=[some (bV ns,0),some (.int t,9),some (aT n f,9),some (.int (Int.ofNat z),9),some (.lst (ak ((List.range n).map d)),1),y,some (.lst [],1)]) ?_).trans ?_
 ·simp
 have hdn:∀ i,i<n->d i<n:=fun i _=>(hd i).1
 obtain⟨ρ',e,y',rfl⟩:=jE (pt:=aC 5) (body:=fK (jb 6 (ab (aL oW 2 (ab (aa 2) (ab (dN 1 (cW (aL qD 2 (ab (aa 2) (ab (aa 5) ag)))) (aC 7) da (aw 4 (aa 7)) false) ag))) ag))) (cj n)
  (fun i ρ=>∃ y,ρ=[some (bV ns,0),some (.int t,9),some (aT n f,9),some (.int (Int.ofNat z),9),some (.lst (ak ((List.range n).map d)),1),y,some (.lst (ak ((List.range i).map (aV.lr n f z d))),1)])
  [some (bV ns,0),some (.int t,9),some (aT n f,9),some (.int (Int.ofNat z),9),some (.lst (ak ((List.range n).map d)),1),y,some (.lst [],1)] (fun i hi ρ ai=>by
   obtain⟨y,hy⟩:=ai
   subst hy
   have cD:i<n:=by rw[d7]at hi;exact hi
   refine⟨[some (bV ns,0),some (.int t,9),some (aT n f,9),some (.int (Int.ofNat z),9),some (.lst (ak ((List.range n).map d)),1),some (.int (Int.ofNat i),9),some (.lst (ak ((List.range i).map (aV.lr n f z d))),1)],[some (bV ns,0),some (.int t,9),some (aT n f,9),some (.int (Int.ofNat z),9),some (.lst (ak ((List.range n).map d)),1),some (.int (Int.ofNat i),9),some (.lst (ak ((List.range (i+1)).map (aV.lr n f z d))),1)],?_,.inl ?_,⟨_,rfl⟩⟩
   ·rw[show(cj n)[i]=.int (Int.ofNat i)by simp[cj]];simp
   ·have ex:ak ((List.range (i+1)).map (aV.lr n f z d))=ak ((List.range i).map (aV.lr n f z d))++[.int (Int.ofNat (aV.lr n f z d i))]:=by rw[YS];simp[ak]
    have hl:(ak ((List.range i).map (aV.lr n f z d))).length<=1000:=by rw[fC,Qc,QM];omega
    have o_:(aV.low n f i).length<=1000:=by
     have:=Zx (fun y=>decide (f y i=i)) (List.range n)
     rw[QM]at this
     exact QL this hn
    have hit:cW (aL qD 2 (ab (aa 2) (ab (aa 5) ag))) [some (bV ns,0),some (.int t,9),some (aT n f,9),some (.int (Int.ofNat z),9),some (.lst (ak ((List.range n).map d)),1),some (.int (Int.ofNat i),9),some (.lst (ak ((List.range i).map (aV.lr n f z d))),1)]=some (ak (aV.low n f i),[some (bV ns,0),some (.int t,9),some (aT n f,9),some (.int (Int.ofNat z),9),some (.lst (ak ((List.range n).map d)),1),some (.int (Int.ofNat i),9),some (.lst (ak ((List.range i).map (aV.lr n f z d))),1)]):=by
     have hb:qD [aT n f,.int (Int.ofNat i)]=some (.lst (ak (aV.low n f i)),1):=z7d hn cD
     simp[-Int.ofNat_eq_natCast,hb,fC,o_]
    have hc:=ie (k:=1) (te:=aw 4 (aa 7)) (deep:=false) hit (Wa (i:=7) (aV.low n f i) rfl (fun y=>.int (Int.ofNat (d y))) (fun _=>9) (fun y hy=>by
     have hyn:=(aV.eN.mp hy).1
     have tW:cf (.lst (ak ((List.range n).map d))) (Int.ofNat y)=some (.int (Int.ofNat (d y))):=sk hyn
     simp[-Int.ofNat_eq_natCast,tW]))
    have hm:∀ y∈(aV.low n f i).map d,y<n:=aV.iK L hz bz hdn
    have e':((aV.low n f i).map fun y=>D.int (Int.ofNat (d y)))=ak ((aV.low n f i).map d):=by simp[ak]
    rw[e']at hc
    have hj:oW [aT n f,.lst (ak ((aV.low n f i).map d))]=some (.int (Int.ofNat (aV.lr n f z d i)),9):=Kg L hz bz hn (by rw[Qc];exact o_) hm
    have ha:=fW (gL (n:=2) (ku (f:=aa 2) (q:=9) (d:=aT n f) (ρ:=[some (bV ns,0),some (.int t,9),some (aT n f,9),some (.int (Int.ofNat z),9),some (.lst (ak ((List.range n).map d)),1),some (.int (Int.ofNat i),9),some (.lst (ak ((List.range i).map (aV.lr n f z d))),1)]) (ρ1:=[some (bV ns,0),some (.int t,9),some (aT n f,9),some (.int (Int.ofNat z),9),some (.lst (ak ((List.range n).map d)),1),some (.int (Int.ofNat i),9),some (.lst (ak ((List.range i).map (aV.lr n f z d))),1)]) rfl (fW hc)) rfl hj)
    exact zi rfl ha rfl hl (by rw[ex];rfl)) ⟨y,rfl⟩
 rw[d7]at e
 refine(aU ((gp (k5 hn rfl jd)).trans e)).trans ?_
 exact jF (wc (fW (q:=0) (ρ1:=[some (bV ns,0),some (.int t,9),some (aT n f,9),some (.int (Int.ofNat z),9),some (.lst (ak ((List.range n).map d)),1),y',some (.lst (ak ((List.range n).map (aV.lr n f z d))),0)]) rfl))
end
def kE (n:Nat):D->Bool
 | .int i=>decide (0<=i)&&decide (i<(n:Int))
 | _=>false
theorem nT(d:D):wL [d]=(b9 (match d with|.int _=>true|_=>false)):=by
 unfold wL Iv
 cases d<;>simp[mi]
theorem y5m(n:Nat)(d:D):wM [d,(iD n)]=(b9 (kE n d)):=by
 unfold wM Iw
 cases d with
 | int i=>
  have h:=nT (.int i)
  by_cases h0:0<=i
  ·by_cases h1:i<(n:Int)
   ·simp[h,kE,h0,h1]
   ·simp[h,kE,h0,h1]
  ·simp[h,kE,h0]
 | bo=>simp[nT,kE]
 | bl b=>simp[nT,kE]
 | str x=>simp[nT,kE]
 | tup ds=>simp[nT,kE]
 | lst ds=>simp[nT,kE]
 | gH ks ds=>simp[nT,kE]
 | exc nm=>simp[nT,kE]
 | ob f fo vs ds=>simp[nT,kE]
 | mp k ds=>simp[nT,kE]
theorem Kh(hn:n<=1000)(h:ρ[i]? = some (some ((iD n),q))):cI (ab (aa i) ag) ρ=some (cj n,ρ):=by
 have b1:(-1000:Int)<=Int.ofNat n:=by show(-1000:Int)<=n;omega
 have b2:Int.ofNat n<=1000:=by show(n:Int)<=1000;omega
 simp only[cI,ab,aa,ag,h,D.ot,Zz]
 rw[Qj ⟨b1,b2⟩]
 rfl
section
variable {n:Nat}{f:Nat->Nat->Nat}
def gN (n:Nat)(f:Nat->Nat->Nat)(r:Nat->Nat):Bool:=(List.range n).all fun x=>(List.range n).all fun y=>decide (r (f x y)=f (r x) (r y))
theorem uy:gN n f r=true ↔ ∀ x y,x<n->y<n->r (f x y)=f (r x) (r y):=by
 unfold gN
 rw[L3.range_all]
 exact⟨fun h x y hx hy=>QV (L3.range_all.mp (h x hx) y hy),fun h x hx=>L3.range_all.mpr fun y hy=>QA (h x y hx hy)⟩
variable (L:aV n f)
include L
end
section
variable {n:Nat}{f:Nat->Nat->Nat}(L:aV n f)
include L
theorem Ki(hr:∀ i,i<n->r i<n):qE [aT n f,b_ n r]=(b9 (gN n f r)):=by
 have hn:n<=1000:=QL L.hi (by decide)
 have eB:gN n f r=((List.range n).all fun x=>(List.range x).all fun y=>decide (r (f x y)=f (r x) (r y))):=by
  rw[Bool.eq_iff_iff,uy,L3.range_all]
  constructor
  ·intro h x hx
   exact L3.range_all.mpr fun y hy=>QA (h x y hx (JQ hy hx))
  ·intro h x y hx hy
   rcases Nat.lt_trichotomy x y with c|c|c
   ·have:=QV (L3.range_all.mp (h y hy) x c)
    rw[L.comm x y hx hy,this,L.comm _ _ (hr y hy) (hr x hx)]
   ·subst c;rw[L.idem x hx,L.idem _ (hr x hx)]
   ·exact QV (L3.range_all.mp (h x hx) y c)
 unfold qE HS
 refine eA ?_
 have hs:nA 5 [aT n f,b_ n r]=[(t9 n f),(r9 n r),none,none,none]:=rfl
 rw[hs,eB]
 obtain⟨h1,h2⟩:=CG (pt:=aC 2) (body:=dU (cI (ab (aa 2) ag)) (aC 3) (aG (bg 4 (cL (aw 0 (aw 1 (aa 2))) (aw 1 (aa 3)))) (dZ (bB (e2 di (aw 1 (cL (aw 0 (aa 2)) (aa 3))) (aa 4))) (bF (eC (.bl false))) fJ))) (d:=.bl false) (q:=9) (cj n) (fun ρ=>∃ x y z,ρ=[(t9 n f),(r9 n r),x,y,z]) (fun x=>(List.range x).all fun y=>decide (r (f x y)=f (r x) (r y))) [(t9 n f),(r9 n r),none,none,none] (fun x hx ρ ⟨a,b,c,e⟩=>by
  subst e
  have iC:x<n:=by rw[d7]at hx;exact hx
  have Kj:x<=1000:=by omega
  refine⟨[(t9 n f),(r9 n r),(i9 x),b,c],by rw[show(cj n)[x]=(iD x)by simp[cj]];simp,?_⟩
  obtain⟨i1,i2⟩:=CG (pt:=aC 3) (body:=aG (bg 4 (cL (aw 0 (aw 1 (aa 2))) (aw 1 (aa 3)))) (dZ (bB (e2 di (aw 1 (cL (aw 0 (aa 2)) (aa 3))) (aa 4))) (bF (eC (.bl false))) fJ)) (d:=.bl false) (q:=9) (cj x) (fun ρ=>∃ y z,ρ=[(t9 n f),(r9 n r),(i9 x),y,z]) (fun y=>decide (r (f x y)=f (r x) (r y))) [(t9 n f),(r9 n r),(i9 x),b,c] (fun y hy ρ ⟨b,c,e⟩=>by
   subst e
   have Dc:y<x:=by rw[d7]at hy;exact hy
   have nS:y<n:=JQ Dc iC
   refine⟨[(t9 n f),(r9 n r),(i9 x),(i9 y),c],by rw[show(cj x)[y]=(iD y)by simp[cj]];simp,fun ok=>⟨[(t9 n f),(r9 n r),(i9 x),(i9 y),(i9 (f (r x) (r y)))],?_,⟨_,_,rfl⟩⟩,fun no=>?_⟩
   ·have ok':=QV ok
    simp[-Int.ofNat_eq_natCast,ky iC,kW nS,nJ (L.cl x y iC nS),nJ iC,nJ nS,ky (hr x iC),kW (hr y nS),wm,ok']
   ·have no':=of_decide_eq_false no
    simp[-Int.ofNat_eq_natCast,ky iC,kW nS,nJ (L.cl x y iC nS),nJ iC,nJ nS,ky (hr x iC),kW (hr y nS),wm,no']) ⟨b,c,rfl⟩
  rw[d7]at i1 i2
  refine⟨fun ok=>?_,fun no=>(gp (Kh Kj (i:=2) (q:=9) rfl)).trans (i2 no)⟩
  obtain⟨ρ2,e,b',c',rfl⟩:=i1 ok
  exact⟨_,(gp (Kh Kj (i:=2) (q:=9) rfl)).trans e,_,_,_,rfl⟩) ⟨none,none,none,rfl⟩
 rw[d7]at h1 h2
 cases h:((List.range n).all fun x=>(List.range x).all fun y=>decide (r (f x y)=f (r x) (r y)))with
 | true=>
  obtain⟨ρ',e,x,y,z,rfl⟩:=h1 h
  exact(aU ((gp (k5 hn rfl jd)).trans e)).trans rfl
 | false=>exact Ct ((gp (k5 hn rfl jd)).trans (h2 h))
end
theorem z0e(n:Nat):cj n=ak ((List.range n).map fun i=>i):=by rw[List.map_id'];rfl
section
variable {n:Nat}{f:Nat->Nat->Nat}(L:aV n f){z:Nat}(hz:z<n)(bz:∀ j,j<n->f z j=j)
include L
theorem j5p:gN n f (fun i=>i)=true:=uy.mpr fun _ _ _ _=>rfl
theorem z23{v:Nat}(hv:v<n):gN n f (fun _=>v)=true:=uy.mpr fun _ _ _ _=>(L.idem v hv).symm
theorem j10{b c d:Nat}(ha:a<n)(hb:b<n)(hc:c<n)(hd:d<n):f (f a b) (f c d)=f (f a c) (f b d):=by
 rw[L.assoc a b _ ha hb (L.cl c d hc hd),<- L.assoc b c d hb hc hd,L.comm b c hb hc,L.assoc c b d hc hb hd,<- L.assoc a c _ ha hc (L.cl b d hb hd)]
theorem z81{v:Nat}(hv:v<n):gN n f (fun i=>f i v)=true:=uy.mpr fun x y hx hy=>by
 show f (f x y) v=f (f x v) (f y v)
 rw[j10 L hx hv hy hv,L.idem v hv]
include hz bz
theorem y2q(ns:List Int)(t:Int)(h0:0<=t):∃ g:Nat->Nat,(∀ i,i<n->g i<n)/\gN n f g=true/\ui [bV ns,.int t,aT n f]=some (b_ n g,9):=by
 have hn:n<=1000:=QL L.hi (by decide)
 have mU:(0:Int)<Int.ofNat n:=by have:=L.lo;show(0:Int)<(n:Int);omega
 obtain⟨d,hd,hR⟩:=C_ L hz bz ns t h0
 have hr:∀ i,i<n->aV.lr n f z d i<n:=fun i _=>L.mL hz bz hd i
 generalize aV.lr n f z d=r at *
 have hS:=Ki L hr
 have hs:nA 6 [bV ns,.int t,aT n f]=[some (bV ns,0),some (.int t,9),some (aT n f,9),none,none,none]:=rfl
 cases hB:gN n f r with
 | true=>
  refine⟨r,hr,hB,?_⟩
  rw[hB]at hS
  unfold ui CP
  refine eA ?_
  rw[hs]
  refine(aU (ρ1:=[some (bV ns,0),some (.int t,9),some (aT n f,9),some (b_ n r,9),none,none]) (by simp[hR])).trans ?_
  exact Ct (by simp[hS])
 | false=>
  rw[hB]at hS
  have e17:=o7 ns (t+17) (Int.ofNat n) (by omega) mU
  have e16:=o7 ns (t+16) 3 (by omega) (by decide)
  have a1:=nR ns (t+17) mU
  have a2:=o8 ns (t+17) mU
  have c1:=nR ns (t+16) (m:=3) (by decide)
  have c2:=o8 ns (t+16) (m:=3) (by decide)
  generalize i6 ns (t+17) (Int.ofNat n)=v0 at *
  generalize i6 ns (t+16) 3=w at *
  obtain⟨v,rfl⟩:∃ v:Nat,v0=Int.ofNat v:=⟨v0.toNat,by show v0=(v0.toNat:Int);omega⟩
  have hv:v<n:=by have:(v:Int)<(n:Int):=a2;omega
  have fin:∃ g:Nat->Nat,(∀ i,i<n->g i<n)/\gN n f g=true/\L2.dC [b_ n (fun i=>i),b_ n (fun _=>v),b_ n (fun i=>f i v)] w=some (b_ n g):=by
   have hw:w=0\/w=1\/w=2:=by omega
   rcases hw with rfl|rfl|rfl
   ·exact⟨_,fun i hi=>hi,j5p L,rfl⟩
   ·exact⟨_,fun _ _=>hv,z23 L hv,rfl⟩
   ·exact⟨_,fun i hi=>L.cl i v hi hv,z81 L hv,rfl⟩
  obtain⟨g,hg,hgs,tW⟩:=fin
  refine⟨g,hg,hgs,?_⟩
  unfold ui CP
  refine eA ?_
  rw[hs]
  refine(aU (ρ1:=[some (bV ns,0),some (.int t,9),some (aT n f,9),some (b_ n r,9),none,none]) (by simp[hR])).trans ?_
  refine(aU (ρ1:=[some (bV ns,0),some (.int t,9),some (aT n f,9),some (b_ n r,9),none,none]) (by simp[hS])).trans ?_
  refine(aU (ρ1:=[some (bV ns,0),some (.int t,9),some (aT n f,9),some (b_ n r,9),some (.int (Int.ofNat v),9),none]) (by simp[-Int.ofNat_eq_natCast,jd,e17])).trans ?_
  have k1:iG (ab (oH (ab (bZ 2) ag)) ag) [some (bV ns,0),some (.int t,9),some (aT n f,9),some (b_ n r,9),some (.int (Int.ofNat v),9),none]=some (b_ n (fun i=>i),9,[some (bV ns,0),some (.int t,9),some (aT n f,9),some (b_ n r,9),some (.int (Int.ofNat v),9),none]):=by
   refine(wc (fW (Cv (k5 hn rfl jd)))).trans ?_
   rw[z0e]
   rfl
  have k2:yE (dS (ab (aa 4) ag)) (bZ 2) [some (bV ns,0),some (.int t,9),some (aT n f,9),some (b_ n r,9),some (.int (Int.ofNat v),9),none]=some (b_ n (fun _=>v),9,[some (bV ns,0),some (.int t,9),some (aT n f,9),some (b_ n r,9),some (.int (Int.ofNat v),9),none]):=by
   have b1:(1:Int)<=n:=by have:=L.lo;omega
   have b1':1<=n:=L.lo
   have e:(List.replicate n [D.int (v:Int)]).flatten=ak ((List.range n).map fun _=>v):=by
    simp[ak,Jn,List.map_const']
   simp[jd,b1',hn,b_,e]
   exact b1
  refine(aU (ρ1:=[some (bV ns,0),some (.int t,9),some (aT n f,9),some (b_ n r,9),some (.int (Int.ofNat v),9),some (.lst [b_ n (fun i=>i),b_ n (fun _=>v)],1)]) ?_).trans ?_
  ·refine ig (q:=1) (d:=.lst [b_ n (fun i=>i),b_ n (fun _=>v)]) (ρ1:=[some (bV ns,0),some (.int t,9),some (aT n f,9),some (b_ n r,9),some (.int (Int.ofNat v),9),none]) ?_ rfl
   unfold c_
   rw[ku k1 (fW k2)]
   rfl
  have k3:iG (ab (dN 1 (cI (ab (bZ 2) ag)) (aC 6) da (cL (aw 2 (aa 6)) (aa 4)) false) ag) [some (bV ns,0),some (.int t,9),some (aT n f,9),some (b_ n r,9),some (.int (Int.ofNat v),9),some (.lst [b_ n (fun i=>i),b_ n (fun _=>v)],1)]=some (b_ n (fun i=>f i v),9,[some (bV ns,0),some (.int t,9),some (aT n f,9),some (b_ n r,9),some (.int (Int.ofNat v),9),some (.lst [b_ n (fun i=>i),b_ n (fun _=>v)],1)]):=by
   have hc:=ie (k:=1) (tt:=da) (te:=cL (aw 2 (aa 6)) (aa 4)) (deep:=false) (k5 hn (i:=2) (ρ:=[some (bV ns,0),some (.int t,9),some (aT n f,9),some (b_ n r,9),some (.int (Int.ofNat v),9),some (.lst [b_ n (fun i=>i),b_ n (fun _=>v)],1)]) rfl jd) (oU (i:=6) rfl (fun _=>true) (fun k=>.int (Int.ofNat (f k v))) (fun _=>9) (fun j hj=>rfl) (fun j hj _=>by
    simp[-Int.ofNat_eq_natCast,ky hj,kW hv]))
   rw[show(List.range n).filter (fun _=>true)=List.range n by simp]at hc
   exact(wc (fW hc)).trans (ZQ (fun d=>some (d,9,_)) (Wd _))
  refine(aU (zi (ρ2:=[some (bV ns,0),some (.int t,9),some (aT n f,9),some (b_ n r,9),some (.int (Int.ofNat v),9),some (.lst [b_ n (fun i=>i),b_ n (fun _=>v),b_ n (fun i=>f i v)],1)]) rfl (fW k3) rfl (by show 2<=1000;decide) rfl)).trans ?_
  have Dd:cf (.lst [b_ n (fun i=>i),b_ n (fun _=>v),b_ n (fun i=>f i v)]) w=some (b_ n g):=tW
  simp[-Int.ofNat_eq_natCast,e16,Dd]
end
theorem j72(ds:List D)(hi:ρ.length=i)(v:D->D)(q:D->Nat)
  (he:∀ d,d∈ds->te (ρ++[some (d,fy d)])=some (v d,q d,ρ++[some (d,fy d)])) :
  jy 1 (aC i) da te false ds ρ=some (ds.map v,ρ):=by
 have h:=qx (k:=1) (pt:=aC i) (tt:=da) (te:=te) (deep:=false) ds (fun _=>ρ) (fun _=>true) (fun j=>v (ds.getD j .bo)) (fun j hj=>?_)
 ·rw[show(List.range ds.length).filter (fun _=>true)=List.range ds.length by simp]at h
  rw[h]
  have e:(List.range ds.length).map (fun j=>v (ds.getD j .bo))=ds.map v:=by
   apply Zt
   intro k
   by_cases hk:k<ds.length
   ·simp[hk]
   ·rw[QK (by simp;omega),QK (by simp;omega)]
  rw[e]
 ·have hg:ds.getD j .bo=ds[j]:=by simp[hj]
  refine⟨ρ++[some (ds[j],fy ds[j])],_,?_,rfl,?_⟩
  ·unfold aC
   rw[Qj (by simp[hi])]
   subst hi
   simp[-fy,VP]
  ·rw[Qj rfl,hg]
   exact⟨q _,_,he _ (QR hj),by simp,by simp⟩
theorem z63{it:jP}(hi:ρ.length=i)(hit:it ρ=some (ds,ρ))(b:D->Bool)(q:D->Nat)
  (he:∀ d,d∈ds->te (ρ++[some (d,fy d)])=some (.bl (b d),q d,ρ++[some (d,fy d)])) :
  eB tZ (ab (dN 1 it (aC i) da te false) ag) ρ=some (.bl (ds.all b),9,ρ):=by
 refine Hv (fW (ie (deep:=false) hit (j72 ds hi (fun d=>.bl (b d)) q he))) ?_
 simp only[tZ,P8,Jg]
 simp[List.all_map,Vm]
structure cF where
 p:Nat
 W:List (Nat×Nat×(Nat->Nat))
 B:List (Nat×Nat)
def bN (n:Nat)(w:Nat×Nat×(Nat->Nat)):D:=.tup [(iD w.1),(iD w.2.1),b_ n w.2.2]
def eO (b:Nat×Nat):D:=.tup [(iD b.1),(iD b.2)]
def cG (n:Nat)(C:cF):D:=.tup [(iD C.p),.tup (C.W.map (bN n)),.tup (C.B.map eO)]
abbrev c9 (n:Nat)(C:cF):OD:=some (cG n C,9)
def sL (n:Nat)(f:Nat->Nat->Nat)(p:Nat)(w:Nat×Nat×(Nat->Nat)):Prop:=w.1<p/\w.2.1<p/\(∀ i,i<n->w.2.2 i<n)/\∀ x y,x<n->y<n->f x y=y->f (w.2.2 x) (w.2.2 y)=w.2.2 y
def xa (n:Nat)(p:Nat)(b:Nat×Nat):Prop:=b.1<p/\b.2<n
structure cF.Ok (n:Nat) (f:Nat->Nat->Nat) (C:cF):Prop where
 p1:1<=C.p
 p8:C.p<=8
 xb:C.W.length<=60
 zD:C.B.length<=60
 ws:∀ w∈C.W,sL n f C.p w
 bs:∀ b∈C.B,xa n C.p b
@[simp] theorem j2v{C:cF}:(cG n C).cJ=false:=rfl
@[simp] theorem j6c{w:Nat×Nat×(Nat->Nat)}:(bN n w).cJ=false:=rfl
@[simp] theorem j5x{b:Nat×Nat}:(eO b).cJ=false:=rfl
theorem kF(ns:List Int){k:Int}(hk:0<=k){m:Int}(hm:0<m):∃ v:Nat,(v:Int)<m/\dQ [bV ns,.int k,.int m]=some (.int (Int.ofNat v),9):=by
 have h1:=nR ns k hm
 have h2:=o8 ns k hm
 refine⟨(i6 ns k m).toNat,by omega,?_⟩
 rw[o7 ns k m hk hm]
 have:i6 ns k m=Int.ofNat (i6 ns k m).toNat:=by show _=(((i6 ns k m).toNat:Nat):Int);omega
 rw[<- this]
theorem mV(hm:m<=1000){fe:aA}{ρ':aQ}(h:fe ρ=some ((iD m),q,ρ')):cI (ab fe ag) ρ=some (cj m,ρ'):=by
 have b1:(-1000:Int)<=Int.ofNat m:=by show(-1000:Int)<=m;omega
 have b2:Int.ofNat m<=1000:=by show(m:Int)<=1000;omega
 simp only[cI,ab,ag,h]
 rw[Qj ⟨b1,b2⟩]
 rfl
section
variable {n:Nat}{f:Nat->Nat->Nat}(L:aV n f){z:Nat}(hz:z<n)(bz:∀ j,j<n->f z j=j)
include L hz bz
theorem z1a(ns:List Int)(t:Int)(h0:0<=t)(hp:1<=p)(m:Nat)(hm:m<=7) :
  ∃ W:List (Nat×Nat×(Nat->Nat)),W.length=m/\(∀ w∈W,sL n f p w)/\∃ a b c,dF (aC 6) sE (cj m) [(n0 ns),some (.int t,9),(t9 n f),(b9 false),(i9 p),some (.lst [],1),none,none,none,none,none]=some (.nx [(n0 ns),some (.int t,9),(t9 n f),(b9 false),(i9 p),some (.lst (W.map (bN n)),1),a,b,c,none,none]):=by
 have pd:(0:Int)<Int.ofNat p:=by show(0:Int)<(p:Int);omega
 obtain⟨ρ',e,W,hl,aB,a,b,c,rfl⟩:=jE (pt:=aC 6) (body:=sE) (cj m) (fun i ρ=>∃ W:List (Nat×Nat×(Nat->Nat)),W.length=i/\(∀ w∈W,sL n f p w)/\∃ a b c,ρ=[(n0 ns),some (.int t,9),(t9 n f),(b9 false),(i9 p),some (.lst (W.map (bN n)),1),a,b,c,none,none]) [(n0 ns),some (.int t,9),(t9 n f),(b9 false),(i9 p),some (.lst [],1),none,none,none,none,none] (fun i hi ρ ai=>by
  obtain⟨W,hl,aB,a,b,c,hr⟩:=ai
  subst hr
  have cD:i<m:=by rw[d7]at hi;exact hi
  obtain⟨x,hx⟩:∃ x:Int,x=t+10+22*Int.ofNat i:=⟨_,rfl⟩
  have De:0<=x:=by have:Int.ofNat i=(i:Int):=rfl;omega
  obtain⟨d,hd,hR⟩:=C_ L hz bz ns (x+2) (by omega)
  obtain⟨s,hs,es⟩:=kF ns De pd
  obtain⟨g,hg,eg⟩:=kF ns (show 0<=x+1 by omega) pd
  have jv:s<p:=by have:(s:Int)<(p:Int):=hs;omega
  have kR:g<p:=by have:(g:Int)<(p:Int):=hg;omega
  have lT:sL n f p (s,g,aV.lr n f z d):=⟨jv,kR,fun i _=>L.mL hz bz hd i,fun x y hx hy e=>L.mO hz bz hd hx hy e⟩
  generalize aV.lr n f z d=r at *
  have hW:W.length<=1000:=by omega
  refine⟨[(n0 ns),some (.int t,9),(t9 n f),(b9 false),(i9 p),some (.lst (W.map (bN n)),1),(i9 i),b,c,none,none],[(n0 ns),some (.int t,9),(t9 n f),(b9 false),(i9 p),some (.lst ((W++[(s,g,r)]).map (bN n)),1),(i9 i),some (.int x,9),(r9 n r),none,none],by rw[qI];simp,.inl ?_,W++[(s,g,r)],by simp[hl],fun w hw=>?_,_,_,_,rfl⟩
  ·unfold sE
   refine(aU (ρ1:=[(n0 ns),some (.int t,9),(t9 n f),(b9 false),(i9 p),some (.lst (W.map (bN n)),1),(i9 i),some (.int x,9),c,none,none]) (by rw[hx];simp[-Int.ofNat_eq_natCast])).trans ?_
   refine(aU (ρ1:=[(n0 ns),some (.int t,9),(t9 n f),(b9 false),(i9 p),some (.lst (W.map (bN n)),1),(i9 i),some (.int x,9),(r9 n r),none,none]) (by simp[-Int.ofNat_eq_natCast,hR])).trans ?_
   refine(aU (ρ1:=[(n0 ns),some (.int t,9),(t9 n f),(b9 false),(i9 p),some (.lst (W.map (bN n)),1),(i9 i),some (.int x,9),(r9 n r),none,none]) (by simp[-Int.ofNat_eq_natCast])).trans ?_
   simp[-Int.ofNat_eq_natCast,es,eg,hW,bN]
  ·rcases Qx.mp hw with h|h
   ·exact aB w h
   ·rw[Qq.mp h];exact lT) ⟨[],rfl,(fun _ z=>nomatch z),none,none,none,rfl⟩
 rw[d7]at hl
 exact⟨W,hl,aB,a,b,c,e⟩
theorem z1j(ns:List Int)(t:Int)(h0:0<=t)(hp:1<=p)(m:Nat)(hm:m<=3)(W:OD)(a b c:OD) :
  ∃ B:List (Nat×Nat),B.length=m/\(∀ w∈B,xa n p w)/\∃ a' h,dF (aC 6) sD (cj m) [(n0 ns),some (.int t,9),(t9 n f),(b9 false),(i9 p),W,a,b,c,some (.lst [],1),none]=some (.nx [(n0 ns),some (.int t,9),(t9 n f),(b9 false),(i9 p),W,a',b,c,some (.lst (B.map eO),1),h]):=by
 have pd:(0:Int)<Int.ofNat p:=by show(0:Int)<(p:Int);omega
 have mU:(0:Int)<Int.ofNat n:=by have:=L.lo;show(0:Int)<(n:Int);omega
 obtain⟨ρ',e,B,hl,aB,a',h,rfl⟩:=jE (pt:=aC 6) (body:=sD) (cj m) (fun i ρ=>∃ B:List (Nat×Nat),B.length=i/\(∀ w∈B,xa n p w)/\∃ a h,ρ=[(n0 ns),some (.int t,9),(t9 n f),(b9 false),(i9 p),W,a,b,c,some (.lst (B.map eO),1),h]) [(n0 ns),some (.int t,9),(t9 n f),(b9 false),(i9 p),W,a,b,c,some (.lst [],1),none] (fun i hi ρ ai=>by
  obtain⟨B,hl,aB,a,h,hr⟩:=ai
  subst hr
  have cD:i<m:=by rw[d7]at hi;exact hi
  have hii:Int.ofNat i=(i:Int):=rfl
  obtain⟨v,hv,ev⟩:=kF ns (show 0<=t+3+2*Int.ofNat i by omega) mU
  obtain⟨g,hg,eg⟩:=kF ns (show 0<=t+4+2*Int.ofNat i by omega) pd
  have vE:v<n:=by have:(v:Int)<(n:Int):=hv;omega
  have kR:g<p:=by have:(g:Int)<(p:Int):=hg;omega
  have hB:B.length<=1000:=by omega
  refine⟨[(n0 ns),some (.int t,9),(t9 n f),(b9 false),(i9 p),W,(i9 i),b,c,some (.lst (B.map eO),1),h],[(n0 ns),some (.int t,9),(t9 n f),(b9 false),(i9 p),W,(i9 i),b,c,some (.lst ((B++[(g,v)]).map eO),1),(i9 v)],by rw[qI];simp,.inl ?_,B++[(g,v)],by simp[hl],fun w hw=>?_,_,_,rfl⟩
  ·unfold sD
   refine(aU (ρ1:=[(n0 ns),some (.int t,9),(t9 n f),(b9 false),(i9 p),W,(i9 i),b,c,some (.lst (B.map eO),1),(i9 v)]) (by simp[-Int.ofNat_eq_natCast,jd,ev])).trans ?_
   simp[-Int.ofNat_eq_natCast,eg,hB,eO]
  ·rcases Qx.mp hw with h|h
   ·exact aB w h
   ·rw[Qq.mp h];exact⟨kR,vE⟩) ⟨[],rfl,(fun _ z=>nomatch z),a,none,rfl⟩
 rw[d7]at hl
 exact⟨B,hl,aB,a',h,e⟩
theorem y5u(ns:List Int)(t:Int)(h0:0<=t):∃ C:cF,C.Ok n f/\C.p<=5/\C.W.length<=7/\C.B.length<=3/\oX [bV ns,.int t,aT n f,.bl false]=(c9 n C):=by
 obtain⟨p0,BU,ep⟩:=kF ns h0 (m:=5) (by decide)
 obtain⟨mw,hmw,ew⟩:=kF ns (show 0<=t+1 by omega) (m:=8) (by decide)
 obtain⟨mb,hmb,eb⟩:=kF ns (show 0<=t+2 by omega) (m:=4) (by decide)
 obtain⟨p,hp⟩:∃ p:Nat,p=p0+1:=⟨_,rfl⟩
 have j9:(1:Int)+Int.ofNat p0=Int.ofNat p:=by show(1:Int)+(p0:Int)=(p:Int);omega
 obtain⟨W,hWl,pf,a,b,c,eW⟩:=z1a L hz bz ns t h0 (p:=p) (by omega) mw (by omega)
 obtain⟨B,hBl,sM,a',h,eB⟩:=z1j L hz bz ns t h0 (p:=p) (by omega) mb (by omega) (some (.lst (W.map (bN n)),1)) a b c
 refine⟨⟨p,W,B⟩,⟨by show 1<=p;omega,by show p<=8;omega,by show W.length<=60;omega,by show B.length<=60;omega,pf,sM⟩,by show p<=5;omega,by show W.length<=7;omega,by show B.length<=3;omega,?_⟩
 unfold oX CT
 refine eA ?_
 show aG _ _ [(n0 ns),some (.int t,9),(t9 n f),(b9 false),none,none,none,none,none,none,none]=_
 refine(aU (ρ1:=[(n0 ns),some (.int t,9),(t9 n f),(b9 false),(i9 p),none,none,none,none,none,none]) (by simp[-Int.ofNat_eq_natCast,ep,j9])).trans ?_
 refine(aU (ρ1:=[(n0 ns),some (.int t,9),(t9 n f),(b9 false),(i9 p),some (.lst [],1),none,none,none,none,none]) (by simp)).trans ?_
 refine(aU ((gp (ρ1:=[(n0 ns),some (.int t,9),(t9 n f),(b9 false),(i9 p),some (.lst [],1),none,none,none,none,none]) (mV (m:=mw) (by omega) (q:=9) (by simp[-Int.ofNat_eq_natCast,ew]))).trans eW)).trans ?_
 refine(aU (ρ1:=[(n0 ns),some (.int t,9),(t9 n f),(b9 false),(i9 p),some (.lst (W.map (bN n)),1),a,b,c,some (.lst [],1),none]) (by simp)).trans ?_
 refine(aU ((gp (ρ1:=[(n0 ns),some (.int t,9),(t9 n f),(b9 false),(i9 p),some (.lst (W.map (bN n)),1),a,b,c,some (.lst [],1),none]) (mV (m:=mb) (by omega) (q:=9) (by simp[-Int.ofNat_eq_natCast,eb]))).trans eB)).trans ?_
 simp[-Int.ofNat_eq_natCast,cG]
include L hz bz
theorem y7v(ns:List Int)(t:Int)(h0:0<=t)(hp:1<=p)(m:Nat)(hm:m<=7) :
  ∃ W:List (Nat×Nat×(Nat->Nat)),W.length=m/\(∀ w∈W,sL n f p w/\gN n f w.2.2=true)/\∃ a b c,dF (aC 6) sE (cj m) [(n0 ns),some (.int t,9),(t9 n f),(b9 true),(i9 p),some (.lst [],1),none,none,none,none,none]=some (.nx [(n0 ns),some (.int t,9),(t9 n f),(b9 true),(i9 p),some (.lst (W.map (bN n)),1),a,b,c,none,none]):=by
 have pd:(0:Int)<Int.ofNat p:=by show(0:Int)<(p:Int);omega
 obtain⟨ρ',e,W,hl,aB,a,b,c,rfl⟩:=jE (pt:=aC 6) (body:=sE) (cj m) (fun i ρ=>∃ W:List (Nat×Nat×(Nat->Nat)),W.length=i/\(∀ w∈W,sL n f p w/\gN n f w.2.2=true)/\∃ a b c,ρ=[(n0 ns),some (.int t,9),(t9 n f),(b9 true),(i9 p),some (.lst (W.map (bN n)),1),a,b,c,none,none]) [(n0 ns),some (.int t,9),(t9 n f),(b9 true),(i9 p),some (.lst [],1),none,none,none,none,none] (fun i hi ρ ai=>by
  obtain⟨W,hl,aB,a,b,c,hr⟩:=ai
  subst hr
  have cD:i<m:=by rw[d7]at hi;exact hi
  obtain⟨x,hx⟩:∃ x:Int,x=t+10+22*Int.ofNat i:=⟨_,rfl⟩
  have De:0<=x:=by have:Int.ofNat i=(i:Int):=rfl;omega
  obtain⟨d,hd,hR⟩:=C_ L hz bz ns (x+2) (by omega)
  obtain⟨s,hs,es⟩:=kF ns De pd
  obtain⟨g,hg,eg⟩:=kF ns (show 0<=x+1 by omega) pd
  have jv:s<p:=by have:(s:Int)<(p:Int):=hs;omega
  have kR:g<p:=by have:(g:Int)<(p:Int):=hg;omega
  generalize aV.lr n f z d=r0 at *
  obtain⟨r,hr1,t8,Df⟩:=y2q L hz bz ns (x+2) (by omega)
  have lT:sL n f p (s,g,r)/\gN n f r=true:=⟨⟨jv,kR,hr1,fun x y hx hy e=>by rw[<- uy.mp t8 x y hx hy,e]⟩,t8⟩
  have hW:W.length<=1000:=by omega
  refine⟨[(n0 ns),some (.int t,9),(t9 n f),(b9 true),(i9 p),some (.lst (W.map (bN n)),1),(i9 i),b,c,none,none],[(n0 ns),some (.int t,9),(t9 n f),(b9 true),(i9 p),some (.lst ((W++[(s,g,r)]).map (bN n)),1),(i9 i),some (.int x,9),(r9 n r),none,none],by rw[qI];simp,.inl ?_,W++[(s,g,r)],by simp[hl],fun w hw=>?_,_,_,_,rfl⟩
  ·unfold sE
   refine(aU (ρ1:=[(n0 ns),some (.int t,9),(t9 n f),(b9 true),(i9 p),some (.lst (W.map (bN n)),1),(i9 i),some (.int x,9),c,none,none]) (by rw[hx];simp[-Int.ofNat_eq_natCast])).trans ?_
   refine(aU (ρ1:=[(n0 ns),some (.int t,9),(t9 n f),(b9 true),(i9 p),some (.lst (W.map (bN n)),1),(i9 i),some (.int x,9),(r9 n r0),none,none]) (by simp[-Int.ofNat_eq_natCast,hR])).trans ?_
   refine(aU (ρ1:=[(n0 ns),some (.int t,9),(t9 n f),(b9 true),(i9 p),some (.lst (W.map (bN n)),1),(i9 i),some (.int x,9),(r9 n r),none,none]) (by simp[-Int.ofNat_eq_natCast,Df])).trans ?_
   simp[-Int.ofNat_eq_natCast,es,eg,hW,bN]
  ·rcases Qx.mp hw with h|h
   ·exact aB w h
   ·rw[Qq.mp h];exact lT) ⟨[],rfl,(fun _ z=>nomatch z),none,none,none,rfl⟩
 rw[d7]at hl
 exact⟨W,hl,aB,a,b,c,e⟩
theorem y81(ns:List Int)(t:Int)(h0:0<=t)(hp:1<=p)(m:Nat)(hm:m<=3)(W:OD)(a b c:OD) :
  ∃ B:List (Nat×Nat),B.length=m/\(∀ w∈B,xa n p w)/\∃ a' h,dF (aC 6) sD (cj m) [(n0 ns),some (.int t,9),(t9 n f),(b9 true),(i9 p),W,a,b,c,some (.lst [],1),none]=some (.nx [(n0 ns),some (.int t,9),(t9 n f),(b9 true),(i9 p),W,a',b,c,some (.lst (B.map eO),1),h]):=by
 have pd:(0:Int)<Int.ofNat p:=by show(0:Int)<(p:Int);omega
 have mU:(0:Int)<Int.ofNat n:=by have:=L.lo;show(0:Int)<(n:Int);omega
 obtain⟨ρ',e,B,hl,aB,a',h,rfl⟩:=jE (pt:=aC 6) (body:=sD) (cj m) (fun i ρ=>∃ B:List (Nat×Nat),B.length=i/\(∀ w∈B,xa n p w)/\∃ a h,ρ=[(n0 ns),some (.int t,9),(t9 n f),(b9 true),(i9 p),W,a,b,c,some (.lst (B.map eO),1),h]) [(n0 ns),some (.int t,9),(t9 n f),(b9 true),(i9 p),W,a,b,c,some (.lst [],1),none] (fun i hi ρ ai=>by
  obtain⟨B,hl,aB,a,h,hr⟩:=ai
  subst hr
  have cD:i<m:=by rw[d7]at hi;exact hi
  have hii:Int.ofNat i=(i:Int):=rfl
  obtain⟨v,hv,ev⟩:=kF ns (show 0<=t+3+2*Int.ofNat i by omega) mU
  obtain⟨g,hg,eg⟩:=kF ns (show 0<=t+4+2*Int.ofNat i by omega) pd
  have vE:v<n:=by have:(v:Int)<(n:Int):=hv;omega
  have kR:g<p:=by have:(g:Int)<(p:Int):=hg;omega
  have hB:B.length<=1000:=by omega
  refine⟨[(n0 ns),some (.int t,9),(t9 n f),(b9 true),(i9 p),W,(i9 i),b,c,some (.lst (B.map eO),1),h],[(n0 ns),some (.int t,9),(t9 n f),(b9 true),(i9 p),W,(i9 i),b,c,some (.lst ((B++[(g,v)]).map eO),1),(i9 v)],by rw[qI];simp,.inl ?_,B++[(g,v)],by simp[hl],fun w hw=>?_,_,_,rfl⟩
  ·unfold sD
   refine(aU (ρ1:=[(n0 ns),some (.int t,9),(t9 n f),(b9 true),(i9 p),W,(i9 i),b,c,some (.lst (B.map eO),1),(i9 v)]) (by simp[-Int.ofNat_eq_natCast,jd,ev])).trans ?_
   simp[-Int.ofNat_eq_natCast,eg,hB,eO]
  ·rcases Qx.mp hw with h|h
   ·exact aB w h
   ·rw[Qq.mp h];exact⟨kR,vE⟩) ⟨[],rfl,(fun _ z=>nomatch z),a,none,rfl⟩
 rw[d7]at hl
 exact⟨B,hl,aB,a',h,e⟩
theorem y3x(ns:List Int)(t:Int)(h0:0<=t):∃ C:cF,C.Ok n f/\(∀ w∈C.W,gN n f w.2.2=true)/\C.p<=5/\C.W.length<=7/\C.B.length<=3/\oX [bV ns,.int t,aT n f,.bl true]=(c9 n C):=by
 obtain⟨p0,BU,ep⟩:=kF ns h0 (m:=5) (by decide)
 obtain⟨mw,hmw,ew⟩:=kF ns (show 0<=t+1 by omega) (m:=8) (by decide)
 obtain⟨mb,hmb,eb⟩:=kF ns (show 0<=t+2 by omega) (m:=4) (by decide)
 obtain⟨p,hp⟩:∃ p:Nat,p=p0+1:=⟨_,rfl⟩
 have j9:(1:Int)+Int.ofNat p0=Int.ofNat p:=by show(1:Int)+(p0:Int)=(p:Int);omega
 obtain⟨W,hWl,pf,a,b,c,eW⟩:=y7v L hz bz ns t h0 (p:=p) (by omega) mw (by omega)
 obtain⟨B,hBl,sM,a',h,eB⟩:=y81 L hz bz ns t h0 (p:=p) (by omega) mb (by omega) (some (.lst (W.map (bN n)),1)) a b c
 refine⟨⟨p,W,B⟩,⟨by show 1<=p;omega,by show p<=8;omega,by show W.length<=60;omega,by show B.length<=60;omega,fun w hw=>(pf w hw).1,sM⟩,fun w hw=>(pf w hw).2,by show p<=5;omega,by show W.length<=7;omega,by show B.length<=3;omega,?_⟩
 unfold oX CT
 refine eA ?_
 show aG _ _ [(n0 ns),some (.int t,9),(t9 n f),(b9 true),none,none,none,none,none,none,none]=_
 refine(aU (ρ1:=[(n0 ns),some (.int t,9),(t9 n f),(b9 true),(i9 p),none,none,none,none,none,none]) (by simp[-Int.ofNat_eq_natCast,ep,j9])).trans ?_
 refine(aU (ρ1:=[(n0 ns),some (.int t,9),(t9 n f),(b9 true),(i9 p),some (.lst [],1),none,none,none,none,none]) (by simp)).trans ?_
 refine(aU ((gp (ρ1:=[(n0 ns),some (.int t,9),(t9 n f),(b9 true),(i9 p),some (.lst [],1),none,none,none,none,none]) (mV (m:=mw) (by omega) (q:=9) (by simp[-Int.ofNat_eq_natCast,ew]))).trans eW)).trans ?_
 refine(aU (ρ1:=[(n0 ns),some (.int t,9),(t9 n f),(b9 true),(i9 p),some (.lst (W.map (bN n)),1),a,b,c,some (.lst [],1),none]) (by simp)).trans ?_
 refine(aU ((gp (ρ1:=[(n0 ns),some (.int t,9),(t9 n f),(b9 true),(i9 p),some (.lst (W.map (bN n)),1),a,b,c,some (.lst [],1),none]) (mV (m:=mb) (by omega) (q:=9) (by simp[-Int.ofNat_eq_natCast,eb]))).trans eB)).trans ?_
 simp[-Int.ofNat_eq_natCast,cG]
end
def k6 (b:Nat×Nat):kY:=(b.1,fun _=>b.2)
def ph (w:Nat×Nat×(Nat->Nat)):kY:=(w.2.1,fun v=>w.2.2 (gv v w.1))
def fj (C:cF):List kY:=C.B.map k6++C.W.map ph
section
variable {n:Nat}{f:Nat->Nat->Nat}(L:aV n f){C:cF}(hC:C.Ok n f)
include L hC
theorem uz:∀ s∈fj C,kB n C.p f s:=fun s hs=>by
 unfold fj at hs
 rcases Qx.mp hs with h|h
 ·obtain⟨b,hb,rfl⟩:=Qr.mp h
  have k:=hC.bs b hb
  exact⟨k.1,fun _ _=>k.2,fun _ _ _ _ _=>L.idem _ k.2⟩
 ·obtain⟨w,hw,rfl⟩:=Qr.mp h
  have k:=hC.ws w hw
  exact⟨k.2.1,fun v hv=>k.2.2.1 _ (hv.gv k.1),fun u v hu hv e=>k.2.2.2 _ _ (hu.gv k.1) (hv.gv k.1) (e _ k.1)⟩
theorem Kk(hv:Vn n C.p v):uw [aT n f,cG n C,.tup (ak v)]=(v9 ((fj C).foldl (bb f) v)):=by
 have hW:=hC.xb
 have hB:=hC.zD
 obtain⟨j1,e1,hv1⟩:=zk (J:=(OD×OD×OD×OD×OD×OD)) (pt:=jc (cE (aC 3) (cE (aC 4) iH))) (body:=C3) eO (fun v a=>[(t9 n f),(c9 n C),(uL v),(a).1,(a).2.1,(a).2.2.1,(a).2.2.2.1,(a).2.2.2.2.1,(a).2.2.2.2.2]) (fun v b=>bb f v (k6 b)) (Vn n C.p) C.B v (none,none,none,none,none,none) hv (fun b hb v a hv=>by
  have k:=hC.bs b hb
  have ok:=uz L hC (k6 b) (Qu _ (Qr.mpr ⟨b,hb,rfl⟩))
  refine⟨L.gz ok hv,[(t9 n f),(c9 n C),(uL v),((some ((iD b.1),9),some ((iD b.2),9),a.2.2)).1,((some ((iD b.1),9),some ((iD b.2),9),a.2.2)).2.1,((some ((iD b.1),9),some ((iD b.2),9),a.2.2)).2.2.1,((some ((iD b.1),9),some ((iD b.2),9),a.2.2)).2.2.2.1,((some ((iD b.1),9),some ((iD b.2),9),a.2.2)).2.2.2.2.1,((some ((iD b.1),9),some ((iD b.2),9),a.2.2)).2.2.2.2.2],(some ((iD b.1),9),some ((iD b.2),9),a.2.2),by simp[-Int.ofNat_eq_natCast,eO],?_⟩
  have hl:b.1<v.length:=by rw[hv.len];exact k.1
  have a1:=CJ hl
  have a2:=ky (f:=f) (hv.gv k.1)
  have a3:=kW (f:=f) (i:=gv v b.1) k.2
  have a4:ib (ak v).length (Int.ofNat b.1)=some b.1:=ue (by rw[fC];exact hl)
  have a5:=Hy v b.1 (f (gv v b.1) b.2)
  unfold C3 bb k6
  simp[-Int.ofNat_eq_natCast,a1,a2,a3,a4,a5])
 obtain⟨j2,kQ,hv2⟩:=zk (J:=(OD×OD×OD×OD×OD×OD)) (pt:=jc (cE (aC 5) (cE (aC 6) (cE (aC 7) iH)))) (body:=C2) (bN n) (fun v a=>[(t9 n f),(c9 n C),(uL v),(a).1,(a).2.1,(a).2.2.1,(a).2.2.2.1,(a).2.2.2.2.1,(a).2.2.2.2.2]) (fun v w=>bb f v (ph w)) (Vn n C.p) C.W (C.B.foldl (fun v b=>bb f v (k6 b)) v) j1 hv1 (fun w hw v a hv=>by
  have k:=hC.ws w hw
  have ok:=uz L hC (ph w) (Qo _ (Qr.mpr ⟨w,hw,rfl⟩))
  refine⟨L.gz ok hv,[(t9 n f),(c9 n C),(uL v),((a.1,a.2.1,some ((iD w.1),9),some ((iD w.2.1),9),(r9 n w.2.2),a.2.2.2.2.2)).1,((a.1,a.2.1,some ((iD w.1),9),some ((iD w.2.1),9),(r9 n w.2.2),a.2.2.2.2.2)).2.1,((a.1,a.2.1,some ((iD w.1),9),some ((iD w.2.1),9),(r9 n w.2.2),a.2.2.2.2.2)).2.2.1,((a.1,a.2.1,some ((iD w.1),9),some ((iD w.2.1),9),(r9 n w.2.2),a.2.2.2.2.2)).2.2.2.1,((a.1,a.2.1,some ((iD w.1),9),some ((iD w.2.1),9),(r9 n w.2.2),a.2.2.2.2.2)).2.2.2.2.1,((a.1,a.2.1,some ((iD w.1),9),some ((iD w.2.1),9),(r9 n w.2.2),a.2.2.2.2.2)).2.2.2.2.2],(a.1,a.2.1,some ((iD w.1),9),some ((iD w.2.1),9),(r9 n w.2.2),some ((iD (w.2.2 (gv v w.1))),9)),by simp[-Int.ofNat_eq_natCast,bN],?_⟩
  have hl:w.2.1<v.length:=by rw[hv.len];exact k.2.1
  have Kl:w.1<v.length:=by rw[hv.len];exact k.1
  have a0:=CJ Kl
  have a1:=CJ hl
  have b0:=nJ (r:=w.2.2) (hv.gv k.1)
  have a2:=ky (f:=f) (hv.gv k.2.1)
  have a3:=kW (f:=f) (i:=gv v w.2.1) (k.2.2.1 _ (hv.gv k.1))
  have a4:ib (ak v).length (Int.ofNat w.2.1)=some w.2.1:=ue (by rw[fC];exact hl)
  have a5:=Hy v w.2.1 (f (gv v w.2.1) (w.2.2 (gv v w.1)))
  unfold C2 bb ph
  simp[-Int.ofNat_eq_natCast,a0,b0,a1,a2,a3,a4,a5])
 have ef:(fj C).foldl (bb f) v=C.W.foldl (fun v w=>bb f v (ph w)) (C.B.foldl (fun v b=>bb f v (k6 b)) v):=by
  unfold fj
  rw[JH,List.foldl_map,List.foldl_map]
 rw[ef]
 unfold uw IW
 refine eA ?_
 show aG _ _ [(t9 n f),(c9 n C),(v9 v),none,none,none,none,none,none]=_
 refine(aU (ρ1:=[(t9 n f),(c9 n C),(uL v),(((none,none,none,none,none,none):(OD×OD×OD×OD×OD×OD))).1,(((none,none,none,none,none,none):(OD×OD×OD×OD×OD×OD))).2.1,(((none,none,none,none,none,none):(OD×OD×OD×OD×OD×OD))).2.2.1,(((none,none,none,none,none,none):(OD×OD×OD×OD×OD×OD))).2.2.2.1,(((none,none,none,none,none,none):(OD×OD×OD×OD×OD×OD))).2.2.2.2.1,(((none,none,none,none,none,none):(OD×OD×OD×OD×OD×OD))).2.2.2.2.2]) (by simp)).trans ?_
 refine(aU ((gp (ds:=C.B.map eO) (ρ1:=[(t9 n f),(c9 n C),(uL v),(((none,none,none,none,none,none):(OD×OD×OD×OD×OD×OD))).1,(((none,none,none,none,none,none):(OD×OD×OD×OD×OD×OD))).2.1,(((none,none,none,none,none,none):(OD×OD×OD×OD×OD×OD))).2.2.1,(((none,none,none,none,none,none):(OD×OD×OD×OD×OD×OD))).2.2.2.1,(((none,none,none,none,none,none):(OD×OD×OD×OD×OD×OD))).2.2.2.2.1,(((none,none,none,none,none,none):(OD×OD×OD×OD×OD×OD))).2.2.2.2.2]) (by
  have h:cf (cG n C) 2=some (.tup (C.B.map eO)):=rfl
  have hB':C.B.length<=1000:=by omega
  simp[h,hB'])).trans e1)).trans ?_
 refine(aU ((gp (ds:=C.W.map (bN n)) (ρ1:=[(t9 n f),(c9 n C),(uL (C.B.foldl (fun v b=>bb f v (k6 b)) v)),(j1).1,(j1).2.1,(j1).2.2.1,(j1).2.2.2.1,(j1).2.2.2.2.1,(j1).2.2.2.2.2]) (by
  have h:cf (cG n C) 1=some (.tup (C.W.map (bN n))):=rfl
  have hW':C.W.length<=1000:=by omega
  simp[h,hW'])).trans kQ)).trans ?_
 simp
include L hC
structure Km (n:Nat) (f:Nat->Nat->Nat) (C:cF) (v u:List Nat):Prop where
 V:Vn n C.p u
 cl:kZ f (fj C) u
 up:dI f C.p v u
 le:∀ a,Vn n C.p a->kZ f (fj C) a->dI f C.p v a->dI f C.p u a
theorem y4t(hv:Vn n C.p v):∃ u,Km n f C v u/\w_ [aT n f,cG n C,.tup (ak v)]=(v9 u):=by
 have hS:=uz L hC
 have k7:=hC.p8
 have Dg:=L.hi
 have hmu:=aV.qA (f:=f) hv
 have Dh:C.p*n<=8*16:=JO k7 Dg
 obtain⟨ρ',e,u,hu,rfl⟩:=zm (c:=bB (e2 di (aa 3) (aa 2))) (b:=C4) (Q:=fun ρ=>∃ u,Km n f C v u/\ρ=[(t9 n f),(c9 n C),(v9 u),(v9 u)])
  (fun k ρ=>∃ w,Vn n C.p w/\dI f C.p v w/\(∀ a,Vn n C.p a->kZ f (fj C) a->dI f C.p v a->dI f C.p w a)/\aV.mu n f w=k/\ρ=[(t9 n f),(c9 n C),(v9 w),(v9 ((fj C).foldl (bb f) w))])
  (k:=aV.mu n f v) (ρ:=[(t9 n f),(c9 n C),(v9 v),(v9 ((fj C).foldl (bb f) v))]) (by omega) ⟨v,hv,L.gu hv,fun a ha _ h=>h,rfl,rfl⟩ (fun k ρ ai=>by
   obtain⟨w,hw,h1,h2,h3,hr⟩:=ai
   subst hr
   have jG:=L.fX hS hw
   by_cases e:(fj C).foldl (bb f) w=w
   ·refine .inl ⟨[(t9 n f),(c9 n C),(v9 w),(v9 w)],?_,w,⟨hw,(L.dJ hS hw).mp e,h1,h2⟩,rfl⟩
    rw[e]
    simp[sr]
   ·refine .inr ⟨[(t9 n f),(c9 n C),(v9 w),(v9 ((fj C).foldl (bb f) w))],[(t9 n f),(c9 n C),(v9 ((fj C).foldl (bb f) w)),(v9 ((fj C).foldl (bb f) ((fj C).foldl (bb f) w)))],aV.mu n f ((fj C).foldl (bb f) w),?_,?_,?_,_,jG,L.fi hv hw jG h1 (L.dy hS hw),fun a ha ca hva=>L.dz ha hS hw ca (h2 a ha ca hva),rfl,rfl⟩
    ·simp[sr,e]
    ·have r:=Kk L hC jG
     generalize (fj C).foldl (bb f) w=w' at *
     unfold C4
     simp[r]
    ·rw[<- h3]
     exact L.mQ hw jG (L.dy hS hw) (fun z=>e z.symm))
 refine⟨u,hu,?_⟩
 unfold w_ IX
 refine eA ?_
 show aG _ _ [(t9 n f),(c9 n C),(v9 v),none]=_
 refine(aU (ρ1:=[(t9 n f),(c9 n C),(v9 v),(v9 ((fj C).foldl (bb f) v))]) (by simp[Kk L hC hv])).trans ?_
 refine(aU e).trans ?_
 simp
end
abbrev Sn:=Bool×Nat
def aF (s:Sn):D:=.tup [.str (if s.1 then "begin" else "way"),(iD s.2)]
@[simp] theorem j5n{s:Sn}:(aF s).cJ=false:=rfl
def okN (C:cF)(s:Sn):Prop:=s.2<(if s.1 then C.B.length else C.W.length)
def bH (C:cF)(s:Sn):kY:=if s.1 then k6 (C.B.getD s.2 (0,0))else ph (C.W.getD s.2 (0,0,id))
def pj (C:cF):List Sn:=(List.range C.B.length).map (fun k=>(true,k))++(List.range C.W.length).map (fun k=>(false,k))
theorem j2e(C:cF):∀ s∈pj C,okN C s:=fun s hs=>by
 unfold pj at hs
 rcases Qx.mp hs with h|h
 ·obtain⟨k,hk,rfl⟩:=Qr.mp h
  exact Qz.mp hk
 ·obtain⟨k,hk,rfl⟩:=Qr.mp h
  exact Qz.mp hk
theorem Kn{α β:Type}(l:List α)(d:α)(g:α->β):(List.range l.length).map (fun k=>g (l.getD k d))=l.map g:=by
 apply Zt
 intro k
 by_cases hk:k<l.length
 ·simp[hk]
 ·rw[QK (by simp;omega),QK (by simp;omega)]
theorem z7o(C:cF):(pj C).map (bH C)=fj C:=by
 unfold pj fj
 rw[Q3,Zb,Zb,<- Kn C.B (0,0) k6,<- Kn C.W (0,0,id) ph]
 rfl
theorem Di{C:cF}{s:Sn}(h:okN C s):bH C s∈fj C:=by
 unfold okN at h
 unfold bH fj
 cases hb:s.1 with
 | true=>
  rw[hb]at h
  have h':s.2<C.B.length:=h
  refine Qu _ (Qr.mpr ⟨C.B.getD s.2 (0,0),?_,rfl⟩)
  rw[Qf,Qb h']
  exact QR h'
 | false=>
  rw[hb]at h
  have h':s.2<C.W.length:=h
  refine Qo _ (Qr.mpr ⟨C.W.getD s.2 (0,0,id),?_,rfl⟩)
  rw[Qf,Qb h']
  exact QR h'
theorem z5w:cS (.str "begin") (.str "begin")=some (.bl true):=by
 have h:eK (.str "begin")=true:=by decide +kernel
 unfold cS
 rw[Qj ⟨h,h⟩]
 rfl
theorem j3j:cS (.str "way") (.str "begin")=some (.bl false):=by
 have h:eK (.str "begin")=true:=by decide +kernel
 have h':eK (.str "way")=true:=by decide +kernel
 have e:me (.str "way") (.str "begin")=false:=by decide +kernel
 unfold cS
 rw[Qj ⟨h',h⟩,e]
theorem j3n(hp:p<v.length):L3.oO (ak v) none (some (Int.ofNat p))=ak (v.take p):=by
 unfold L3.oO
 have e1:HT.bp (ak v).length 0 none=0:=rfl
 have e2:HT.bp (ak v).length (ak v).length (some (Int.ofNat p))=p:=by
  rw[fC]
  have:¬ ((p:Int)<0):=by omega
  simp[HT.bp,this]
  omega
 rw[e1,e2,List.drop_zero,Ub]
 simp only[ak,List.map_take]
theorem z6n(hp:p<v.length):L3.oO (ak v) (some (Int.ofNat p+1)) none=ak (v.drop (p+1)):=by
 unfold L3.oO
 have e1:HT.bp (ak v).length 0 (some (Int.ofNat p+1))=p+1:=by
  rw[fC]
  have:¬ ((p:Int)+1<0):=by omega
  simp[HT.bp,this]
  omega
 have e2:HT.bp (ak v).length (ak v).length none=(ak v).length:=rfl
 rw[e1,e2,Yl (by rw[ZO];exact Qi _)]
 simp only[ak,List.map_drop]
theorem j1o{x:Nat}(hp:p<v.length):ak (v.take p)++[(iD x)]++ak (v.drop (p+1))=ak (v.set p x):=by
 rw[List.set_eq_take_append_cons_drop,Qj hp]
 simp[ak]
def Rz (f:Nat->Nat->Nat)(C:cF):List Nat->List Sn->Prop
 | _,[]=>True
 | v,s::R=>bb f v (bH C s)≠v/\Rz f C (bb f v (bH C s)) R
theorem Rz.snoc{C:cF}{s:Sn}:∀ {R:List Sn} {v:List Nat},Rz f C v R->bb f ((R.map (bH C)).foldl (bb f) v) (bH C s)≠(R.map (bH C)).foldl (bb f) v->Rz f C v (R++[s])
 | [],_,_,h=>⟨h,trivial⟩
 | _::_,_,r,h=>⟨r.1,Rz.snoc r.2 h⟩
section
variable {n:Nat}{f:Nat->Nat->Nat}(L:aV n f){C:cF}(hC:C.Ok n f)
include L hC
theorem vS(hv:Vn n C.p v){s:Sn}(hs:okN C s):wQ [cG n C,.tup (ak v),aF s]=some (.tup [.int (Int.ofNat (bH C s).1),(iD ((bH C s).2 v))],9):=by
 obtain⟨b,k⟩:=s
 unfold okN at hs
 unfold wQ IC
 have c1:cf (cG n C) 1=some (.tup (C.W.map (bN n))):=rfl
 have c2:cf (cG n C) 2=some (.tup (C.B.map eO)):=rfl
 cases b with
 | true=>
  have hk:k<C.B.length:=hs
  have s0:cf (aF (true,k)) 0=some (.str "begin"):=rfl
  have s1:cf (aF (true,k)) 1=some (iD k):=rfl
  have e:cf (.tup (C.B.map eO)) (Int.ofNat k)=some (eO (C.B.getD k (0,0))):=qy (by rw[Ql,Qb hk];simp[hk])
  have iR:bH C (true,k)=k6 (C.B.getD k (0,0)):=rfl
  rw[iR]
  generalize C.B.getD k (0,0)=b at *
  generalize aF (true,k)=sd at *
  have hb:eO b=.tup [.int (Int.ofNat (k6 b).1),(iD ((k6 b).2 v))]:=rfl
  rw[<- hb]
  simp[-Int.ofNat_eq_natCast,s0,s1,c2,e,z5w]
 | false=>
  have hk:k<C.W.length:=hs
  have s0:cf (aF (false,k)) 0=some (.str "way"):=rfl
  have s1:cf (aF (false,k)) 1=some (iD k):=rfl
  have e:cf (.tup (C.W.map (bN n))) (Int.ofNat k)=some (bN n (C.W.getD k (0,0,id))):=qy (by rw[Ql,Qb hk];simp[hk])
  have iR:bH C (false,k)=ph (C.W.getD k (0,0,id)):=rfl
  have hw:C.W.getD k (0,0,id)∈C.W:=by
   rw[Qf,Qb hk]
   exact QR hk
  have ok:=hC.ws _ hw
  rw[iR]
  generalize C.W.getD k (0,0,id)=w at *
  have w0:cf (bN n w) 0=some (iD w.1):=rfl
  have w1:cf (bN n w) 1=some (iD w.2.1):=rfl
  have w2:cf (bN n w) 2=some (b_ n w.2.2):=rfl
  have a0:=uf (v:=v) (i:=w.1) (by rw[hv.len];exact ok.1)
  have a1:=nJ (r:=w.2.2) (hv.gv ok.1)
  have vP:aF (false,k)=aF (false,k):=rfl
  generalize hsd:aF (false,k)=sd at *
  have hL:sd.cJ=false:=by rw[<- hsd];rfl
  show _=some (D.tup [(iD w.2.1),(iD (w.2.2 (gv v w.1)))],9)
  generalize hwt:bN n w=wt at *
  have hL2:wt.cJ=false:=by rw[<- hwt];rfl
  simp[-Int.ofNat_eq_natCast,s0,s1,c1,e,j3j,w0,w1,w2,a0,a1,hL,hL2]
theorem z51(hv:Vn n C.p v){s:Sn}(hs:okN C s):wR [aT n f,cG n C,.tup (ak v),aF s]=(v9 (bb f v (bH C s))):=by
 have ok:=uz L hC _ (Di hs)
 have hp:=vS L hC hv hs
 have hx:=ok.lt v hv
 have hg:=hv.gv ok.pl
 have bS:(bH C s).1<v.length:=by rw[hv.len];exact ok.pl
 have k7:=hC.p8
 have hl:=hv.len
 unfold bb
 generalize (bH C s).1=g at *
 generalize (bH C s).2 v=x at *
 have a0:=uf bS
 have a1:=ky (f:=f) hg
 have a2:=kW (f:=f) (i:=gv v g) hx
 have s1:=j3n bS
 have s2:=z6n bS
 have s3:=j1o (x:=f (gv v g) x) bS
 have l1:(ak (v.take g)).length=g:=by rw[fC,Za];omega
 have l2:(ak (v.drop (g+1))).length=v.length-(g+1):=by rw[fC,ZO]
 unfold wR IE
 refine eA ?_
 show aG _ _ [(t9 n f),(c9 n C),(v9 v),some (aF s,9),none,none,none]=_
 refine(aU (ρ1:=[(t9 n f),(c9 n C),(v9 v),some (aF s,9),some (.tup [(iD g),(iD x)],9),none,none]) (by simp[-Int.ofNat_eq_natCast,hp])).trans ?_
 have t0:cf (.tup [(iD g),(iD x)]) 0=some (iD g):=rfl
 have t1:cf (.tup [(iD g),(iD x)]) 1=some (iD x):=rfl
 refine(aU (ρ1:=[(t9 n f),(c9 n C),(v9 v),some (aF s,9),some (.tup [(iD g),(iD x)],9),(i9 g),none]) (by simp[-Int.ofNat_eq_natCast,t0])).trans ?_
 refine(aU (ρ1:=[(t9 n f),(c9 n C),(v9 v),some (aF s,9),some (.tup [(iD g),(iD x)],9),(i9 g),(i9 (f (gv v g) x))]) (by simp[-Int.ofNat_eq_natCast,a0,a1,a2,t1])).trans ?_
 rw[<- s3]
 have m1:(ak (v.take g)).length+1<=1000:=by omega
 have m2:(ak (v.take g)).length+1+(ak (v.drop (g+1))).length<=1000:=by omega
 generalize ak (v.take g)=u1 at *
 generalize ak (v.drop (g+1))=u2 at *
 have m1':u1.length<=999:=by omega
 simp[-Int.ofNat_eq_natCast,s1,s2,m1,m1',m2]
structure mW (n:Nat) (f:Nat->Nat->Nat) (p:Nat) (l:List kY) (v u:List Nat):Prop where
 V:Vn n p u
 cl:kZ f l u
 up:dI f p v u
 le:∀ a,Vn n p a->kZ f l a->dI f p v a->dI f p u a
theorem z6i(hv:Vn n C.p v){l:List Sn}(hl:∀ s∈l,okN C s)(hlen:l.length<=1000) :
  ∃ (u:List Nat) (R:List Sn),mW n f C.p (l.map (bH C)) v u/\(∀ s∈R,s∈l)/\(R.map (bH C)).foldl (bb f) v=u/\(aV.mu n f u+R.length<=aV.mu n f v/\Rz f C v R)/\uu [aT n f,cG n C,.lst (l.map aF),.tup (ak v)]=some (.tup [.tup (ak u),.lst (R.map aF)],9):=by
 have k7:=hC.p8
 have Dg:=L.hi
 have hmu:=aV.qA (f:=f) hv
 have Dh:C.p*n<=8*16:=JO k7 Dg
 have hS:∀ t∈l.map (bH C),kB n C.p f t:=fun t ht=>by
  obtain⟨s,hs,rfl⟩:=Qr.mp ht
  exact uz L hC _ (Di (hl s hs))
 have round:∀ (w:List Nat) (R:List Sn) (a:OD) (j:(OD×OD)),Vn n C.p w->(∀ s∈R,s∈l)->(R.map (bH C)).foldl (bb f) v=w->(aV.mu n f w+R.length<=aV.mu n f v/\Rz f C v R)->
   ∃ (R':List Sn) (j':(OD×OD)),(∀ s∈R',s∈l)/\(R'.map (bH C)).foldl (bb f) v=(l.map (bH C)).foldl (bb f) w/\(aV.mu n f ((l.map (bH C)).foldl (bb f) w)+R'.length<=aV.mu n f v/\Rz f C v R') /\
    dF (aC 6) wU (l.map aF) [(t9 n f),(c9 n C),some (.lst (l.map aF),0),(v9 w),some (.lst ((R).map aF),1),a,(j).1,(j).2]=some (.nx [(t9 n f),(c9 n C),some (.lst (l.map aF),0),(v9 ((l.map (bH C)).foldl (bb f) w)),some (.lst ((R').map aF),1),a,(j').1,(j').2]):=fun w R a j hw h1 h2 h3=>by
  obtain⟨j',e,i1,i2,i3,i4⟩:=zk (J:=(OD×OD)) (pt:=aC 6) (body:=wU) aF (fun(σ:List Nat×List Sn) j=>[(t9 n f),(c9 n C),some (.lst (l.map aF),0),(v9 σ.1),some (.lst ((σ.2).map aF),1),a,(j).1,(j).2]) (fun σ s=>(bb f σ.1 (bH C s),if bb f σ.1 (bH C s)=σ.1 then σ.2 else σ.2++[s]))
   (fun σ=>Vn n C.p σ.1/\(∀ s∈σ.2,s∈l)/\(σ.2.map (bH C)).foldl (bb f) v=σ.1/\(aV.mu n f σ.1+σ.2.length<=aV.mu n f v/\Rz f C v σ.2)) l (w,R) j ⟨hw,h1,h2,h3⟩ (fun s hs σ j ai=>by
    obtain⟨k1,k2,k3,k4⟩:=ai
    obtain⟨x,Q⟩:=σ
    dsimp only at k1 k2 k3 k4 ⊢
    have ok:=uz L hC _ (Di (hl s hs))
    have hb:=z51 L hC k1 (hl s hs)
    have iC:=L.gz ok k1
    by_cases he:bb f x (bH C s)=x
    ·rw[Qj he]
     refine⟨⟨iC,k2,by rw[he];exact k3,by rw[he];exact k4⟩,[(t9 n f),(c9 n C),some (.lst (l.map aF),0),(v9 x),some (.lst ((Q).map aF),1),a,(((some (aF s,9),j.2):(OD×OD))).1,(((some (aF s,9),j.2):(OD×OD))).2],(some (aF s,9),(v9 (bb f x (bH C s)))),by simp,?_⟩
     unfold wU
     refine(aU (ρ1:=[(t9 n f),(c9 n C),some (.lst (l.map aF),0),(v9 x),some (.lst ((Q).map aF),1),a,(((some (aF s,9),(v9 (bb f x (bH C s)))):(OD×OD))).1,(((some (aF s,9),(v9 (bb f x (bH C s)))):(OD×OD))).2]) (by simp[hb])).trans ?_
     refine(aU (ρ1:=[(t9 n f),(c9 n C),some (.lst (l.map aF),0),(v9 x),some (.lst ((Q).map aF),1),a,(((some (aF s,9),(v9 (bb f x (bH C s)))):(OD×OD))).1,(((some (aF s,9),(v9 (bb f x (bH C s)))):(OD×OD))).2]) (by rw[he];simp[sr])).trans ?_
     simp
    ·rw[Qk he]
     have bX:=L.mQ k1 iC (L.jT ok k1) (fun z=>he z.symm)
     refine⟨⟨iC,fun t ht=>?_,?_,⟨by rw[Qn];show _+(Q.length+1)<=_;have:=k4.1;omega,k4.2.snoc (by rw[k3];exact he)⟩⟩,[(t9 n f),(c9 n C),some (.lst (l.map aF),0),(v9 x),some (.lst ((Q).map aF),1),a,(((some (aF s,9),j.2):(OD×OD))).1,(((some (aF s,9),j.2):(OD×OD))).2],(some (aF s,9),(v9 (bb f x (bH C s)))),by simp,?_⟩
     ·rcases Qx.mp ht with h|h
      ·exact k2 t h
      ·rw[Qq.mp h];exact hs
     ·rw[Q3,JH,k3];rfl
     ·unfold wU
      have hQ:Q.length<=1000:=by have:=k4.1;omega
      refine(aU (ρ1:=[(t9 n f),(c9 n C),some (.lst (l.map aF),0),(v9 x),some (.lst ((Q).map aF),1),a,(((some (aF s,9),(v9 (bb f x (bH C s)))):(OD×OD))).1,(((some (aF s,9),(v9 (bb f x (bH C s)))):(OD×OD))).2]) (by simp[hb])).trans ?_
      refine(aU (ρ1:=[(t9 n f),(c9 n C),some (.lst (l.map aF),0),(v9 x),some (.lst (((Q++[s])).map aF),1),a,(((some (aF s,9),(v9 (bb f x (bH C s)))):(OD×OD))).1,(((some (aF s,9),(v9 (bb f x (bH C s)))):(OD×OD))).2]) (by
       generalize bb f x (bH C s)=y at *
       simp[sr,he,hQ])).trans ?_
      simp)
  have ef:∀ (l:List Sn) (σ:List Nat×List Sn),(l.foldl (fun(σ:List Nat×List Sn) s=>(bb f σ.1 (bH C s),if bb f σ.1 (bH C s)=σ.1 then σ.2 else σ.2++[s])) σ).1=(l.map (bH C)).foldl (bb f) σ.1:=by
   intro l
   induction l with
   | nil=>intro σ;rfl
   | cons s l ih=>intro σ;exact ih _
  have Ko:=ef l (w,R)
  generalize l.foldl (fun(σ:List Nat×List Sn) s=>(bb f σ.1 (bH C s),if bb f σ.1 (bH C s)=σ.1 then σ.2 else σ.2++[s])) (w,R)=σ at *
  obtain⟨x,Q⟩:=σ
  dsimp only at Ko i1 i2 i3 i4 e
  have ef2:x=(l.map (bH C)).foldl (bb f) w:=Ko
  subst ef2
  exact⟨Q,j',i2,i3,i4,e⟩
 obtain⟨ρ',e,u,R,j,hu,hR1,Df,hR3,rfl⟩:=zm (c:=bB (e2 di (aa 3) (aa 5))) (b:=zy)
  (Q:=fun ρ=>∃ (u:List Nat) (R:List Sn),∃ j:(OD×OD),mW n f C.p (l.map (bH C)) v u/\(∀ s∈R,s∈l)/\(R.map (bH C)).foldl (bb f) v=u/\(aV.mu n f u+R.length<=aV.mu n f v/\Rz f C v R)/\ρ=[(t9 n f),(c9 n C),some (.lst (l.map aF),0),(v9 u),some (.lst ((R).map aF),1),(v9 u),(j).1,(j).2])
  (fun k ρ=>∃ (w:List Nat) (R:List Sn),∃ j:(OD×OD),∃ a:D,Vn n C.p w/\dI f C.p v w/\(∀ x,Vn n C.p x->kZ f (l.map (bH C)) x->dI f C.p v x->dI f C.p w x)/\(∀ s∈R,s∈l)/\(R.map (bH C)).foldl (bb f) v=w/\(aV.mu n f w+R.length<=aV.mu n f v/\Rz f C v R) /\
    ((a=.bo/\k=aV.mu n f w+1)\/∃ y,a=.tup (ak y)/\Vn n C.p y/\w=(l.map (bH C)).foldl (bb f) y/\k=aV.mu n f w+(if y=w then 0 else 1))/\ρ=[(t9 n f),(c9 n C),some (.lst (l.map aF),0),(v9 w),some (.lst ((R).map aF),1),some (a,9),(j).1,(j).2])
  (k:=aV.mu n f v+1) (ρ:=[(t9 n f),(c9 n C),some (.lst (l.map aF),0),(v9 v),some (.lst ((([]:List Sn)).map aF),1),some (.bo,9),(((none,none):(OD×OD))).1,(((none,none):(OD×OD))).2]) (by omega) ⟨v,[],(none,none),.bo,hv,L.gu hv,fun x _ _ h=>h,(fun _ z=>nomatch z),rfl,⟨Qi _,trivial⟩,.inl ⟨rfl,rfl⟩,rfl⟩ (fun k ρ ai=>by
   obtain⟨w,R,j,a,hw,h1,h2,h3,h4,h5,h6,hr⟩:=ai
   subst hr
   have next:(bB (e2 di (aa 3) (aa 5)) [(t9 n f),(c9 n C),some (.lst (l.map aF),0),(v9 w),some (.lst ((R).map aF),1),some (a,9),(j).1,(j).2]=some (true,[(t9 n f),(c9 n C),some (.lst (l.map aF),0),(v9 w),some (.lst ((R).map aF),1),some (a,9),(j).1,(j).2]))->aV.mu n f w+1<=k->∃ ρ1 ρ2 k',bB (e2 di (aa 3) (aa 5)) [(t9 n f),(c9 n C),some (.lst (l.map aF),0),(v9 w),some (.lst ((R).map aF),1),some (a,9),(j).1,(j).2]=some (true,ρ1)/\zy ρ1=some (.nx ρ2)/\k'<k/\∃ (w:List Nat) (R:List Sn),∃ j:(OD×OD),∃ a:D,Vn n C.p w/\dI f C.p v w/\(∀ x,Vn n C.p x->kZ f (l.map (bH C)) x->dI f C.p v x->dI f C.p w x)/\(∀ s∈R,s∈l)/\(R.map (bH C)).foldl (bb f) v=w/\(aV.mu n f w+R.length<=aV.mu n f v/\Rz f C v R) /\
   ((a=.bo/\k'=aV.mu n f w+1)\/∃ y,a=.tup (ak y)/\Vn n C.p y/\w=(l.map (bH C)).foldl (bb f) y/\k'=aV.mu n f w+(if y=w then 0 else 1))/\ρ2=[(t9 n f),(c9 n C),some (.lst (l.map aF),0),(v9 w),some (.lst ((R).map aF),1),some (a,9),(j).1,(j).2]:=fun ht hk=>by
    obtain⟨R',j',r1,r2,r3,r4⟩:=round w R ((v9 w)) j hw h3 h4 h5
    have jG:=L.fX hS hw
    have up:=L.dy hS hw
    refine⟨_,[(t9 n f),(c9 n C),some (.lst (l.map aF),0),(v9 ((l.map (bH C)).foldl (bb f) w)),some (.lst ((R').map aF),1),(v9 w),(j').1,(j').2],aV.mu n f ((l.map (bH C)).foldl (bb f) w)+(if w=(l.map (bH C)).foldl (bb f) w then 0 else 1),ht,?_,?_,_,R',j',.tup (ak w),jG,L.fi hv hw jG h1 up,fun x hx cx hvx=>L.dz hx hS hw cx (h2 x hx cx hvx),r1,r2,r3,.inr ⟨w,rfl,hw,rfl,rfl⟩,rfl⟩
    ·unfold zy
     refine(aU (ρ1:=[(t9 n f),(c9 n C),some (.lst (l.map aF),0),(v9 w),some (.lst ((R).map aF),1),(v9 w),(j).1,(j).2]) (by simp)).trans ?_
     exact(gp (ds:=l.map aF) (ρ1:=[(t9 n f),(c9 n C),some (.lst (l.map aF),0),(v9 w),some (.lst ((R).map aF),1),(v9 w),(j).1,(j).2]) (by simp[hlen])).trans r4
    ·by_cases he:w=(l.map (bH C)).foldl (bb f) w
     ·rw[Qj he,<- he];omega
     ·rw[Qk he]
      have:=L.mQ hw jG up he
      omega
   rcases h6 with⟨rfl,hk⟩|⟨y,rfl,hy,hwy,hk⟩
   ·refine .inr (next ?_ (by omega))
    have cC:di (.tup (ak w)) .bo=some (.bl true):=by
     unfold di
     rw[Qj ⟨(qz w).ok,(Sh.bo (k:=0)).ok⟩]
     rfl
    simp[cC]
   ·by_cases Dj:y=w
    ·subst Dj
     refine .inl ⟨[(t9 n f),(c9 n C),some (.lst (l.map aF),0),(v9 y),some (.lst ((R).map aF),1),(v9 y),(j).1,(j).2],by simp[sr],y,R,j,⟨hw,(L.dJ hS hw).mp hwy.symm,h1,h2⟩,h3,h4,h5,rfl⟩
    ·rw[Qk Dj]at hk
     refine .inr (next ?_ (by omega))
     have:¬ (w=y):=fun z=>Dj z.symm
     simp[sr,this])
 refine⟨u,R,hu,hR1,Df,hR3,?_⟩
 unfold uu IF
 refine eA ?_
 show aG _ _ [(t9 n f),(c9 n C),some (.lst (l.map aF),0),(v9 v),none,none,none,none]=_
 refine(aU (ρ1:=[(t9 n f),(c9 n C),some (.lst (l.map aF),0),(v9 v),some (.lst [],1),none,none,none]) (by simp)).trans ?_
 refine(aU (ρ1:=[(t9 n f),(c9 n C),some (.lst (l.map aF),0),(v9 v),some (.lst ((([]:List Sn)).map aF),1),some (.bo,9),(((none,none):(OD×OD))).1,(((none,none):(OD×OD))).2]) (by simp)).trans ?_
 refine(aU e).trans ?_
 simp
theorem z73(hv:Vn n C.p v){l:List Sn}(hl:∀ s∈l,okN C s)(hlen:l.length<=1000) :
  ∃ (u:List Nat) (R:List Sn),mW n f C.p (l.map (bH C)) v u/\(∀ s∈R,s∈l)/\(R.map (bH C)).foldl (bb f) v=u/\aV.mu n f u+R.length<=aV.mu n f v/\uu [aT n f,cG n C,.lst (l.map aF),.tup (ak v)]=some (.tup [.tup (ak u),.lst (R.map aF)],9):=by
 obtain⟨u,R,h1,h2,h3,h4,e⟩:=z6i L hC hv hl hlen
 exact⟨u,R,h1,h2,h3,h4.1,e⟩
end
theorem dg1(a b:D):jB ["begin","way"] [a,b] "begin" = some a:=by unfold jB;rw[Qj rfl]
theorem dg2(a b:D):jB ["begin","way"] [a,b] "way" = some b:=by
 unfold jB
 rw[Qk (by decide)]
 unfold jB
 rw[Qj rfl]
section
variable {n:Nat}{f:Nat->Nat->Nat}{C:cF}
def Dk (C:cF)(s:Sn):Bool:=decide (s.2<(if s.1 then C.B.length else C.W.length))
theorem z83{s:Sn}:Dk C s=true ↔ okN C s:=decide_eq_true_iff
theorem Kp(m k:Nat):kE m (iD k)=decide (k<m):=by
 show(decide ((0:Int)<=(k:Int))&&decide ((k:Int)<(m:Int)))=_
 simp
theorem z4v(s:Sn):wN [aF s,.gH ["begin","way"] [(iD C.B.length),(iD C.W.length)]]=(b9 (Dk C s)):=by
 obtain⟨b,k⟩:=s
 have l2:di (.int 2) (.int 2)=some (.bl false):=(U7 _ _).trans (by simp)
 have n1:=fun m=>y5m m (iD k)
 have g1:=dg1 (iD C.B.length) (iD C.W.length)
 have g2:=dg2 (iD C.B.length) (iD C.W.length)
 have s0:∀ x:Str,cf (.tup [.str x,(iD k)]) 0=some (.str x):=fun _=>rfl
 have s1:∀ x:Str,cf (.tup [.str x,(iD k)]) 1=some (iD k):=fun _=>rfl
 have ll:∀ x:Str,eU (.tup [.str x,(iD k)])=some 2:=fun _=>rfl
 unfold wN Iy
 cases b with
 | true=>
  show bT _ _ [.tup [.str "begin",(iD k)],_]=(b9 (decide (k<C.B.length)))
  simp[-Int.ofNat_eq_natCast,mi,ll,l2,s0,s1,g1,n1,Kp]
 | false=>
  show bT _ _ [.tup [.str "way",(iD k)],_]=(b9 (decide (k<C.W.length)))
  simp[-Int.ofNat_eq_natCast,mi,ll,l2,s0,s1,g2,n1,Kp]
theorem y87(s:Sn):qF [cG n C,aF s]=(b9 (Dk C s)):=by
 have h:=z4v (C:=C) s
 unfold qF Iz
 have e1:qe 0 2 [(c9 n C),some (aF s,9)]=some (Int.ofNat C.B.length):=by
  show some (Int.ofNat (C.B.map eO).length)=_
  rw[Qc]
 have kQ:qe 0 1 [(c9 n C),some (aF s,9)]=some (Int.ofNat C.W.length):=by
  show some (Int.ofNat (C.W.map (bN n)).length)=_
  rw[Qc]
 have ed:vy "begin" "way" (qe 0 2) (qe 0 1) [(c9 n C),some (aF s,9)]=some (.gH ["begin","way"] [(iD C.B.length),(iD C.W.length)],9,[(c9 n C),some (aF s,9)]):=by
  unfold vy
  rw[e1,kQ]
 exact eA (jF (gL (ku (f:=aa 1) (d:=aF s) (q:=9) (ρ:=[(c9 n C),some (aF s,9)]) (ρ1:=[(c9 n C),some (aF s,9)]) rfl (fW ed)) rfl h))
theorem z14{s:Sn}(hs:okN C s):qF [cG n C,aF s]=(b9 true):=by rw[y87,z83.mpr hs]
theorem x9m{l:List Sn}(hl:∀ s∈l,okN C s)(hlen:l.length<=1000):wO [cG n C,.lst (l.map aF)]=some (.bo,9):=by
 have hit:cW (aa 1) [(c9 n C),some (.lst (l.map aF),0)]=some (l.map aF,[(c9 n C),some (.lst (l.map aF),0)]):=by simp[hlen]
 have e:=z63 (i:=2) (te:=aL qF 2 (ab (aa 0) (ab (aa 2) ag))) (ρ:=[(c9 n C),some (.lst (l.map aF),0)]) rfl hit (fun _=>true) (fun _=>9) (fun d hd=>by
  obtain⟨s,hs,rfl⟩:=Qr.mp hd
  simp[z14 (n:=n) (hl s hs)])
 have ea:(l.map aF).all (fun _=>true)=true:=by simp
 rw[ea]at e
 unfold wO IA
 show(match dZ _ _ _ [(c9 n C),some (.lst (l.map aF),0)]with|some (.rt d q)=>some (d,q)|some (.nx _)=>some (D.bo,9)|_=>none)=_
 have ei:dZ (ls (iT (eB tZ (ab (dN 1 (cW (aa 1)) (aC 2) da (aL qF 2 (ab (aa 0) (ab (aa 2) ag))) false) ag)))) BB fJ [(c9 n C),some (.lst (l.map aF),0)]=some (.nx [(c9 n C),some (.lst (l.map aF),0)]):=by
  refine(mJ ?_).trans rfl
  unfold ls iT
  rw[e]
  rfl
 rw[ei]
theorem z5v:(pj C).length=C.B.length+C.W.length:=by simp[pj]
theorem y6w(hB:C.B.length<=60)(hW:C.W.length<=60):wX [cG n C]=some (.lst ((pj C).map aF),1):=by
 unfold wX IJ
 refine eA ?_
 show aG _ _ [(c9 n C),none]=_
 have c1:cf (cG n C) 1=some (.tup (C.W.map (bN n))):=rfl
 have c2:cf (cG n C) 2=some (.tup (C.B.map eO)):=rfl
 have lB:eU (.tup (C.B.map eO))=some C.B.length:=by simp[eU]
 have lW:eU (.tup (C.W.map (bN n)))=some C.W.length:=by simp[eU]
 have h1:=ie (k:=1) (tt:=da) (te:=dS (ab (eC (.str "begin")) (ab (aa 2) ag))) (deep:=false) (mV (m:=C.B.length) (by omega) (fe:=eB nE (ab (aw 0 (eC (.int 2))) ag)) (ρ:=[(c9 n C),none]) (ρ':=[(c9 n C),none]) (q:=9) (by simp[-Int.ofNat_eq_natCast,c2,lB])) (oU (i:=2) rfl (fun _=>true) (fun k=>aF (true,k)) (fun _=>9) (fun k hk=>rfl) (fun k hk _=>by simp[-Int.ofNat_eq_natCast,aF]))
 rw[show(List.range C.B.length).filter (fun _=>true)=List.range C.B.length by simp]at h1
 refine(aU (ρ1:=[(c9 n C),some (.lst ((List.range C.B.length).map fun k=>aF (true,k)),1)]) (ig h1 rfl)).trans ?_
 have h2:=ie (k:=1) (tt:=da) (te:=dS (ab (eC (.str "way")) (ab (aa 2) ag))) (deep:=false) (mV (m:=C.W.length) (by omega) (fe:=eB nE (ab (aw 0 (eC (.int 1))) ag)) (ρ:=[(c9 n C),some (.lst ((List.range C.B.length).map fun k=>aF (true,k)),0)]) (ρ':=[(c9 n C),some (.lst ((List.range C.B.length).map fun k=>aF (true,k)),0)]) (q:=9) (by simp[-Int.ofNat_eq_natCast,c1,lW])) (oU (i:=2) rfl (fun _=>true) (fun k=>aF (false,k)) (fun _=>9) (fun k hk=>rfl) (fun k hk _=>by simp[-Int.ofNat_eq_natCast,aF]))
 rw[show(List.range C.W.length).filter (fun _=>true)=List.range C.W.length by simp]at h2
 have ea:(pj C).map aF=((List.range C.B.length).map fun k=>aF (true,k))++((List.range C.W.length).map fun k=>aF (false,k)):=by
  unfold pj
  rw[Q3,Zb,Zb]
  rfl
 rw[ea]
 refine jF (ρ1:=[(c9 n C),some (.lst ((List.range C.B.length).map fun k=>aF (true,k)),0)]) ?_
 have v1:aa 1 [(c9 n C),some (.lst ((List.range C.B.length).map fun k=>aF (true,k)),1)]=some (.lst ((List.range C.B.length).map fun k=>aF (true,k)),0,[(c9 n C),some (.lst ((List.range C.B.length).map fun k=>aF (true,k)),0)]):=rfl
 unfold qd
 rw[v1]
 have hl:((List.range C.B.length).map fun k=>aF (true,k)).length+((List.range C.W.length).map fun k=>aF (false,k)).length<=1000:=by
  rw[Qc,Qc,QM,QM];omega
 generalize ((List.range C.B.length).map fun k=>aF (true,k))=x at *
 generalize ((List.range C.W.length).map fun k=>aF (false,k))=y at *
 rw[Qk (by decide)]at h2
 simp only[h2,Qj hl]
end
section
variable {n:Nat}{f:Nat->Nat->Nat}(L:aV n f){z:Nat}(hz:z<n)(bz:∀ j,j<n->f z j=j){C:cF}(hC:C.Ok n f)
def lG (p z:Nat):List Nat:=List.replicate p z
theorem j4g(hz:z<n):Vn n p (lG p z):=⟨by simp[lG],fun x hx=>by rw[(List.mem_replicate.mp hx).2];exact hz⟩
theorem j0i(hi:i<p):gv (lG p z) i=z:=by unfold gv lG;simp[hi]
theorem Kq(bz:∀ j,j<n->f z j=j)(hv:Vn n p v):dI f p (lG p z) v:=fun i hi=>by rw[j0i hi];exact bz _ (hv.gv hi)
include L hz bz hC
theorem z4e:wV [aT n f,cG n C]=(v9 (lG C.p z)):=by
 have hn:n<=1000:=QL L.hi (by decide)
 have k7:=hC.p8
 have c0:cf (cG n C) 0=some (iD C.p):=rfl
 have hl:=C9 L hz bz hn
 unfold wV IG
 have e:(List.replicate C.p [(iD z)]).flatten=ak (lG C.p z):=by
  simp[ak,lG,Jn]
 have b1:(-1000:Int)<=Int.ofNat C.p:=by show(-1000:Int)<=(C.p:Int);omega
 have b2:Int.ofNat C.p<=1000:=by show(C.p:Int)<=1000;omega
 have b3:(Int.ofNat C.p).toNat=C.p:=rfl
 have b4:C.p<=1000:=by omega
 simp[-Int.ofNat_eq_natCast,-List.flatten_replicate_singleton,hl,c0,b1,b2,b3,b4,e]
theorem y77{l:List Sn}(hl:∀ s∈l,okN C s)(hlen:l.length<=1000) :
  ∃ (u:List Nat) (R:List Sn),mW n f C.p (l.map (bH C)) (lG C.p z) u/\(∀ s∈R,s∈l)/\(R.map (bH C)).foldl (bb f) (lG C.p z)=u/\aV.mu n f u+R.length<=aV.mu n f (lG C.p z)/\wW [aT n f,cG n C,.lst (l.map aF)]=some (.tup [.tup (ak u),(iD R.length)],9):=by
 obtain⟨u,R,h1,h2,h3,h4,e⟩:=z73 L hC (j4g (p:=C.p) hz) hl hlen
 refine⟨u,R,h1,h2,h3,h4,?_⟩
 have r0:=x9m (n:=n) hl hlen
 have r1:=z4e L hz bz hC
 have a0:cf (.tup [.tup (ak u),.lst (R.map aF)]) 0=some (.tup (ak u)):=rfl
 have a1:cf (.tup [.tup (ak u),.lst (R.map aF)]) 1=some (.lst (R.map aF)):=rfl
 have a2:eU (.lst (R.map aF))=some R.length:=by simp[eU]
 unfold wW IH
 simp[-Int.ofNat_eq_natCast,r0,r1,e,a0,a1,a2]
theorem y72:∃ u,mW n f C.p (fj C) (lG C.p z) u/\wY [aT n f,cG n C]=(v9 u):=by
 have hB:=hC.zD
 have hW:=hC.xb
 obtain⟨u,R,h1,h2,h3,h4,e⟩:=y77 L hz bz hC (j2e C) (by rw[z5v];omega)
 rw[z7o]at h1
 refine⟨u,h1,?_⟩
 have r0:=y6w (n:=n) hB hW
 have a0:cf (.tup [.tup (ak u),(iD R.length)]) 0=some (.tup (ak u)):=rfl
 unfold wY IM
 simp[-Int.ofNat_eq_natCast,r0,e,a0]
end
def leB (f:Nat->Nat->Nat)(p:Nat)(u v:List Nat):Bool:=(List.range p).all fun i=>decide (f (gv u i) (gv v i)=gv v i)
theorem j2d{u:List Nat}:leB f p u v=true ↔ dI f p u v:=by
 unfold leB dI
 rw[L3.range_all]
 simp
section
variable {n:Nat}{f:Nat->Nat->Nat}{p:Nat}{u v:List Nat}(hp:p<=1000)(hu:Vn n p u)(hv:Vn n p v)
include hp hu hv
theorem y2w:w9 [aT n f,.tup (ak u),.tup (ak v)]=(b9 (leB f p u v)):=by
 unfold w9 IU
 have hl:eU (.tup (ak u))=some p:=by simp[eU,fC,hu.len]
 have hc:=ie (k:=1) (tt:=bB (e2 di (cL (aw 0 (aw 1 (aa 3))) (aw 2 (aa 3))) (aw 2 (aa 3)))) (te:=aa 3) (deep:=false) (k5 hp (i:=1) (ρ:=[(t9 n f),(v9 u),(v9 v)]) rfl hl) (oU (i:=3) rfl (fun j=>!decide (f (gv u j) (gv v j)=gv v j)) (fun j=>(iD j)) (fun _=>9) (fun j hj=>by
  have a1:=uf (v:=u) (i:=j) (by rw[hu.len];exact hj)
  have a2:=uf (v:=v) (i:=j) (by rw[hv.len];exact hj)
  simp[-Int.ofNat_eq_natCast,a1,a2,ky (f:=f) (hu.gv hj),kW (f:=f) (i:=gv u j) (hv.gv hj),wm]) (fun j hj _=>by simp[-Int.ofNat_eq_natCast]))
 have e':(((List.range p).filter fun j=>!decide (f (gv u j) (gv v j)=gv v j)).map fun j=>(iD j))=ak ((List.range p).filter fun j=>!decide (f (gv u j) (gv v j)=gv v j)):=rfl
 rw[e']at hc
 have hq:cS (.lst (ak ((List.range p).filter fun j=>!decide (f (gv u j) (gv v j)=gv v j)))) (.lst [])=some (.bl (leB f p u v)):=by
  unfold leB
  rw[<- Wc]
  exact Hh _ []
 exact eA (jF (iZ hc (rfl:c_ ag _=some (.lst [],1,_)) hq))
end
theorem uA{α:Type}{k:Nat}{pt:eT}{tt:cO}(enc:α->D)(ext:α->aQ)(b:α->Bool)(v:α->D)(q:α->Nat):∀ l:List α,
  (∀ x∈l,pt (enc x) (ρ++List.replicate k none)=some (ρ++ext x)/\tt (ρ++ext x)=some (b x,ρ++ext x)/\(b x=true->te (ρ++ext x)=some (v x,q x,ρ++ext x)))->jy k pt tt te false (l.map enc) ρ=some ((l.filter b).map v,ρ)
 | [],_=>rfl
 | x::l,h=>by
  obtain⟨h1,h2,h3⟩:=h x Qh
  have ih:=uA enc ext b v q l (fun y m=>h y (Qg _ m))
  have ht:(ρ++ext x).take ρ.length=ρ:=by simp
  rw[QG]
  unfold jy
  rw[h1]
  simp only[h2]
  cases hb:b x with
  | true=>
   simp only[Zz,h3 hb,ht,ih]
   rw[Zs hb]
   simp
  | false=>
   simp only[ht,ih]
   rw[ZH (by rw[hb];simp)]
   simp
theorem z5a{x:D×Nat}(h:ρ[i]? = some (some x)):ρ.set i (some x)=ρ:=by
 apply Zt
 intro k
 by_cases hk:i=k
 ·subst hk
  rw[h,QT (Qy.mp h).1]
 ·rw[QX hk]
theorem Dl(h:ρ[i]? = some (some (.lst ds,q))):aa i ρ=some (.lst ds,0,ρ.set i (some (.lst ds,0))):=by
 unfold aa
 rw[h]
 by_cases hq:q=0
 ·subst hq
  rw[z5a h]
  rfl
 ·simp[hq]
theorem Kr(e:g ρ=some (false,ρ1)):ny g h ρ=h ρ1:=by unfold ny;rw[e];rfl
theorem Ks(e:g ρ=some (b,ρ1)):ls g ρ=some (!b,ρ1):=by unfold ls;rw[e]
theorem Kt{f:aA}(h:f ρ=some (.bl b,q,ρ1)):iT f ρ=some (b,ρ1):=by unfold iT;rw[h];cases b<;>rfl
theorem z7q(h:ρ[i]? = some (some (d,q)))(hl:eU d=some n):bZ i ρ=some ((iD n),9,ρ):=by unfold bZ;rw[h];simp only[hl]
theorem uB{b:aA}{k:Int}(hb:b ρ=some (.int k,q',ρ))(h:ρ[i]? = some (some (x,q)))(ha:cf x k=some d)(hd:d.cJ=false):aw i b ρ=some (d,9,ρ):=by
 unfold aw
 rw[h]
 simp only[hb,h,ha,hd,fy]
 simp
theorem zE{a b:aA}{k:Int}(h:a ρ=some (x,q,ρ1))(hb:b ρ1=some (.int k,q',ρ2))(ha:cf x k=some d)(hx:x.cJ=false)(hd:d.cJ=false):cL a b ρ=some (d,9,ρ2):=by
 unfold cL
 rw[h]
 simp only[hb,ha,hd,hx,fy]
 simp
theorem j6u{f:aA}{y:D}(h:f ρ=some (.tup [x,y],q,ρ1))(e:(ρ1.set i (some (x,fy x))).set j (some (y,fy y))=ρ2)(hi:i<ρ1.length)(hj:j<ρ1.length):vw f (jc (cE (aC i) (cE (aC j) iH))) ρ=some (.nx ρ2):=by
 subst e
 unfold vw
 rw[h]
 simp[hi,hj]
theorem Ku{α:Type}[DecidableEq α]:∀ {l m:List α},l.Nodup->(∀ x∈l,x∈m)->l.length<=m.length
 | [],m,_,_=>QS _
 | a::l,m,nd,h=>by
  have ha:=h a Qh
  obtain⟨n1,n2⟩:=Q7.mp nd
  have ih:=Ku (l:=l) (m:=m.erase a) n2 fun x hx=>(YE (fun z=>n1 (by rw[<- z];exact hx))).mpr (h x (Qg _ hx))
  have:=JY ha
  have:=Yk ha
  rw[QO]
  omega
section
variable {α β γ:Type}[DecidableEq α][DecidableEq γ](enc:γ->α)(inj:∀ a b,enc a=enc b->a=b)
include inj
theorem zG(v:γ->β){k:γ}:∀ {ks:List γ},k∈ks->vL (ks.map enc) (ks.map v) (enc k)=some (v k)
 | [],h=>(QI h).elim
 | x::ks,h=>by
  simp only[QG,vL]
  by_cases hx:x=k
  ·subst hx;simp
  ·rw[Qk fun z=>hx (inj _ _ z)]
   exact zG v ((Qw.mp h).resolve_left fun z=>hx z.symm)
theorem Dm(v:γ->β){k:γ}:∀ {ks:List γ},k ∉ ks->vL (ks.map enc) (ks.map v) (enc k)=none
 | [],h=>by simp[vL]
 | x::ks,h=>by
  simp only[QG,vL]
  rw[Qk fun z=>h (by rw[inj _ _ z];exact Qh)]
  exact Dm v fun z=>h (Qg _ z)
theorem Dp{k:γ}{ks:List γ}:ko (ks.map enc) (enc k)=true ↔ k∈ks:=by
 unfold ko
 rw[List.any_eq_true]
 exact⟨fun⟨x,hx,e⟩=>by
  obtain⟨y,hy,rfl⟩:=Qr.mp hx
  rw[<- inj _ _ (QV e)]
  exact hy,fun h=>⟨enc k,YX h,QA rfl⟩⟩
theorem Kv(v:γ->β)(k:γ)(e:β):∀ ks:List γ,iY (ks.map enc) (ks.map v) (enc k) e=ks.map fun a=>if a=k then e else v a
 | []=>by simp[iY]
 | x::ks=>by
  simp only[QG,iY]
  rw[Kv v k e ks]
  by_cases h:x=k
  ·subst h;simp
  ·have h':¬ enc x=enc k:=fun z=>h (inj _ _ z)
   rw[Qk h',Qk h]
end
theorem pq(a b:Nat×Nat)(h:bA a=bA b):a=b:=by
 have h1:Int.ofNat a.1=Int.ofNat b.1:=by injection h with e1 e2;injection e1
 have h2:Int.ofNat a.2=Int.ofNat b.2:=by injection h with e1 e2;injection e2 with e3 e4;injection e3
 exact VW (V8 h1) (V8 h2)
theorem z5i{fv:aA}{k k':MK}{ck:List D}(hv:fv ρ=some (d,q,ρ1))(h1:dw ρ1[i]? = true)(hk:fk ρ1=some (x,q',ρ2))(h2:ρ2[i]? = some (some (.mp k ds,1)))(dM:ds.length<1000)(hp:v5 k ds x d=some (k',ck)) :
  v7 i fk fv ρ=some (.nx (ρ2.set i (some (.mp k' ck,1)))):=by
 unfold v7
 rw[hv]
 simp only[h1,Zz,hk,h2,dM,hp]
theorem j0u{k:MK}(h1:dw ρ[i]? = true)(hk:fk ρ=some (x,q,ρ1))(h2:ρ1[i]? = some (some (.mp k ds,q2)))(hg:se k ds x=some (some d)) :
  uc i fk ρ=some (d,fy d,ρ1):=by
 unfold uc
 rw[Qj h1,hk]
 simp only[h2,hg]
theorem xf{g:cy}(h:g ρ=some (ds,ρ1))(hl:ds.length<=1000):dS g ρ=some (.tup ds,9,ρ1):=by
 unfold dS
 rw[h]
 exact Qj hl
theorem j0r(kp:List (Nat×Nat)):∀ i j,i<=j->j<(dH kp).length->rk ((dH kp).getD i (0,0))<=rk ((dH kp).getD j (0,0)):=fun i j rF hj=>by
 have up:=Yb (le:=fun a b:Nat×Nat=>decide (rk a<=rk b)) (fun a b c h1 h2=>QA (VJ (QV h1) (QV h2))) (fun a b=>by
  rcases Ue (rk a) (rk b)with h|h
  ·rw[QA h];rfl
  ·rw[QA h,Uf]) kp
 rcases Nat.lt_or_eq_of_le rF with h|h
 ·have:=Jd.mp up i j (Z8 rF hj) hj h
  rw[Qf,Qf,Qb (Z8 rF hj),Qb hj]
  exact QV this
 ·rw[h];exact YF _
abbrev fm:=Bool×Nat
def cY (s:fm):D:=.tup [.str (if s.1 then "begin" else "place"),(iD s.2)]
def nU (C:cF)(s:fm):Prop:=s.2<(if s.1 then C.B.length else C.p)
def atS (C:cF)(z:Nat)(s:fm):Nat×Nat:=if s.1 then C.B.getD s.2 (0,0)else(s.2,z)
def g8 (C:cF):List fm:=(List.range C.p).map (fun k=>(false,k))++(List.range C.B.length).map (fun k=>(true,k))
theorem Dq{C:cF}{s:fm}:s∈g8 C ↔ nU C s:=by
 obtain⟨b,k⟩:=s
 unfold g8 nU
 rw[Qx,Qr,Qr]
 cases b with
 | true=>
  refine⟨fun h=>h.elim (fun⟨_,_,e⟩=>by cases e) fun⟨k',hk,e⟩=>by cases e;exact Qz.mp hk,fun h=>.inr ⟨k,Qz.mpr h,rfl⟩⟩
 | false=>
  refine⟨fun h=>h.elim (fun⟨k',hk,e⟩=>by cases e;exact Qz.mp hk) (fun⟨_,_,e⟩=>by cases e),fun h=>.inl ⟨k,Qz.mpr h,rfl⟩⟩
abbrev jH (C:cF)(j:Nat):Nat×Nat×(Nat->Nat):=C.W.getD j (0,0,id)
def dA (C:cF)(k:Nat×Nat)(j:Nat):Nat×Nat:=((jH C j).2.1,(jH C j).2.2 k.2)
def dX (C:cF)(a:Nat):List Nat:=(C.W.zipIdx.filter fun x=>decide (x.1.1=a)).map (·.2)
theorem sN{C:cF}:j∈dX C a ↔ j<C.W.length/\(jH C j).1=a:=by
 unfold dX
 rw[Qr]
 constructor
 ·rintro ⟨x,hx,rfl⟩
  obtain⟨h1,h2⟩:=ZW.mp hx
  obtain⟨y,i⟩:=x
  have h3:=YT.mp h1
  have hi:=(Qy.mp h3).1
  refine⟨hi,?_⟩
  show(C.W.getD i (0,0,id)).1=a
  rw[Qf,h3]
  exact QV h2
 ·rintro ⟨h1,h2⟩
  refine⟨(jH C j,j),ZW.mpr ⟨YT.mpr ?_,QA h2⟩,rfl⟩
  show C.W[j]? = some (C.W.getD j (0,0,id))
  rw[Qf,Qb h1]
  rfl
theorem z4r(C:cF)(a:Nat):(dX C a).length<=C.W.length:=by
 unfold dX
 rw[Qc]
 refine QL (Zx _ _) ?_
 rw[Y9]
 exact Qi _
def bD (x:fm×List Nat):D:=.tup [cY x.1,.lst (ak x.2)]
@[simp] theorem j4w{x:fm×List Nat}:(bD x).cJ=false:=rfl
@[simp] theorem j7y{k:Nat×Nat}:(ao k).cJ=false:=rfl
@[simp] theorem j79{s:fm}:(cY s).cJ=false:=rfl
theorem j4y(s:fm):Sh 1 (cY s):=by
 obtain⟨b,k⟩:=s
 have h1:Sh 0 (.str (if b=true then "begin" else "place")):=by
  cases b with
  | true=>exact⟨by decide +kernel,QS _⟩
  | false=>exact⟨by decide +kernel,QS _⟩
 exact .tup fun d hd=>by
  rcases Qw.mp hd with rfl|hd
  ·exact h1
  ·rw[Qq.mp hd];exact .int _
theorem j07(x:fm×List Nat):Sh 2 (bD x):=.tup fun d hd=>by
 rcases Qw.mp hd with h|hd
 ·rw[h];exact j4y _
 ·rw[Qq.mp hd];exact wg _
theorem z3h(ks:List (Nat×Nat))(P:Nat×Nat->fm×List Nat):kg (ks.map fun k=>bD (P k))=true:=zg fun d hd=>by
 obtain⟨k,_,rfl⟩:=Qr.mp hd
 exact(j07 _).1
def aY (ks:List (Nat×Nat))(P:Nat×Nat->fm×List Nat):D:=.mp (.t (ks.map bA)) (ks.map fun k=>bD (P k))
theorem Dr{C:cF}:kZ f (fj C) v ↔ (∀ b∈C.B,f b.2 (gv v b.1)=gv v b.1)/\∀ w∈C.W,f (w.2.2 (gv v w.1)) (gv v w.2.1)=gv v w.2.1:=by
 constructor
 ·intro h
  exact⟨fun b hb=>h (k6 b) (Qu _ (YX hb)),fun w hw=>h (ph w) (Qo _ (YX hw))⟩
 ·rintro ⟨h1,h2⟩ s hs
  rcases Qx.mp hs with h|h
  ·obtain⟨b,hb,rfl⟩:=Qr.mp h
   exact h1 b hb
  ·obtain⟨w,hw,rfl⟩:=Qr.mp h
   exact h2 w hw
def RS (C:cF)(z:Nat):Nat->Nat×Nat->Prop
 | 0,k=>∃ s,nU C s/\atS C z s=k
 | m+1,k=>∃ k',RS C z m k'/\∃ j,j<C.W.length/\(jH C j).1=k'.1/\dA C k' j=k
def Wk (C:cF):Nat×Nat->List Nat->Nat×Nat->Prop
 | k,[],k'=>k=k'
 | k,j::ws,k'=>j<C.W.length/\(jH C j).1=k.1/\Wk C (dA C k j) ws k'
theorem Wk.snoc{C:cF}{k':Nat×Nat}:∀ {ws:List Nat} {k:Nat×Nat},Wk C k ws k'->j<C.W.length->(jH C j).1=k'.1->Wk C k (ws++[j]) (dA C k' j)
 | [],k,h,h1,h2=>by
  have h:k=k':=h
  subst h
  exact⟨h1,h2,rfl⟩
 | i::ws,k,h,h1,h2=>⟨h.1,h.2.1,Wk.snoc h.2.2 h1 h2⟩
structure k8 (C:cF) (z m:Nat) (ks:List (Nat×Nat)) (P:Nat×Nat->fm×List Nat) (nw:List (Nat×Nat)):Prop where
 nd:ks.Nodup
 nn:nw.Nodup
 i1:∀ k∈ks,∃ j,j<=m/\RS C z j k/\(∀ i,i<j->¬ RS C z i k)/\nU C (P k).1/\Wk C (atS C z (P k).1) (P k).2 k/\(P k).2.length=j
 i2:∀ j k,j<=m->RS C z j k->k∈ks
 i3:∀ k,k∈nw ↔ RS C z m k/\∀ i,i<m->¬ RS C z i k
 ml:m+(if nw=[]then 0 else 1)<=ks.length
theorem k8.sub{C:cF}{P:Nat×Nat->fm×List Nat}(b:k8 C z m ks P nw):∀ k∈nw,k∈ks:=fun k hk=>b.i2 m k (Qi m) ((b.i3 k).mp hk).1
theorem k8.end{C:cF}{P:Nat×Nat->fm×List Nat}(b:k8 C z m ks P []):∀ j k,RS C z j k->k∈ks:=by
 have low:∀ k∈ks,∃ j,j<m/\RS C z j k:=fun k hk=>by
  obtain⟨j,h1,h2,h3,_⟩:=b.i1 k hk
  refine⟨j,Nat.lt_of_le_of_ne h1 fun e=>?_,h2⟩
  subst e
  exact absurd ((b.i3 k).mpr ⟨h2,h3⟩) (by simp)
 intro j
 induction j with
 | zero=>exact fun k h=>b.i2 0 k (QS _) h
 | succ j ih=>
  rintro k ⟨k',h1,h2⟩
  obtain⟨i,hi,hr⟩:=low k' (ih k' h1)
  exact b.i2 (i+1) k hi ⟨k',hr,h2⟩
theorem k8.next{C:cF}{L:List (Nat×Nat)}{P PL:Nat×Nat->fm×List Nat}(b:k8 C z m ks P nw)(cC:nw ≠ [])(nL:L.Nodup)(hL:∀ k,k∈L ↔ k ∉ ks/\∃ st∈nw,∃ j∈dX C st.1,dA C st j=k)(hP:∀ k∈L,∃ st∈nw,∃ j∈dX C st.1,dA C st j=k/\PL k=((P st).1,(P st).2++[j])) :
  k8 C z (m+1) (ks++L) (fun k=>if k∈L then PL k else P k) L:=by
 have key:∀ k,k∈L ↔ RS C z (m+1) k/\∀ i,i<m+1->¬ RS C z i k:=fun k=>by
  rw[hL]
  constructor
  ·rintro ⟨h1,st,h2,j,h3,rfl⟩
   obtain⟨h4,h5⟩:=sN.mp h3
   exact⟨⟨st,((b.i3 st).mp h2).1,j,h4,h5,rfl⟩,fun i hi h=>h1 (b.i2 i _ (by omega) h)⟩
  ·rintro ⟨⟨k',h1,j,h2,h3,rfl⟩,h4⟩
   refine⟨fun h=>?_,k',(b.i3 k').mpr ⟨h1,fun i hi h=>h4 (i+1) (by omega) ⟨k',h,j,h2,h3,rfl⟩⟩,j,sN.mpr ⟨h2,h3⟩,rfl⟩
   obtain⟨i,hi,hr,_⟩:=b.i1 _ h
   exact h4 i (by omega) hr
 refine⟨Jl.mpr ⟨b.nd,nL,fun x hx y hy e=>((hL y).mp hy).1 (by rw[<- e];exact hx)⟩,nL,fun k hk=>?_,fun j k hj h=>?_,key,?_⟩
 ·by_cases xg:k∈L
  ·obtain⟨st,h1,j,h2,e,hPL⟩:=hP k xg
   obtain⟨r1,r2⟩:=(key k).mp xg
   obtain⟨i,q1,q2,q3,q4,q5,q6⟩:=b.i1 st (b.sub st h1)
   have him:i=m:=by
    refine YM q1 (VG.mp fun z=>?_)
    exact((b.i3 st).mp h1).2 i z q2
   obtain⟨f1,f2⟩:=sN.mp h2
   refine⟨m+1,Qi _,r1,r2,?_⟩
   show nU C (if k∈L then PL k else P k).1/\Wk C (atS C z (if k∈L then PL k else P k).1) (if k∈L then PL k else P k).2 k/\(if k∈L then PL k else P k).2.length=m+1
   rw[Qj xg,hPL]
   refine⟨q4,?_,?_⟩
   ·rw[<- e]
    exact q5.snoc f1 f2
   ·show((P st).2++[j]).length=m+1
    rw[Qn,q6,him]
    rfl
  ·have hks:k∈ks:=(Qx.mp hk).resolve_right xg
   obtain⟨j,h1,h2⟩:=b.i1 k hks
   refine⟨j,by omega,?_⟩
   show _/\_/\nU C (if k∈L then PL k else P k).1/\Wk C (atS C z (if k∈L then PL k else P k).1) (if k∈L then PL k else P k).2 k/\(if k∈L then PL k else P k).2.length=j
   rw[Qk xg]
   exact h2
 ·by_cases hjm:j<=m
  ·exact Qu _ (b.i2 j k hjm h)
  ·have:j=m+1:=by omega
   subst this
   by_cases hk:k∈ks
   ·exact Qu _ hk
   ·exact Qo _ ((key k).mpr ⟨h,fun i hi hr=>hk (b.i2 i k (by omega) hr)⟩)
 ·have:=b.ml
  rw[Qk cC]at this
  rw[Qn]
  by_cases Ds:L=[]
  ·rw[Qj Ds];omega
  ·rw[Qk Ds]
   have:=Z1.mpr Ds
   omega
section
variable {n:Nat}{f:Nat->Nat->Nat}(L:aV n f){z:Nat}(hz:z<n)(bz:∀ j,j<n->f z j=j){C:cF}(hC:C.Ok n f)
theorem Dt{C:cF}(hj:j<C.W.length):jH C j∈C.W:=by
 unfold jH
 rw[Qf,Qb hj]
 exact QR hj
include L hz bz hC
theorem Kw{s:fm}(h:nU C s):(atS C z s).1<C.p/\(atS C z s).2<n:=by
 obtain⟨b,k⟩:=s
 cases b with
 | true=>
  have hk:k<C.B.length:=h
  have:C.B.getD k (0,0)∈C.B:=by
   rw[Qf,Qb hk]
   exact QR hk
  exact hC.bs _ this
 | false=>exact⟨h,hz⟩
theorem Kx{k:Nat×Nat}(hk:k.2<n)(hj:j<C.W.length):(dA C k j).1<C.p/\(dA C k j).2<n:=by
 have:=hC.ws _ (Dt hj)
 exact⟨this.2.1,this.2.2.1 _ hk⟩
theorem k9:∀ {m:Nat} {k:Nat×Nat},RS C z m k->k.1<C.p/\k.2<n
 | 0,k,⟨s,h1,h2⟩=>by rw[<- h2];exact Kw L hz bz hC h1
 | m+1,k,⟨k',h1,j,h2,h3,h4⟩=>by rw[<- h4];exact Kx L hz bz hC (k9 h1).2 h2
omit L hz bz hC in
theorem qJ{p n:Nat}(nd:ks.Nodup)(h:∀ k∈ks,k.1<p/\k.2<n):ks.length<=p*n:=by
 have h1:(ks.map fun k=>k.1*n+k.2).Nodup:=by
  refine List.Pairwise.map _ (fun a b mq=>mq) ((List.Pairwise.and_mem.mp nd).imp fun {a b} hh=>?_)
  obtain⟨ha,hb,cC⟩:=hh
  intro e
  have a2:=(h a ha).2
  have b2:=(h b hb).2
  have e:a.1*n+a.2=b.1*n+b.2:=e
  have e1:a.1=b.1:=by
   have x1:(a.1*n+a.2) / n=a.1:=by rw[YY,Nat.mul_add_div (by omega),Vz a2];omega
   have x2:(b.1*n+b.2) / n=b.1:=by rw[YY,Nat.mul_add_div (by omega),Vz b2];omega
   rw[<- x1,e,x2]
  rw[e1]at e
  exact cC (VW e1 (by omega))
 have:=Ku (m:=List.range (p*n)) h1 fun x hx=>by
  obtain⟨k,hk,rfl⟩:=Qr.mp hx
  obtain⟨a,b⟩:=h k hk
  refine Qz.mpr ?_
  calc k.1*n+k.2<k.1*n+n:=by omega
   _=(k.1+1)*n:=by rw[V9]
   _<=p*n:=Nat.mul_le_mul_right n a
 rw[Qc,QM]at this
 exact this
end
theorem z6c:cS (.str "place") (.str "place")=some (.bl true):=by
 have h:eK (.str "place")=true:=by decide +kernel
 unfold cS
 rw[Qj ⟨h,h⟩]
 rfl
theorem j43:cS (.str "begin") (.str "place")=some (.bl false):=by
 have h:eK (.str "begin")=true:=by decide +kernel
 have h':eK (.str "place")=true:=by decide +kernel
 have e:me (.str "begin") (.str "place")=false:=by decide +kernel
 unfold cS
 rw[Qj ⟨h,h'⟩,e]
section
variable {n:Nat}{f:Nat->Nat->Nat}(L:aV n f){z:Nat}(hz:z<n)(bz:∀ j,j<n->f z j=j){C:cF}(hC:C.Ok n f)
include hC
theorem y6q(a:Nat):sG [cG n C,(iD a)]=(uL (dX C a)):=by
 have hw:=hC.xb
 unfold sG HY
 refine eA (jF (ρ1:=[(c9 n C),(i9 a)]) ?_)
 have hi:vD (ab (aw 0 (eC (.int 1))) ag) [(c9 n C),(i9 a)]=some (C.W.zipIdx.map fun x=>.tup [(iD x.2),bN n x.1],[(c9 n C),(i9 a)]):=by
  have h0:ab (aw 0 (eC (.int 1))) ag [(c9 n C),(i9 a)]=some ([.tup (C.W.map (bN n))],[(c9 n C),(i9 a)]):=rfl
  unfold vD
  rw[h0]
  show(if(C.W.map (bN n)).length<=1000 then some (mn (C.W.map (bN n)),_)else none)=_
  rw[Qj (by rw[Qc];omega)]
  unfold mn
  rw[List.zipIdx_map,Zb]
  rfl
 have hc:=ie (k:=2) (pt:=jc (cE (aC 2) (cE (aC 3) iH))) (tt:=bB (e2 cS (aw 3 (eC (.int 0))) (aa 1))) (te:=aa 2) (deep:=false) hi (uA (k:=2) (fun x:(Nat×Nat×(Nat->Nat))×Nat=>.tup [(iD x.2),bN n x.1]) (fun x=>[(i9 x.2),some (bN n x.1,9)]) (fun x=>decide (x.1.1=a)) (fun x=>(iD x.2)) (fun _=>9) C.W.zipIdx (fun x hx=>by
  refine⟨rfl,?_,fun _=>rfl⟩
  exact iJ (iZ (fa:=aw 3 (eC (.int 0))) (fb:=aa 1) (q:=9) (q':=9) rfl rfl (wj x.1.1 a))))
 refine hc.trans ?_
 unfold dX ak
 rw[Zb]
 rfl
theorem z4h{k:Nat×Nat}(hk:k.2<n)(hj:j<C.W.length):uj [cG n C,ao k,(iD j)]=(p9 (dA C k j)):=by
 have e:cf (.tup (C.W.map (bN n))) (Int.ofNat j)=some (bN n (jH C j)):=qy (by rw[Ql,Qb hj];simp[hj])
 unfold uj H9
 refine eA ?_
 refine(aU (ρ1:=[(c9 n C),(p9 k),(i9 j),some (bN n (jH C j),9)]) (ig (zE (a:=aw 0 (eC (.int 1))) (b:=aa 2) (q:=9) (q':=9) rfl rfl e rfl rfl) rfl)).trans ?_
 have e2:=nJ (r:=(jH C j).2.2) hk
 exact jF (xf (ku (f:=aw 3 (eC (.int 1))) (q:=9) rfl (fW (zE (a:=aw 3 (eC (.int 2))) (b:=aw 1 (eC (.int 1))) (q:=9) (q':=9) rfl rfl e2 rfl rfl))) (by show 2<=1000;decide))
include L hz bz
theorem z1c{s:fm}(hs:nU C s):uo [aT n f,cG n C,cY s]=(p9 (atS C z s)):=by
 have hn:n<=1000:=QL L.hi (by decide)
 obtain⟨b,k⟩:=s
 unfold uo Ii
 cases b with
 | true=>
  have hk:k<C.B.length:=hs
  have e:cf (.tup (C.B.map eO)) (Int.ofNat k)=some (eO (C.B.getD k (0,0))):=qy (by rw[Ql,Qb hk];simp[hk])
  refine eA ?_
  refine(aU (ρ1:=[(t9 n f),(c9 n C),some (cY (true,k),9)]) ((mJ (iJ (iZ (fa:=aw 2 (eC (.int 0))) (fb:=eC (.str "place")) (q:=9) (q':=9) rfl rfl j43))).trans rfl)).trans ?_
  exact jF (zE (a:=aw 1 (eC (.int 2))) (b:=aw 2 (eC (.int 1))) (q:=9) (q':=9) rfl rfl e rfl rfl)
 | false=>
  refine eA (Ct ((Cu (iJ (iZ (fa:=aw 2 (eC (.int 0))) (fb:=eC (.str "place")) (q:=9) (q':=9) rfl rfl z6c))).trans ?_))
  exact jF (xf (ku (f:=aw 2 (eC (.int 1))) (q:=9) rfl (fW (gL (ds:=[aT n f]) (fW rfl) rfl (C9 L hz bz hn)))) (by show 2<=1000;decide))
omit L hz bz in
theorem y4m:sF [cG n C]=some (.lst ((g8 C).map cY),1):=by
 have hB:=hC.zD
 have hp:=hC.p8
 unfold sF HV
 refine eA ?_
 show aG _ _ [(c9 n C),none]=_
 have c2:cf (cG n C) 2=some (.tup (C.B.map eO)):=rfl
 have lB:eU (.tup (C.B.map eO))=some C.B.length:=by simp[eU]
 have h1:=ie (k:=1) (tt:=da) (te:=dS (ab (eC (.str "place")) (ab (aa 2) ag))) (deep:=false) (mV (m:=C.p) (by omega) (fe:=aw 0 (eC (.int 0))) (ρ:=[(c9 n C),none]) (ρ':=[(c9 n C),none]) (q:=9) rfl) (oU (i:=2) rfl (fun _=>true) (fun k=>cY (false,k)) (fun _=>9) (fun k hk=>rfl) (fun k hk _=>by simp[-Int.ofNat_eq_natCast,cY]))
 rw[show(List.range C.p).filter (fun _=>true)=List.range C.p by simp]at h1
 refine(aU (ρ1:=[(c9 n C),some (.lst ((List.range C.p).map fun k=>cY (false,k)),1)]) (ig h1 rfl)).trans ?_
 have h2:=ie (k:=1) (tt:=da) (te:=dS (ab (eC (.str "begin")) (ab (aa 2) ag))) (deep:=false) (mV (m:=C.B.length) (by omega) (fe:=eB nE (ab (aw 0 (eC (.int 2))) ag)) (ρ:=[(c9 n C),some (.lst ((List.range C.p).map fun k=>cY (false,k)),0)]) (ρ':=[(c9 n C),some (.lst ((List.range C.p).map fun k=>cY (false,k)),0)]) (q:=9) (by simp[-Int.ofNat_eq_natCast,c2,lB])) (oU (i:=2) rfl (fun _=>true) (fun k=>cY (true,k)) (fun _=>9) (fun k hk=>rfl) (fun k hk _=>by simp[-Int.ofNat_eq_natCast,cY]))
 rw[show(List.range C.B.length).filter (fun _=>true)=List.range C.B.length by simp]at h2
 have ea:(g8 C).map cY=((List.range C.p).map fun k=>cY (false,k))++((List.range C.B.length).map fun k=>cY (true,k)):=by
  unfold g8
  rw[Q3,Zb,Zb]
  rfl
 rw[ea]
 refine jF (ρ1:=[(c9 n C),some (.lst ((List.range C.p).map fun k=>cY (false,k)),0)]) ?_
 have v1:aa 1 [(c9 n C),some (.lst ((List.range C.p).map fun k=>cY (false,k)),1)]=some (.lst ((List.range C.p).map fun k=>cY (false,k)),0,[(c9 n C),some (.lst ((List.range C.p).map fun k=>cY (false,k)),0)]):=rfl
 unfold qd
 rw[v1]
 have hl:((List.range C.p).map fun k=>cY (false,k)).length+((List.range C.B.length).map fun k=>cY (true,k)).length<=1000:=by
  rw[Qc,Qc,QM,QM];omega
 generalize ((List.range C.p).map fun k=>cY (false,k))=x at *
 generalize ((List.range C.B.length).map fun k=>cY (true,k))=y at *
 rw[Qk (by decide)]at h2
 simp only[h2,Qj hl]
omit L hz bz hC in
theorem j6v(ks:List (Nat×Nat))(P:Nat×Nat->fm×List Nat)(r:Nat×Nat)(x:fm×List Nat):∃ bO:List (Nat×Nat),v5 (.t (ks.map bA)) (ks.map fun k=>bD (P k)) (ao r) (bD x)=some (.t (bO.map bA),bO.map fun k=>bD (if k=r then x else P k))/\(∀ k,k∈bO ↔ k∈ks\/k=r)/\(ks.Nodup->bO.Nodup)/\bO.length<=ks.length+1:=by
 have e0:v5 (.t (ks.map bA)) (ks.map fun k=>bD (P k)) (ao r) (bD x)=some (if ko (ks.map bA) (bA r)=true then(MK.t (ks.map bA),iY (ks.map bA) (ks.map fun k=>bD (P k)) (bA r) (bD x))else(.t (ks.map bA++[bA r]),(ks.map fun k=>bD (P k))++[bD x])):=rfl
 by_cases hm:r∈ks
 ·refine⟨ks,?_,fun k=>⟨.inl,fun h=>h.elim id fun h=>by rw[h];exact hm⟩,id,Jw _⟩
  rw[e0,Qj ((Dp bA pq).mpr hm),Kv bA pq]
  congr 2
  refine Ze fun a _=>?_
  by_cases ha:a=r
  ·rw[Qj ha,Qj ha]
  ·rw[Qk ha,Qk ha]
 ·refine⟨ks++[r],?_,fun k=>by rw[Qx,Qq],fun nd=>Jl.mpr ⟨nd,by simp,fun a ha b hb e=>hm (by rw[<- Qq.mp hb,<- e];exact ha)⟩,by rw[Qn];exact Qi _⟩
  rw[e0,Qk fun q=>hm ((Dp bA pq).mp q),Q3,Q3]
  congr 3
  ·exact Ze fun a ha=>by rw[Qk fun q=>hm (by rw[<- q];exact ha)]
  ·show [bD x]=[bD (if r=r then x else P r)]
   rw[Qj rfl]
def LI (C:cF)(ks:List (Nat×Nat))(P:Nat×Nat->fm×List Nat)(T:List ((Nat×Nat)×Nat))(M:List (Nat×Nat))(PM:Nat×Nat->fm×List Nat):Prop:=
 M.Nodup/\(∀ k,k∈M ↔ k ∉ ks/\∃ x∈T,dA C x.1 x.2=k)/\∀ k∈M,∃ x∈T,dA C x.1 x.2=k/\PM k=((P x.1).1,(P x.1).2++[x.2])
omit L hz bz hC in
theorem LI.old{P PM:Nat×Nat->fm×List Nat}{x:(Nat×Nat)×Nat}(h:LI C ks P T M PM)(hx:dA C x.1 x.2∈ks):LI C ks P (T++[x]) M PM:=by
 obtain⟨h1,h2,h3⟩:=h
 refine⟨h1,fun k=>?_,fun k hk=>?_⟩
 ·rw[h2]
  refine and_congr_right fun hk=>⟨fun⟨y,hy,e⟩=>⟨y,Qu _ hy,e⟩,fun⟨y,hy,e⟩=>?_⟩
  rcases Qx.mp hy with q|q
  ·exact⟨y,q,e⟩
  ·rw[Qq.mp q]at e
   exact absurd (by rw[<- e];exact hx) hk
 ·obtain⟨y,hy,e⟩:=h3 k hk
  exact⟨y,Qu _ hy,e⟩
omit L hz bz hC in
theorem LI.new{M':List (Nat×Nat)}{P PM:Nat×Nat->fm×List Nat}{x:(Nat×Nat)×Nat}(h:LI C ks P T M PM)(hx:dA C x.1 x.2 ∉ ks)(h1:∀ k,k∈M' ↔ k∈M\/k=dA C x.1 x.2)(h2:M.Nodup->M'.Nodup) :
  LI C ks P (T++[x]) M' (fun k=>if k=dA C x.1 x.2 then((P x.1).1,(P x.1).2++[x.2])else PM k):=by
 obtain⟨a1,a2,a3⟩:=h
 refine⟨h2 a1,fun k=>?_,fun k hk=>?_⟩
 ·rw[h1,a2]
  constructor
  ·rintro (⟨q1,y,hy,e⟩|q)
   ·exact⟨q1,y,Qu _ hy,e⟩
   ·rw[q]
    exact⟨hx,x,Qo _ Qh,rfl⟩
  ·rintro ⟨q1,y,hy,e⟩
   rcases Qx.mp hy with q|q
   ·exact .inl ⟨q1,y,q,e⟩
   ·rw[Qq.mp q]at e
    exact .inr e.symm
 ·by_cases ki:k=dA C x.1 x.2
  ·exact⟨x,Qo _ Qh,ki.symm,Qj ki⟩
  ·obtain⟨y,hy,e1,e2⟩:=a3 k ((h1 k).mp hk |>.resolve_right ki)
   exact⟨y,Qu _ hy,e1,by show(if k=dA C x.1 x.2 then _ else PM k)=_;rw[Qk ki];exact e2⟩
theorem z2o{P:Nat×Nat->fm×List Nat}(jC:∀ k∈ks,k.1<C.p/\k.2<n)(du:∀ k∈nw,k∈ks)(hl:nw.length<=900)(hPl:∀ k∈ks,(P k).2.length<=900) :
  ∃ M PM,uk [cG n C,aY ks P,.lst (nw.map ao)]=some (aY M PM,1)/\M.Nodup/\(∀ k,k∈M ↔ k ∉ ks/\∃ st∈nw,∃ j∈dX C st.1,dA C st j=k)/\∀ k∈M,∃ st∈nw,∃ j∈dX C st.1,dA C st j=k/\PM k=((P st).1,(P st).2++[j]):=by
 have hw:=hC.xb
 have k7:=hC.p8
 have jV:=L.hi
 have Ky:C.p*n<=128:=QL (JO k7 jV) (by decide)
 obtain⟨ρ',e,M,PM,a,b,c,d,mX,rfl⟩:=jE (pt:=aC 4) (body:=CV) (nw.map ao)
  (fun i ρ=>∃ M PM a b c d,LI C ks P ((nw.take i).flatMap fun st=>(dX C st.1).map fun j=>(st,j)) M PM/\ρ=[(c9 n C),some (aY ks P,0),some (.lst (nw.map ao),0),some (aY M PM,1),a,b,c,d])
  [(c9 n C),some (aY ks P,0),some (.lst (nw.map ao),0),some (aY [] P,1),none,none,none,none] (fun i hi ρ ai=>by
  obtain⟨M,PM,a,b,c,d,mX,hr⟩:=ai
  subst hr
  have cD:i<nw.length:=by rw[Qc]at hi;exact hi
  have ed:(nw.map ao)[i]=ao nw[i]:=by simp
  have et:nw.take (i+1)=nw.take i++[nw[i]]:=by rw[Jm];simp[cD]
  have iR:nw[i]∈nw:=QR cD
  rw[ed,et,List.flatMap_append]
  have xh:∀ k∈nw.take i,k∈nw:=fun k m=>JN m
  have hT0:∀ x∈(nw.take i).flatMap fun st=>(dX C st.1).map fun j=>(st,j),x.1∈nw/\x.2∈dX C x.1.1:=fun x hx=>by
   obtain⟨st,h1,h2⟩:=YA.mp hx
   obtain⟨j,h3,rfl⟩:=Qr.mp h2
   exact⟨xh st h1,h3⟩
  generalize ((nw.take i).flatMap fun st=>(dX C st.1).map fun j=>(st,j))=T0 at *
  generalize nw[i]=st at *
  have sO:=du st iR
  have Du:=jC st sO
  have hj:∀ j∈dX C st.1,j<C.W.length:=fun j hj=>(sN.mp hj).1
  refine⟨[(c9 n C),some (aY ks P,0),some (.lst (nw.map ao),0),some (aY M PM,1),(p9 st),b,c,d],?_⟩
  have hix:uc 1 (aa 4) [(c9 n C),some (aY ks P,0),some (.lst (nw.map ao),0),some (aY M PM,1),(p9 st),b,c,d]=some (bD (P st),9,[(c9 n C),some (aY ks P,0),some (.lst (nw.map ao),0),some (aY M PM,1),(p9 st),b,c,d]):=by
   refine(j0u (k:=.t (ks.map bA)) (ds:=ks.map fun k=>bD (P k)) (q2:=0) rfl rfl rfl (d:=bD (P st)) ?_).trans rfl
   show some (vL (ks.map bA) (ks.map fun k=>bD (P k)) (bA st))=_
   rw[zG bA pq _ sO]
  have inner:∃ M' uC c' d',LI C ks P (T0++(dX C st.1).map fun j=>(st,j)) M' uC/\dF (aC 6) wG (ak (dX C st.1)) [(c9 n C),some (aY ks P,0),some (.lst (nw.map ao),0),some (aY M PM,1),(p9 st),some (bD (P st),9),c,d]=some (.nx [(c9 n C),some (aY ks P,0),some (.lst (nw.map ao),0),some (aY M' uC,1),(p9 st),some (bD (P st),9),c',d']):=by
   obtain⟨ρ2,e2,M',uC,c',d',pw,rfl⟩:=jE (pt:=aC 6) (body:=wG) (ak (dX C st.1))
    (fun i ρ=>∃ M PM c d,LI C ks P (T0++((dX C st.1).take i).map fun j=>(st,j)) M PM/\ρ=[(c9 n C),some (aY ks P,0),some (.lst (nw.map ao),0),some (aY M PM,1),(p9 st),some (bD (P st),9),c,d])
    [(c9 n C),some (aY ks P,0),some (.lst (nw.map ao),0),some (aY M PM,1),(p9 st),some (bD (P st),9),c,d] (fun i hi ρ ai=>by
    obtain⟨M,PM,c,d,mX,hr⟩:=ai
    subst hr
    have cD:i<(dX C st.1).length:=by rw[fC]at hi;exact hi
    have ed:(ak (dX C st.1))[i]=.int (Int.ofNat (dX C st.1)[i]):=by simp[ak]
    have et:(dX C st.1).take (i+1)=(dX C st.1).take i++[(dX C st.1)[i]]:=by rw[Jm];simp[cD]
    have BR:=hj _ (QR cD)
    have hT:∀ x∈T0++((dX C st.1).take i).map fun j=>(st,j),x.1∈nw/\x.2∈dX C x.1.1:=fun x hx=>by
     rcases Qx.mp hx with h|h
     ·exact hT0 x h
     ·obtain⟨j,h3,rfl⟩:=Qr.mp h
      exact⟨iR,JN h3⟩
    rw[ed,et,Q3,<- ZD]
    generalize T0++((dX C st.1).take i).map (fun j=>(st,j))=T at *
    generalize (dX C st.1)[i]=j at *
    have hMl:M.length<1000:=by
     have:=qJ (p:=C.p) (n:=n) mX.1 fun k hk=>by
      obtain⟨_,x,hx,rfl⟩:=(mX.2.1 k).mp hk
      obtain⟨y1,y2⟩:=hT x hx
      exact Kx L hz bz hC (jC _ (du _ y1)).2 (sN.mp y2).1
     omega
    have vN:=z4h (n:=n) hC (k:=st) Du.2 BR
    refine⟨[(c9 n C),some (aY ks P,0),some (.lst (nw.map ao),0),some (aY M PM,1),(p9 st),some (bD (P st),9),(i9 j),d],?_⟩
    have Kz:bg 7 (aL uj 3 (ab (aa 0) (ab (aa 4) (ab (aa 6) ag)))) [(c9 n C),some (aY ks P,0),some (.lst (nw.map ao),0),some (aY M PM,1),(p9 st),some (bD (P st),9),(i9 j),d]=some (.nx [(c9 n C),some (aY ks P,0),some (.lst (nw.map ao),0),some (aY M PM,1),(p9 st),some (bD (P st),9),(i9 j),(p9 (dA C st j))]):=
     ig (gL (ds:=[cG n C,ao st,(iD j)]) rfl rfl vN) rfl
    have KA:∀ b,(se (.t (ks.map bA)) (ks.map fun k=>bD (P k)) (ao (dA C st j))).map (fun r=>!r.isSome)=some b->bB (zb (aa 7) 1) [(c9 n C),some (aY ks P,0),some (.lst (nw.map ao),0),some (aY M PM,1),(p9 st),some (bD (P st),9),(i9 j),(p9 (dA C st j))]=some (b,[(c9 n C),some (aY ks P,0),some (.lst (nw.map ao),0),some (aY M PM,1),(p9 st),some (bD (P st),9),(i9 j),(p9 (dA C st j))]):=fun b hb=>by
     refine iJ (q:=9) ?_
     obtain⟨r,e1,e2⟩:=Qv.mp hb
     show(match se (.t (ks.map bA)) (ks.map fun k=>bD (P k)) (ao (dA C st j))with|some r=>some (D.bl (!r.isSome),9,_)|none=>none)=_
     rw[e1,<- e2]
    have hmg:se (.t (ks.map bA)) (ks.map fun k=>bD (P k)) (ao (dA C st j))=some (vL (ks.map bA) (ks.map fun k=>bD (P k)) (bA (dA C st j))):=rfl
    by_cases hk:dA C st j∈ks
    ·refine⟨_,rfl,.inl ?_,M,PM,(i9 j),(p9 (dA C st j)),LI.old mX hk,rfl⟩
     unfold wG
     refine(aU Kz).trans ((mJ (KA false ?_)).trans rfl)
     rw[hmg,zG bA pq _ hk]
     rfl
    ·obtain⟨M',p1,p2,p3,p4⟩:=j6v M PM (dA C st j) ((P st).1,(P st).2++[j])
     refine⟨_,rfl,.inl ?_,M',_,(i9 j),(p9 (dA C st j)),LI.new mX hk p2 p3,rfl⟩
     unfold wG
     refine(aU Kz).trans ((Cu (KA true ?_)).trans ?_)
     ·rw[hmg,Dm bA pq _ hk]
      rfl
     ·have Dv:qd (aw 5 (eC (.int 1))) (c_ (ab (aa 6) ag)) [(c9 n C),some (aY ks P,0),some (.lst (nw.map ao),0),some (aY M PM,1),(p9 st),some (bD (P st),9),(i9 j),(p9 (dA C st j))]=some (.lst (ak ((P st).2++[j])),1,[(c9 n C),some (aY ks P,0),some (.lst (nw.map ao),0),some (aY M PM,1),(p9 st),some (bD (P st),9),(i9 j),(p9 (dA C st j))]):=by
       show(if(ak (P st).2).length + [(iD j)].length<=1000 then some (D.lst (ak (P st).2++[(iD j)]),1,_)else none)=_
       rw[Qj (by rw[fC];have:=hPl st sO;show _+1<=1000;omega)]
       unfold ak
       rw[Q3]
       rfl
      have my:=xf (ku (f:=aw 5 (eC (.int 0))) (ρ:=[(c9 n C),some (aY ks P,0),some (.lst (nw.map ao),0),some (aY M PM,1),(p9 st),some (bD (P st),9),(i9 j),(p9 (dA C st j))]) (q:=9) rfl (fW Dv)) (by show 2<=1000;decide)
      exact(z5i (i:=3) (k:=.t (M.map bA)) (ds:=M.map fun k=>bD (PM k)) my rfl rfl rfl (by rw[Qc];exact hMl) p1).trans rfl)
    ⟨M,PM,c,d,by rw[V1];show LI C ks P (T0++[]) M PM;rw[ZX];exact mX,rfl⟩
   rw[fC,ZG]at pw
   exact⟨M',uC,c',d',pw,e2⟩
  obtain⟨M',uC,c',d',pw,e2⟩:=inner
  refine⟨_,rfl,.inl ?_,M',uC,(p9 st),some (bD (P st),9),c',d',by simpa using pw,rfl⟩
  unfold CV
  refine(aU (ig hix rfl)).trans ?_
  have hwf:=y6q (n:=n) hC st.1
  have hit:cW (aL sG 2 (ab (aa 0) (ab (aw 4 (eC (.int 0))) ag))) [(c9 n C),some (aY ks P,0),some (.lst (nw.map ao),0),some (aY M PM,1),(p9 st),some (bD (P st),9),c,d]=some (ak (dX C st.1),[(c9 n C),some (aY ks P,0),some (.lst (nw.map ao),0),some (aY M PM,1),(p9 st),some (bD (P st),9),c,d]):=by
   have xi:aL sG 2 (ab (aa 0) (ab (aw 4 (eC (.int 0))) ag)) [(c9 n C),some (aY ks P,0),some (.lst (nw.map ao),0),some (aY M PM,1),(p9 st),some (bD (P st),9),c,d]=some (.lst (ak (dX C st.1)),1,[(c9 n C),some (aY ks P,0),some (.lst (nw.map ao),0),some (aY M PM,1),(p9 st),some (bD (P st),9),c,d]):=gL (ds:=[cG n C,(iD st.1)]) rfl rfl hwf
   unfold cW
   rw[xi]
   exact Qj (by rw[fC];have:=z4r C st.1;omega)
  exact(gp hit).trans e2) ⟨[],P,none,none,none,none,⟨JK,fun k=>by simp,fun k hk=>absurd hk (by simp)⟩,rfl⟩
 rw[Qc,ZG]at mX
 refine⟨M,PM,?_,mX.1,fun k=>?_,fun k hk=>?_⟩
 ·unfold uk Ie
  refine eA ?_
  show aG _ _ [(c9 n C),some (aY ks P,0),some (.lst (nw.map ao),0),none,none,none,none,none]=_
  refine(aU (ρ1:=[(c9 n C),some (aY ks P,0),some (.lst (nw.map ao),0),some (aY [] P,1),none,none,none,none]) rfl).trans ?_
  refine(aU ((gp (ρ1:=[(c9 n C),some (aY ks P,0),some (.lst (nw.map ao),0),some (aY [] P,1),none,none,none,none]) (Qj (by rw[Qc];omega))).trans e)).trans rfl
 ·rw[mX.2.1]
  refine and_congr_right fun _=>⟨fun⟨x,hx,e⟩=>?_,fun⟨st,h1,j,h2,e⟩=>⟨(st,j),YA.mpr ⟨st,h1,Qr.mpr ⟨j,h2,rfl⟩⟩,e⟩⟩
  obtain⟨st,h1,h2⟩:=YA.mp hx
  obtain⟨j,h3,rfl⟩:=Qr.mp h2
  exact⟨st,h1,j,h3,e⟩
 ·obtain⟨x,hx,e1,e2⟩:=mX.2.2 k hk
  obtain⟨st,h1,h2⟩:=YA.mp hx
  obtain⟨j,h3,rfl⟩:=Qr.mp h2
  exact⟨st,h1,j,h3,e1,e2⟩
end
theorem z76{z:D}{ks:List (List Key)}(h1:dw ρ[i]? = true)(hk:fk ρ=some (x,q,ρ1))(hz:fz ρ1=some (z,q',ρ2))(h2:ρ2[i]? = some (some (.mp (.t ks) ds,1)))(dM:ds.length<1000)(hy:ub x=some y)(hv:vL ks ds y=some d):si i fk fz ρ=some (d,fy d,ρ2):=by
 unfold si
 rw[Qj h1,hk]
 simp only[hz,h2,dM,hy,hv,Zz]
theorem z44{z:D}{ks:List (List Key)}(h1:dw ρ[i]? = true)(hk:fk ρ=some (x,q,ρ1))(hz:fz ρ1=some (z,q',ρ2))(h2:ρ2[i]? = some (some (.mp (.t ks) ds,1)))(dM:ds.length<1000)(hy:ub x=some y)(hv:vL ks ds y=none):si i fk fz ρ=some (z,fy z,ρ2.set i (some (.mp (.t (ks++[y])) (ds++[z]),1))):=by
 unfold si
 rw[Qj h1,hk]
 simp only[hz,h2,dM,hy,hv,Zz]
theorem y70{F:List D->OD}{f0 f2:aA}{qw:aQ}{d0 d2 r:D}{q0:Nat}{k:MK}(h0:f0 ρ=some (d0,q0,qw))(h1:dw qw[i]? = true)(h2:f2 qw=some (d2,q2,ρ2))(h3:ρ2[i]? = some (some (.mp k ds,1)))(hF:F [d0,.mp k ds,d2]=some (r,q))(ok:zd q r=true):wa F i f0 f2 ρ=some (r,q,ρ2):=by
 unfold wa
 rw[h0]
 simp only[h1,Zz,h2,h3,hF,ok]
theorem Dw{f:aA}(h:f ρ=some (d,q,ρ1)):fK f ρ=some (.nx ρ1):=by unfold fK;rw[h]
theorem KC(u:Nat×Nat->D):∀ (M ks:List (Nat×Nat)) (ds:List D),M.Nodup->(∀ x∈M,x ∉ ks)->lF (ks.map bA) ds (M.map bA) (M.map u)=((ks++M).map bA,ds++M.map u)
 | [],ks,ds,_,_=>by simp[lF]
 | x::M,ks,ds,nd,h=>by
  obtain⟨n1,n2⟩:=Q7.mp nd
  have hx:=h x Qh
  have e:mH (ks.map bA,ds) (bA x,u x)=((ks++[x]).map bA,ds++[u x]):=by
   unfold mH
   rw[Qk fun q=>hx ((Dp bA pq).mp q),Q3]
   rfl
  have ih:=KC u M (ks++[x]) (ds++[u x]) n2 fun y hy q=>by
   rcases Qx.mp q with q|q
   ·exact h y (Qg _ hy) q
   ·exact n1 (by rw[<- Qq.mp q];exact hy)
  show((M.map bA).zip (M.map u)).foldl mH (mH (ks.map bA,ds) (bA x,u x))=_
  rw[e]
  refine(show _=lF ((ks++[x]).map bA) (ds++[u x]) (M.map bA) (M.map u)from rfl).trans (ih.trans ?_)
  rw[ZD,ZD]
  rfl
section
variable {n:Nat}{f:Nat->Nat->Nat}(L:aV n f){z:Nat}(hz:z<n)(bz:∀ j,j<n->f z j=j){C:cF}(hC:C.Ok n f)
include L hz bz hC
theorem zH{P:Nat×Nat->fm×List Nat}(b:k8 C z m ks P nw):∀ k∈ks,k.1<C.p/\k.2<n:=fun k hk=>by
 obtain⟨j,_,h,_⟩:=b.i1 k hk
 exact k9 L hz bz hC h
theorem zI{P:Nat×Nat->fm×List Nat}(b:k8 C z m ks P nw):ks.length<=C.p*n:=qJ b.nd (zH L hz bz hC b)
theorem z4q:∃ ks P x,k8 C z 0 ks P ks/\dF (aC 3) CY ((g8 C).map cY) [(t9 n f),(c9 n C),some (aY [] P,1),none,none,none]=some (.nx [(t9 n f),(c9 n C),some (aY ks P,1),x,none,none]):=by
 have k7:=hC.p8
 have jV:=L.hi
 have Ky:C.p*n<=128:=QL (JO k7 jV) (by decide)
 obtain⟨ρ',e,ks,P,x,nd,mem,hP,rfl⟩:=jE (pt:=aC 3) (body:=CY) ((g8 C).map cY)
  (fun i ρ=>∃ ks P x,ks.Nodup/\(∀ k,k∈ks ↔ ∃ s∈(g8 C).take i,atS C z s=k)/\(∀ k∈ks,∃ s,nU C s/\atS C z s=k/\P k=(s,[]))/\ρ=[(t9 n f),(c9 n C),some (aY ks P,1),x,none,none])
  [(t9 n f),(c9 n C),some (.mp (.t []) [],1),none,none,none] (fun i hi ρ ai=>by
  obtain⟨ks,P,x,nd,mem,hP,hr⟩:=ai
  subst hr
  have cD:i<(g8 C).length:=by rw[Qc]at hi;exact hi
  have ed:((g8 C).map cY)[i]=cY (g8 C)[i]:=by simp
  have et:(g8 C).take (i+1)=(g8 C).take i++[(g8 C)[i]]:=by rw[Jm];simp[cD]
  have hs:nU C (g8 C)[i]:=Dq.mp (QR cD)
  rw[ed,et]
  generalize (g8 C).take i=T at *
  generalize (g8 C)[i]=s at *
  have hl:(ks.map fun k=>bD (P k)).length<1000:=by
   rw[Qc]
   have:=qJ (p:=C.p) (n:=n) nd fun k hk=>by
    obtain⟨s,h1,h2,_⟩:=hP k hk
    rw[<- h2]
    exact Kw L hz bz hC h1
   omega
  have iR:=z1c L hz bz hC hs
  refine⟨[(t9 n f),(c9 n C),some (aY ks P,1),some (cY s,9),none,none],?_⟩
  have qK:aL uo 3 (ab (aa 0) (ab (aa 1) (ab (aa 3) ag))) [(t9 n f),(c9 n C),some (aY ks P,1),some (cY s,9),none,none]=some (ao (atS C z s),9,[(t9 n f),(c9 n C),some (aY ks P,1),some (cY s,9),none,none]):=gL (ds:=[aT n f,cG n C,cY s]) rfl rfl iR
  by_cases hk:atS C z s∈ks
  ·refine⟨_,rfl,.inl (Dw (z76 (ks:=ks.map bA) (ds:=ks.map fun k=>bD (P k)) (y:=bA (atS C z s)) rfl qK (z:=bD (s,[])) (q':=9) rfl rfl hl rfl (zG bA pq _ hk))),ks,P,some (cY s,9),nd,fun k=>?_,hP,rfl⟩
   rw[mem]
   refine⟨fun⟨t,h1,h2⟩=>⟨t,Qu _ h1,h2⟩,fun⟨t,h1,h2⟩=>?_⟩
   rcases Qx.mp h1 with h|h
   ·exact⟨t,h,h2⟩
   ·rw[Qq.mp h]at h2
    rw[<- h2]
    exact(mem _).mp hk
  ·refine⟨[(t9 n f),(c9 n C),some (aY (ks++[atS C z s]) (fun k=>if k=atS C z s then(s,[])else P k),1),some (cY s,9),none,none],rfl,.inl ?_,ks++[atS C z s],_,some (cY s,9),?_,fun k=>?_,fun k ki=>?_,rfl⟩
   ·refine(Dw (z44 (ks:=ks.map bA) (ds:=ks.map fun k=>bD (P k)) (y:=bA (atS C z s)) rfl qK (z:=bD (s,[])) (q':=9) rfl rfl hl rfl (Dm bA pq _ hk))).trans ?_
    have e1:(ks.map fun k=>bD (P k))++[bD (s,[])]=(ks++[atS C z s]).map fun k=>bD (if k=atS C z s then(s,[])else P k):=by
     rw[Q3]
     congr 1
     ·exact Ze fun a ha=>by rw[Qk fun q=>hk (by rw[<- q];exact ha)]
     ·show _=[bD (if atS C z s=atS C z s then(s,[])else P (atS C z s))]
      rw[Qj rfl]
    have e2:ks.map bA++[bA (atS C z s)]=(ks++[atS C z s]).map bA:=by rw[Q3];rfl
    rw[e1,e2]
    rfl
   ·exact Jl.mpr ⟨nd,by simp,fun a ha b hb e=>hk (by rw[<- Qq.mp hb,<- e];exact ha)⟩
   ·rw[Qx,mem,Qq]
    constructor
    ·rintro (⟨t,h1,h2⟩|h)
     ·exact⟨t,Qu _ h1,h2⟩
     ·exact⟨s,Qo _ Qh,h.symm⟩
    ·rintro ⟨t,h1,h2⟩
     rcases Qx.mp h1 with h|h
     ·exact .inl ⟨t,h,h2⟩
     ·rw[Qq.mp h]at h2
      exact .inr h2.symm
   ·by_cases ha:k=atS C z s
    ·exact⟨s,hs,ha.symm,Qj ha⟩
    ·have:k∈ks:=(Qx.mp ki).resolve_right fun q=>ha (Qq.mp q)
     obtain⟨t,h1,h2,h3⟩:=hP k this
     exact⟨t,h1,h2,by show(if k=atS C z s then _ else P k)=_;rw[Qk ha];exact h3⟩)
  ⟨[],fun _=>((false,0),[]),none,JK,fun k=>by simp,fun k hk=>absurd hk (by simp),rfl⟩
 rw[Qc,ZG]at mem
 have sP:∀ k,k∈ks ↔ RS C z 0 k:=fun k=>by
  rw[mem]
  exact⟨fun⟨s,h1,h2⟩=>⟨s,Dq.mp h1,h2⟩,fun⟨s,h1,h2⟩=>⟨s,Dq.mpr h1,h2⟩⟩
 refine⟨ks,P,x,⟨nd,nd,fun k hk=>?_,fun j k hj h=>?_,fun k=>?_,?_⟩,e⟩
 ·obtain⟨s,h1,h2,h3⟩:=hP k hk
  refine⟨0,Qi _,(sP k).mp hk,fun i hi=>absurd hi (Q8 i),?_⟩
  rw[h3]
  exact⟨h1,h2,rfl⟩
 ·obtain rfl:j=0:=Nat.le_zero.mp hj
  exact(sP k).mpr h
 ·rw[sP]
  exact⟨fun h=>⟨h,fun i hi=>absurd hi (Q8 i)⟩,fun h=>h.1⟩
 ·by_cases h:ks=[]
  ·rw[Qj h];exact QS _
  ·rw[Qk h]
   have:=Z1.mpr h
   omega
theorem y7m:∃ m ks P,k8 C z m ks P []/\sH [aT n f,cG n C]=some (aY ks P,1):=by
 have k7:=hC.p8
 have hp1:=hC.p1
 have hb60:=hC.zD
 have jV:=L.hi
 have Ky:C.p*n<=128:=QL (JO k7 jV) (by decide)
 obtain⟨mY,P0,x0,b0,e0⟩:=z4q L hz bz hC
 have Kl:=zI L hz bz hC b0
 have wh:∃ ρ',qc (iT (aa 4)) CW [(t9 n f),(c9 n C),some (aY mY P0,1),x0,some (.lst (mY.map ao),1),none]=some (.nx ρ')/\∃ m ks P x5,k8 C z m ks P []/\ρ'=[(t9 n f),(c9 n C),some (aY ks P,1),x0,some (.lst [],0),x5]:=by
  refine zm (fun t ρ=>∃ m ks P nw x5,k8 C z m ks P nw/\t=2*(C.p*n-ks.length)+(if nw=[]then 0 else 1)/\ρ=[(t9 n f),(c9 n C),some (aY ks P,1),x0,some (.lst (nw.map ao),1),x5]) (k:=2*(C.p*n-mY.length)+(if mY=[]then 0 else 1)) (by split<;>omega) ⟨0,mY,P0,mY,none,b0,rfl,rfl⟩ ?_
  rintro t ρ ⟨m,ks,P,nw,x5,b,rfl,rfl⟩
  have hl:=zI L hz bz hC b
  by_cases uD:nw=[]
  ·subst uD
   exact .inl ⟨_,rfl,m,ks,P,x5,b,rfl⟩
  ·refine .inr ?_
   have Dx:ks ≠ []:=fun q=>by
    obtain⟨k,hk⟩:=List.exists_mem_of_ne_nil _ uD
    have:=b.sub k hk
    rw[q]at this
    cases this
   have hnl:nw.length<=C.p*n:=qJ b.nn fun k hk=>zH L hz bz hC b k (b.sub k hk)
   have hml:=b.ml
   obtain⟨M,PM,eM,nM,hM,hPM⟩:=z2o L hz bz hC (ks:=ks) (nw:=nw) (P:=P) (zH L hz bz hC b) b.sub (by omega) (fun k hk=>by
    obtain⟨j,h1,_,_,_,_,h2⟩:=b.i1 k hk
    rw[Qk uD]at hml
    omega)
   have b':=b.next uD nM hM hPM
   have iy:=zI L hz bz hC b'
   rw[Qn]at iy
   refine⟨[(t9 n f),(c9 n C),some (aY ks P,1),x0,some (.lst (nw.map ao),0),x5],[(t9 n f),(c9 n C),some (aY (ks++M) (fun k=>if k∈M then PM k else P k),1),x0,some (.lst (M.map ao),1),some (aY M PM,1)],_,?_,?_,?_,m+1,ks++M,_,M,some (aY M PM,1),b',rfl,rfl⟩
   ·have:nw.map ao ≠ []:=fun q=>uD (JT.mp q)
    show(match E4 (.lst (nw.map ao))with|some b=>some (b,_)|none=>none)=_
    show some (!(nw.map ao).isEmpty,_)=_
    rw[List.isEmpty_eq_false_iff.mpr this]
    rfl
   ·unfold CW
    have hb:=y70 (F:=uk) (i:=2) (f0:=aa 1) (f2:=aa 4) (ρ:=[(t9 n f),(c9 n C),some (aY ks P,1),x0,some (.lst (nw.map ao),0),x5]) (q0:=9) (q2:=0) (k:=.t (ks.map bA)) (ds:=ks.map fun k=>bD (P k)) rfl rfl rfl rfl eM (z3h M PM)
    refine(aU (ρ1:=[(t9 n f),(c9 n C),some (aY ks P,1),x0,some (.lst (nw.map ao),0),some (aY M PM,1)]) (ig hb rfl)).trans ?_
    have hu:za 2 5 [(t9 n f),(c9 n C),some (aY ks P,1),x0,some (.lst (nw.map ao),0),some (aY M PM,1)]=some (.bo,9,[(t9 n f),(c9 n C),some (aY (ks++M) (fun k=>if k∈M then PM k else P k),1),x0,some (.lst (nw.map ao),0),some (aY M PM,1)]):=by
     show(if 2≠5/\(ks.map fun k=>bD (P k)) ≠ []/\(ks.map fun k=>bD (P k)).length<=400/\(M.map fun k=>bD (PM k)).length<=400 then some (D.bo,9,([(t9 n f),(c9 n C),some (aY ks P,1),x0,some (.lst (nw.map ao),0),some (aY M PM,1)]:aQ).set 2 (some (.mp (.t (lF (ks.map bA) (ks.map fun k=>bD (P k)) (M.map bA) (M.map fun k=>bD (PM k))).1) (lF (ks.map bA) (ks.map fun k=>bD (P k)) (M.map bA) (M.map fun k=>bD (PM k))).2,1)))else none)=_
     rw[Qj ⟨by decide,fun q=>Dx (JT.mp q),by rw[Qc];omega,by rw[Qc];omega⟩]
     rw[KC (fun k=>bD (PM k)) M ks _ nM fun x hx=>((hM x).mp hx).1]
     have e1:(ks.map fun k=>bD (P k))++(M.map fun k=>bD (PM k))=(ks++M).map fun k=>bD (if k∈M then PM k else P k):=by
      rw[Q3]
      congr 1
      ·exact Ze fun a ha=>by rw[Qk fun q=>((hM a).mp q).1 ha]
      ·exact Ze fun a ha=>by rw[Qj ha]
     show some (D.bo,9,([(t9 n f),(c9 n C),some (aY ks P,1),x0,some (.lst (nw.map ao),0),some (aY M PM,1)]:aQ).set 2 (some (.mp (.t ((ks++M).map bA)) ((ks.map fun k=>bD (P k))++(M.map fun k=>bD (PM k))),1)))=_
     rw[e1]
     rfl
    refine(aU (Dw hu)).trans ?_
    have sQ:ud 5 [(t9 n f),(c9 n C),some (aY (ks++M) (fun k=>if k∈M then PM k else P k),1),x0,some (.lst (nw.map ao),0),some (aY M PM,1)]=some (.lst (M.map ao),1,[(t9 n f),(c9 n C),some (aY (ks++M) (fun k=>if k∈M then PM k else P k),1),x0,some (.lst (nw.map ao),0),some (aY M PM,1)]):=by
     show(if(M.map bA).length<=1000 then some (D.lst ((M.map bA).map y_),1,_)else none)=_
     rw[Qj (by rw[Qc];omega),Zb]
     rfl
    exact ig sQ rfl
   ·rw[Qn,Qk uD]
    by_cases Dy:M=[]
    ·subst Dy
     rw[Qj rfl]
     simp
    ·rw[Qk Dy]
     have:=Z1.mpr Dy
     omega
 obtain⟨ρ',ew,m,ks,P,x5,b,rfl⟩:=wh
 refine⟨m,ks,P,b,?_⟩
 unfold sH Ij
 refine eA ?_
 show aG _ _ [(t9 n f),(c9 n C),none,none,none,none]=_
 refine(aU (ρ1:=[(t9 n f),(c9 n C),some (.mp (.t []) [],1),none,none,none]) rfl).trans ?_
 have eI:=y4m (n:=n) hC
 have hal:((g8 C).map cY).length<=1000:=by
  rw[Qc]
  unfold g8
  rw[Qn,Qc,Qc,QM,QM]
  omega
 have hit:cW (aL sF 1 (ab (aa 1) ag)) [(t9 n f),(c9 n C),some (.mp (.t []) [],1),none,none,none]=some ((g8 C).map cY,[(t9 n f),(c9 n C),some (.mp (.t []) [],1),none,none,none]):=by
  have xi:aL sF 1 (ab (aa 1) ag) [(t9 n f),(c9 n C),some (.mp (.t []) [],1),none,none,none]=some (.lst ((g8 C).map cY),1,[(t9 n f),(c9 n C),some (.mp (.t []) [],1),none,none,none]):=gL (ds:=[cG n C]) rfl rfl eI
  unfold cW
  rw[xi]
  exact Qj hal
 refine(aU ((gp hit).trans e0)).trans ?_
 have sQ:ud 2 [(t9 n f),(c9 n C),some (aY mY P0,1),x0,none,none]=some (.lst (mY.map ao),1,[(t9 n f),(c9 n C),some (aY mY P0,1),x0,none,none]):=by
  show(if(mY.map bA).length<=1000 then some (D.lst ((mY.map bA).map y_),1,_)else none)=_
  rw[Qj (by rw[Qc];omega),Zb]
  rfl
 refine(aU (ig sQ rfl)).trans ?_
 exact(aU ew).trans rfl
theorem z3e(kT:C.p*n<64):∃ ks:List (Nat×Nat),ks.Nodup/\(∀ k,k∈ks ↔ ∃ m,RS C z m k)/\oZ [aT n f,cG n C]=some (.lst ((dH ks).map ao),1):=by
 obtain⟨m,ks,P,b,e⟩:=y7m L hz bz hC
 have hl:=zI L hz bz hC b
 have jC:=zH L hz bz hC b
 have jV:=L.hi
 refine⟨ks,b.nd,fun k=>⟨fun hk=>?_,fun⟨j,hj⟩=>b.end j k hj⟩,?_⟩
 ·obtain⟨j,_,h,_⟩:=b.i1 k hk
  exact⟨j,h⟩
 ·unfold oZ Ik
  refine eA (jF (ρ1:=[(t9 n f),(c9 n C)]) ?_)
  have xi:aL sH 2 (ab (aa 0) (ab (aa 1) ag)) [(t9 n f),(c9 n C)]=some (aY ks P,1,[(t9 n f),(c9 n C)]):=gL (ds:=[aT n f,cG n C]) rfl rfl e
  show v_ (aL sH 2 (ab (aa 0) (ab (aa 1) ag))) [(t9 n f),(c9 n C)]=_
  unfold v_
  rw[xi]
  show(match sh (ks.map bA)with|some kp=>if kp.length<64 then some (D.lst ((dH kp).map ao),1,_)else none|none=>none)=_
  rw[G1 ks fun x hx=>by have:=(jC x hx).2;omega]
  show(if ks.length<64 then some (D.lst ((dH ks).map ao),1,_)else none)=_
  rw[Qj (by omega)]
end
theorem Dz(e:g ρ=some (false,ρ1)):nv g h ρ=some (false,ρ1):=by unfold nv;rw[e];rfl
theorem zJ(e:g ρ=some (true,ρ1)):nv g h ρ=h ρ1:=by unfold nv;rw[e];rfl
theorem j3k{f:aA}{es:List D}(hl:rG ρ[i]? = true)(hf:f ρ=some (.lst es,1,ρ1))(h1:ρ1[i]? = some (some (.lst ds,1)))(hn:ds.length+es.length<=1000)(e:ρ1.set i (some (.lst (ds++es),1))=ρ2):fK (vx i f) ρ=some (.nx ρ2):=by
 unfold fK vx
 rw[Qj hl,hf]
 simp only[h1,hn,Zz,e]
theorem DA{fa:aA}{e r:D}(h:fa ρ=some (d,q,ρ1))(h1:ρ1[i]? = some (some (e,q')))(hr:vh d e=some r):qf fa i ρ=some (r,9,ρ1):=by
 unfold qf
 rw[h]
 simp only[h1,hr]
theorem DB(l:List (Nat×Nat)):Sh 2 (.lst (l.map ao)):=.lst fun d hd=>by
 obtain⟨k,_,rfl⟩:=Qr.mp hd
 exact qz [k.1,k.2]
theorem KD(a k:Nat×Nat):me (ao a) (ao k)=decide (a=k):=by
 refine(CC [a.1,a.2] [k.1,k.2]).trans ?_
 exact Jv.mpr ⟨fun h=>by injection h with e1 e2;injection e2 with e3;exact VW e1 e3,fun h=>by rw[h]⟩
theorem j2f(k:Nat×Nat)(l:List (Nat×Nat)):inD (ao k) (.lst (l.map ao))=some (decide (k∈l)):=by
 show some ((dv (l.map ao)).any fun y=>PyData.eqv y (cP (ao k)))=_
 congr 1
 induction l with
 | nil=>simp[dv]
 | cons a l ih=>
  have h1:dv ((a::l).map ao)=cP (ao a)::dv (l.map ao):=by rw[QG,dv]
  rw[h1,YB,ih]
  have h2:PyData.eqv (cP (ao a)) (cP (ao k))=decide (a=k):=KD a k
  rw[h2]
  by_cases h:a=k
  ·simp[h]
  ·have h':¬ k=a:=fun q=>h q.symm
   simp[h,h']
theorem DC(k:Nat×Nat)(l:List (Nat×Nat)):vh (ao k) (.lst (l.map ao))=some (.bl (!decide (k∈l))):=by
 unfold vh
 rw[Qj ⟨(qz [k.1,k.2]).ok,(DB l).ok⟩,j2f]
 rfl
theorem z9d(l:List (Nat×Nat)):di (.lst (l.map ao)) (.lst (l.map ao))=some (.bl false):=by
 have key:∀ l:List (Nat×Nat),PyData.eqvAll (dv (l.map ao)) (dv (l.map ao))=true:=by
  intro l
  induction l with
  | nil=>rfl
  | cons a l ih=>
   show(PyData.eqv (cP (ao a)) (cP (ao a))&&PyData.eqvAll (dv (l.map ao)) (dv (l.map ao)))=true
   rw[ih,show PyData.eqv (cP (ao a)) (cP (ao a))=true from(KD a a).trans (QA rfl)]
   rfl
 unfold di
 rw[Qj ⟨(DB l).ok,(DB l).ok⟩]
 show some (D.bl (!PyData.eqvAll (dv (l.map ao)) (dv (l.map ao))))=_
 rw[key]
 rfl
theorem z2w{a b:List (Nat×Nat)}(ha:a.Nodup)(hb:b.Nodup)(h:∀ x,x∈a ↔ x∈b)(dW:∀ x∈b,x.2<1000):dH a=dH b:=Ci dW ((ZC _ _).trans (Cd ha hb h)) (j0r a)
section
variable {n:Nat}{f:Nat->Nat->Nat}(L:aV n f){z:Nat}(hz:z<n)(bz:∀ j,j<n->f z j=j){C:cF}(hC:C.Ok n f)
include L hz bz hC
theorem y45(kT:C.p*n<64)(hpb:C.p+C.B.length<64):∃ ks:List (Nat×Nat),ks.Nodup/\(∀ k,k∈ks ↔ ∃ m,RS C z m k)/\wZ [aT n f,cG n C]=some (.lst ((dH ks).map ao),1):=by
 have hn:n<=1000:=QL L.hi (by decide)
 have jV:=L.hi
 have hw:=hC.xb
 have k7:=hC.p8
 obtain⟨A,hA⟩:∃ A,A=(List.range C.p).map fun a=>(a,z):=⟨_,rfl⟩
 have KG:A.length=C.p:=by rw[hA,Qc,QM]
 obtain⟨F0,DD⟩:∃ F0,F0=A++C.B.filter fun b=>!decide (b∈A):=⟨_,rfl⟩
 have DE:F0.length<64:=by
  rw[DD,Qn,KG]
  have:=Zx (fun b=>!decide (b∈A)) C.B
  omega
 have sR:∀ k,k∈F0 ↔ RS C z 0 k:=fun k=>by
  rw[DD,Qx,ZW]
  constructor
  ·rintro (h|⟨h,_⟩)
   ·rw[hA]at h
    obtain⟨a,ha,rfl⟩:=Qr.mp h
    exact⟨(false,a),Qz.mp ha,rfl⟩
   ·obtain⟨i,hi,e⟩:=Q2 h
    refine⟨(true,i),hi,?_⟩
    show C.B.getD i (0,0)=k
    rw[Qf,Qb hi]
    exact e
  ·rintro ⟨⟨b,i⟩,h1,h2⟩
   cases b with
   | false=>
    refine .inl ?_
    rw[hA,<- h2]
    exact Qr.mpr ⟨i,Qz.mpr h1,rfl⟩
   | true=>
    have hi:i<C.B.length:=h1
    have hk:k∈C.B:=by
     rw[<- h2]
     show C.B.getD i (0,0)∈C.B
     rw[Qf,Qb hi]
     exact QR hi
    by_cases KH:k∈A
    ·exact .inl KH
    ·exact .inr ⟨hk,by rw[QZ KH];rfl⟩
 have sS:∀ x∈F0,x.2<1000:=fun x hx=>by
  have:=(k9 L hz bz hC ((sR x).mp hx)).2
  omega
 have wh:∃ ρ',qc (bB (e2 l9 (aa 3) (bZ 2))) C1 [(t9 n f),(c9 n C),some (.lst ((jS F0).map ao),1),some (.int 0,9),(none:OD),(none:OD),(none:OD),(none:OD),(none:OD)]=some (.nx ρ')/\∃ (G:List (Nat×Nat)) (i a b c d e:OD),G.Nodup/\(∀ k,k∈G ↔ ∃ m,RS C z m k)/\ρ'=[(t9 n f),(c9 n C),some (.lst (G.map ao),1),i,a,b,c,d,e]:=by
  refine zm (fun t ρ=>∃ (G:List (Nat×Nat)) (i:Nat) (a b c d e:OD),G.Nodup/\(∀ k∈G,∃ m,RS C z m k)/\(∀ k,RS C z 0 k->k∈G)/\i<=G.length/\(∀ k∈G.take i,∀ j∈dX C k.1,dA C k j∈G)/\t=C.p*n-i/\ρ=[(t9 n f),(c9 n C),some (.lst (G.map ao),1),(i9 i),a,b,c,d,e]) (k:=C.p*n-0) (by omega)
   ⟨jS F0,0,none,none,none,none,none,GV _,fun k hk=>⟨0,(sR k).mp (yT.mp hk)⟩,fun k hk=>yT.mpr ((sR k).mpr hk),QS _,fun k hk=>by simp at hk,rfl,rfl⟩ ?_
  rintro t ρ ⟨G,i,a,b,c,d,e,nd,h1,h2,hi,h3,rfl,rfl⟩
  have jC:∀ k∈G,k.1<C.p/\k.2<n:=fun k hk=>by
   obtain⟨m,h⟩:=h1 k hk
   exact k9 L hz bz hC h
  have hGl:=qJ nd jC
  have mZ:bB (e2 l9 (aa 3) (bZ 2)) [(t9 n f),(c9 n C),some (.lst (G.map ao),1),(i9 i),a,b,c,d,e]=some (decide (i<G.length),[(t9 n f),(c9 n C),some (.lst (G.map ao),1),(i9 i),a,b,c,d,e]):=by
   refine iJ (iZ (fa:=aa 3) (fb:=bZ 2) (q:=9) (q':=9) rfl (z7q rfl (by show some (G.map ao).length=_;rw[Qc])) ?_)
   show some (D.bl (decide (Int.ofNat i<Int.ofNat G.length)))=_
   congr 2
   exact Jv.mpr Int.ofNat_lt
  by_cases bX:i<G.length
  ·refine .inr ?_
   rw[QA bX]at mZ
   have DF:=QR bX
   obtain⟨k0,t7⟩:∃ k0,k0=G[i]:=⟨_,rfl⟩
   rw[<- t7]at DF
   have DG:=jC k0 DF
   have eat:cf (.lst (G.map ao)) (Int.ofNat i)=some (ao k0):=qy (by rw[Ql,Qb bX,<- t7];rfl)
   have inner:∃ (G':List (Nat×Nat)) (c' d' e':OD),G'.Nodup/\(∀ k∈G',∃ m,RS C z m k)/\(∃ X,G'=G++X)/\(∀ w∈C.W,w.1=k0.1->(w.2.1,w.2.2 k0.2)∈G')/\dF (jc (cE (aC 6) (cE (aC 7) (cE (aC 8) iH)))) uv (C.W.map (bN n)) [(t9 n f),(c9 n C),some (.lst (G.map ao),1),(i9 i),(i9 k0.1),(i9 k0.2),c,d,e]=some (.nx [(t9 n f),(c9 n C),some (.lst (G'.map ao),1),(i9 i),(i9 k0.1),(i9 k0.2),c',d',e']):=by
    obtain⟨ρ2,ee,G',c',d',e',g1,g2,g3,g4,rfl⟩:=jE (pt:=jc (cE (aC 6) (cE (aC 7) (cE (aC 8) iH)))) (body:=uv) (C.W.map (bN n))
     (fun l ρ=>∃ (G':List (Nat×Nat)) (c' d' e':OD),G'.Nodup/\(∀ k∈G',∃ m,RS C z m k)/\(∃ X,G'=G++X)/\(∀ w∈C.W.take l,w.1=k0.1->(w.2.1,w.2.2 k0.2)∈G')/\ρ=[(t9 n f),(c9 n C),some (.lst (G'.map ao),1),(i9 i),(i9 k0.1),(i9 k0.2),c',d',e'])
     [(t9 n f),(c9 n C),some (.lst (G.map ao),1),(i9 i),(i9 k0.1),(i9 k0.2),c,d,e] (fun l hl ρ ai=>by
     obtain⟨G',c',d',e',g1,g2,g3,g4,hr⟩:=ai
     subst hr
     have iy:l<C.W.length:=by rw[Qc]at hl;exact hl
     have ed:(C.W.map (bN n))[l]=bN n C.W[l]:=by simp
     have et:C.W.take (l+1)=C.W.take l++[C.W[l]]:=by rw[Jm];simp[iy]
     have hwm:=QR iy
     have tE:jH C l=C.W[l]:=by unfold jH;rw[Qf,Qb iy];rfl
     rw[ed,et]
     generalize C.W[l]=w at *
     obtain⟨s,g,r⟩:=w
     have aB:=hC.ws _ hwm
     have hGl':=qJ (p:=C.p) (n:=n) g1 fun k hk=>by
      obtain⟨m,h⟩:=g2 k hk
      exact k9 L hz bz hC h
     refine⟨[(t9 n f),(c9 n C),some (.lst (G'.map ao),1),(i9 i),(i9 k0.1),(i9 k0.2),(i9 s),(i9 g),(r9 n r)],?_⟩
     have c1:bB (e2 cS (aa 6) (aa 4)) [(t9 n f),(c9 n C),some (.lst (G'.map ao),1),(i9 i),(i9 k0.1),(i9 k0.2),(i9 s),(i9 g),(r9 n r)]=some (decide (s=k0.1),[(t9 n f),(c9 n C),some (.lst (G'.map ao),1),(i9 i),(i9 k0.1),(i9 k0.2),(i9 s),(i9 g),(r9 n r)]):=iJ (iZ (fa:=aa 6) (fb:=aa 4) (q:=9) (q':=9) rfl rfl (wj s k0.1))
     have e8:dS (ab (aa 7) (ab (aw 8 (aa 5)) ag)) [(t9 n f),(c9 n C),some (.lst (G'.map ao),1),(i9 i),(i9 k0.1),(i9 k0.2),(i9 s),(i9 g),(r9 n r)]=some (ao (g,r k0.2),9,[(t9 n f),(c9 n C),some (.lst (G'.map ao),1),(i9 i),(i9 k0.1),(i9 k0.2),(i9 s),(i9 g),(r9 n r)]):=
      xf (ku (f:=aa 7) (q:=9) rfl (fW (uB (i:=8) (b:=aa 5) (q:=9) (q':=9) rfl rfl (nJ (r:=r) DG.2) rfl))) (by show 2<=1000;decide)
     by_cases hs:s=k0.1
     ·rw[QA hs]at c1
      by_cases px:(g,r k0.2)∈G'
      ·refine⟨_,rfl,.inl ?_,G',(i9 s),(i9 g),(r9 n r),g1,g2,g3,fun w jG sT=>?_,rfl⟩
       ·unfold uv
        refine(mJ ((zJ c1).trans (iJ (DA e8 rfl ((DC (g,r k0.2) G').trans (by rw[QA px];rfl)))))).trans rfl
       ·rcases Qx.mp jG with q|q
        ·exact g4 w q sT
        ·rw[Qq.mp q];exact px
      ·refine⟨[(t9 n f),(c9 n C),some (.lst ((G'++[(g,r k0.2)]).map ao),1),(i9 i),(i9 k0.1),(i9 k0.2),(i9 s),(i9 g),(r9 n r)],rfl,.inl ?_,G'++[(g,r k0.2)],_,_,_,?_,fun k hk=>?_,?_,fun w jG sT=>?_,rfl⟩
       ·unfold uv
        refine(Cu ((zJ c1).trans (iJ (DA e8 rfl ((DC (g,r k0.2) G').trans (by rw[QZ px];rfl)))))).trans ?_
        refine zi (ds:=G'.map ao) (d:=ao (g,r k0.2)) rfl (fW e8) rfl (by rw[Qc];omega) ?_
        rw[Q3]
        rfl
       ·exact Jl.mpr ⟨g1,by simp,fun x hx y hy e=>px (by rw[<- Qq.mp hy,<- e];exact hx)⟩
       ·rcases Qx.mp hk with q|q
        ·exact g2 k q
        ·rw[Qq.mp q]
         obtain⟨m,hm⟩:=h1 k0 DF
         refine⟨m+1,k0,hm,l,iy,by rw[tE];exact hs,?_⟩
         unfold dA
         rw[tE]
       ·obtain⟨X,hX⟩:=g3
        exact⟨X++[(g,r k0.2)],by rw[hX,ZD]⟩
       ·rcases Qx.mp jG with q|q
        ·exact Qu _ (g4 w q sT)
        ·rw[Qq.mp q];exact Qo _ Qh
     ·rw[QZ hs]at c1
      refine⟨_,rfl,.inl ?_,G',(i9 s),(i9 g),(r9 n r),g1,g2,g3,fun w jG sT=>?_,rfl⟩
      ·unfold uv
       exact(mJ (Dz c1)).trans rfl
      ·rcases Qx.mp jG with q|q
       ·exact g4 w q sT
       ·rw[Qq.mp q]at sT;exact absurd sT hs) ⟨G,c,d,e,nd,h1,⟨[],(ZX G).symm⟩,fun w jG=>by simp at jG,rfl⟩
    rw[Qc,ZG]at g4
    exact⟨G',c',d',e',g1,g2,g3,g4,ee⟩
   obtain⟨G',c',d',e',g1,g2,⟨X,hX⟩,g4,ee⟩:=inner
   refine⟨_,[(t9 n f),(c9 n C),some (.lst (G'.map ao),1),(i9 (i+1)),(i9 k0.1),(i9 k0.2),c',d',e'],C.p*n-(i+1),mZ,?_,by omega,G',i+1,_,_,_,_,_,g1,g2,fun k hk=>by rw[hX];exact Qu _ (h2 k hk),by rw[hX,Qn];omega,fun k hk j hj=>?_,rfl,rfl⟩
   ·unfold C1
    refine(aU (ρ1:=[(t9 n f),(c9 n C),some (.lst (G.map ao),1),(i9 i),(i9 k0.1),(i9 k0.2),c,d,e]) (j6u (x:=(iD k0.1)) (y:=(iD k0.2)) (uB (i:=2) (b:=aa 3) (q:=1) (q':=9) rfl rfl eat rfl) rfl (by show 4<9;decide) (by show 5<9;decide))).trans ?_
    have hit:cW (aw 1 (eC (.int 1))) [(t9 n f),(c9 n C),some (.lst (G.map ao),1),(i9 i),(i9 k0.1),(i9 k0.2),c,d,e]=some (C.W.map (bN n),[(t9 n f),(c9 n C),some (.lst (G.map ao),1),(i9 i),(i9 k0.1),(i9 k0.2),c,d,e]):=Qj (by rw[Qc];omega)
    exact(aU ((gp hit).trans ee)).trans rfl
   ·have ht:G'.take (i+1)=G.take i++[k0]:=by
     rw[hX,List.take_append_of_le_length (by omega),Jm,Qb bX,<- t7]
     rfl
    rw[ht]at hk
    rcases Qx.mp hk with q|q
    ·rw[hX];exact Qu _ (h3 k q j hj)
    ·rw[Qq.mp q]at hj ⊢
     obtain⟨f1,f2⟩:=sN.mp hj
     exact g4 _ (Dt f1) f2
  ·refine .inl ⟨_,by rw[mZ,QZ bX],G,_,a,b,c,d,e,nd,fun k=>⟨h1 k,?_⟩,rfl⟩
   have hil:i=G.length:=by omega
   rw[hil,ZG]at h3
   rintro ⟨m,hm⟩
   induction m generalizing k with
   | zero=>exact h2 k hm
   | succ m ih=>
    obtain⟨k',q1,j,q2,q3,rfl⟩:=hm
    exact h3 k' (ih k' q1) j (sN.mpr ⟨q2,q3⟩)
 obtain⟨ρ',ew,G,i,a,b,c,d,e,nd,mem,rfl⟩:=wh
 have pz:∀ k∈G,k.1<C.p/\k.2<n:=fun k hk=>by
  obtain⟨m,h⟩:=(mem k).mp hk
  exact k9 L hz bz hC h
 have hGl:=qJ nd pz
 refine⟨G,nd,mem,?_⟩
 unfold wZ IP
 refine eA ?_
 show aG _ _ [(t9 n f),(c9 n C),(none:OD),(none:OD),(none:OD),(none:OD),(none:OD),(none:OD),(none:OD)]=_
 have o_:=C8 L hz bz hn
 have h1:=ie (k:=1) (tt:=da) (te:=dS (ab (aa 9) (ab (aL nN 1 (ab (aa 0) ag)) ag))) (deep:=false) (mV (m:=C.p) (by omega) (fe:=aw 1 (eC (.int 0))) (ρ:=[(t9 n f),(c9 n C),(none:OD),(none:OD),(none:OD),(none:OD),(none:OD),(none:OD),(none:OD)]) (ρ':=[(t9 n f),(c9 n C),(none:OD),(none:OD),(none:OD),(none:OD),(none:OD),(none:OD),(none:OD)]) (q:=9) rfl) (oU (i:=9) rfl (fun _=>true) (fun k=>ao (k,z)) (fun _=>9) (fun k hk=>rfl) (fun k hk _=>xf (ku (f:=aa 9) (q:=9) rfl (fW (gL (ds:=[aT n f]) (fW rfl) rfl o_))) (by show 2<=1000;decide)))
 rw[show(List.range C.p).filter (fun _=>true)=List.range C.p by simp,show((List.range C.p).map fun k=>ao (k,z))=A.map ao by rw[hA,Zb];rfl]at h1
 refine(aU (ρ1:=[(t9 n f),(c9 n C),some (.lst (A.map ao),1),(none:OD),(none:OD),(none:OD),(none:OD),(none:OD),(none:OD)]) (ig h1 rfl)).trans ?_
 have DH:cW (aw 1 (eC (.int 2))) [(t9 n f),(c9 n C),some (.lst (A.map ao),1),(none:OD),(none:OD),(none:OD),(none:OD),(none:OD),(none:OD)]=some (C.B.map ao,[(t9 n f),(c9 n C),some (.lst (A.map ao),1),(none:OD),(none:OD),(none:OD),(none:OD),(none:OD),(none:OD)]):=Qj (by rw[Qc];omega)
 have h2:=ie (k:=1) (pt:=aC 9) (tt:=bB (qf (aa 9) 2)) (te:=aa 9) (deep:=false) DH (uA (k:=1) ao (fun b=>[(p9 b)]) (fun b=>!decide (b∈A)) ao (fun _=>9) C.B (fun b hb=>⟨rfl,iJ (DA (fa:=aa 9) (q:=9) (q':=1) rfl rfl (DC b A)),fun _=>rfl⟩))
 refine(aU (ρ1:=[(t9 n f),(c9 n C),some (.lst (F0.map ao),1),(none:OD),(none:OD),(none:OD),(none:OD),(none:OD),(none:OD)]) (j3k (ds:=A.map ao) rfl h2 rfl ?_ ?_)).trans ?_
 ·rw[Qc,Qc,KG]
  have:=Zx (fun b=>!decide (b∈A)) C.B
  omega
 ·rw[DD,Q3]
  rfl
 have h3:yU (aa 2) [(t9 n f),(c9 n C),some (.lst (F0.map ao),1),(none:OD),(none:OD),(none:OD),(none:OD),(none:OD),(none:OD)]=some (.lst ((jS F0).map ao),1,[(t9 n f),(c9 n C),some (.lst (F0.map ao),0),(none:OD),(none:OD),(none:OD),(none:OD),(none:OD),(none:OD)]):=by
  show(if 0<=1 then(match oS (F0.map ao)with|some ks=>if ks.length<64 then some (D.lst ((jS ks).map ao),1,_)else none|none=>none)else none)=_
  rw[Qj (QS 1),Cc _ sS]
  show(if F0.length<64 then some (D.lst ((jS F0).map ao),1,_)else none)=_
  rw[Qj DE]
  rfl
 refine(aU (ρ1:=[(t9 n f),(c9 n C),some (.lst ((jS F0).map ao),1),(none:OD),(none:OD),(none:OD),(none:OD),(none:OD),(none:OD)]) (ig h3 rfl)).trans ?_
 refine(aU (ρ1:=[(t9 n f),(c9 n C),some (.lst ((jS F0).map ao),1),some (.int 0,9),(none:OD),(none:OD),(none:OD),(none:OD),(none:OD)]) rfl).trans ?_
 refine(aU ew).trans ?_
 refine jF (ρ1:=[(t9 n f),(c9 n C),some (.lst (G.map ao),0),i,a,b,c,d,e]) ?_
 show(if 0<=1 then(match oS (G.map ao)with|some ks=>if ks.length<64 then some (D.lst ((dH ks).map ao),1,_)else none|none=>none)else none)=_
 rw[Qj (QS 1),Cc _ fun x hx=>by have:=(pz x hx).2;omega]
 show(if G.length<64 then some (D.lst ((dH G).map ao),1,_)else none)=_
 rw[Qj (by omega)]
 rfl
end
def g9 (l:List (Nat×Nat))(a:Nat):List Nat:=(l.filter fun k=>decide (k.1=a)).map (·.2)
theorem qL{x:Nat}:x∈g9 l a ↔ (a,x)∈l:=by
 unfold g9
 rw[Qr]
 exact⟨fun⟨k,hk,e⟩=>by
  obtain⟨h1,h2⟩:=ZW.mp hk
  have:k=(a,x):=VW (QV h2) e
  rw[<- this];exact h1,fun h=>⟨(a,x),ZW.mpr ⟨h,QA rfl⟩,rfl⟩⟩
def gC (f:Nat->Nat->Nat)(z p:Nat)(l:List (Nat×Nat)):List Nat:=(List.range p).map fun a=>(g9 l a).foldl f z
section
variable {n:Nat}{f:Nat->Nat->Nat}(L:aV n f){z:Nat}(hz:z<n)(bz:∀ j,j<n->f z j=j){C:cF}(hC:C.Ok n f)
include L hz bz
theorem DI(hl:∀ k∈l,k.2<n):Vn n p (gC f z p l):=Vn.map fun a ha=>L.fold_lt hz fun x hx=>hl _ (qL.mp hx)
theorem y5q(xj:l.length<=1000)(hl:∀ k∈l,k.2<n)(a:Nat):ur [aT n f,.lst (l.map ao),(iD a)]=(i9 ((g9 l a).foldl f z)):=by
 have hn:n<=1000:=QL L.hi (by decide)
 unfold ur Im
 refine eA ?_
 have hit:cW (aa 1) [(t9 n f),some (.lst (l.map ao),0),(i9 a)]=some (l.map ao,[(t9 n f),some (.lst (l.map ao),0),(i9 a)]):=Qj (by rw[Qc];exact xj)
 have hc:=ie (k:=2) (pt:=jc (cE (aC 3) (cE (aC 4) iH))) (tt:=bB (e2 cS (aa 3) (aa 2))) (te:=aa 4) (deep:=false) hit (uA (k:=2) ao (fun k=>[(i9 k.1),(i9 k.2)]) (fun k=>decide (k.1=a)) (fun k=>(iD k.2)) (fun _=>9) l (fun k hk=>⟨rfl,iJ (iZ (fa:=aa 3) (fb:=aa 2) (q:=9) (q':=9) rfl rfl (wj k.1 a)),fun _=>rfl⟩))
 have eg:((l.filter fun k=>decide (k.1=a)).map fun k=>(iD k.2))=ak (g9 l a):=by unfold g9 ak;rw[Zb];rfl
 rw[eg]at hc
 have lA:(g9 l a).length<=1000:=by
  unfold g9
  rw[Qc]
  exact QL (Zx _ _) xj
 have hj:=z2s L hz bz hn (l:=g9 l a) lA (fun x hx=>hl _ (qL.mp hx))
 exact jF (gL (ku (f:=aa 0) (q:=9) rfl (fW hc)) rfl hj)
include hC
theorem y7g(kT:C.p*n<64):∃ l:List (Nat×Nat),(∀ k,k∈l ↔ ∃ m,RS C z m k)/\l.length<64/\oZ [aT n f,cG n C]=some (.lst (l.map ao),1)/\(∃ ks,l=dH ks/\ks.Nodup)/\wK [aT n f,cG n C]=(v9 (gC f z C.p l)):=by
 obtain⟨ks,nd,mem,es⟩:=z3e L hz bz hC kT
 have hm:∀ k,k∈dH ks ↔ ∃ m,RS C z m k:=fun k=>(ZC ks _).mem_iff.trans (mem k)
 have jC:∀ k∈ks,k.1<C.p/\k.2<n:=fun k hk=>by
  obtain⟨m,h⟩:=(mem k).mp hk
  exact k9 L hz bz hC h
 have hsl:(dH ks).length=ks.length:=(ZC ks _).length_eq
 have hl:=qJ nd jC
 have k7:=hC.p8
 have hp1:=hC.p1
 refine⟨dH ks,hm,by omega,es,⟨ks,rfl,nd⟩,?_⟩
 have qZ:∀ k∈dH ks,k.2<n:=fun k hk=>(jC k ((ZC ks _).mem_iff.mp hk)).2
 have xj:(dH ks).length<=1000:=by omega
 generalize dH ks=l at *
 unfold wK Iq
 refine eA ?_
 refine(aU (ρ1:=[(t9 n f),(c9 n C),some (.lst (l.map ao),1)]) (ig (gL (ds:=[aT n f,cG n C]) rfl rfl es) rfl)).trans ?_
 have hc:=qx (k:=1) (pt:=aC 3) (tt:=da) (te:=aL ur 3 (ab (aa 0) (ab (aa 2) (ab (aa 3) ag)))) (deep:=false) (cj C.p) (fun i=>[(t9 n f),(c9 n C),some (.lst (l.map ao),if i=0 then 1 else 0)]) (fun _=>true) (fun a=>(iD ((g9 l a).foldl f z))) (fun i hi=>by
  refine⟨[(t9 n f),(c9 n C),some (.lst (l.map ao),if i=0 then 1 else 0),(i9 i)],[(t9 n f),(c9 n C),some (.lst (l.map ao),if i=0 then 1 else 0),(i9 i)],by rw[qI];rfl,rfl,?_⟩
  rw[Qj rfl]
  refine⟨9,[(t9 n f),(c9 n C),some (.lst (l.map ao),0),(i9 i)],?_,by simp,rfl⟩
  have hv:aa 2 [(t9 n f),(c9 n C),some (.lst (l.map ao),if i=0 then 1 else 0),(i9 i)]=some (.lst (l.map ao),0,[(t9 n f),(c9 n C),some (.lst (l.map ao),0),(i9 i)]):=Dl rfl
  exact gL (ku (f:=aa 0) (q:=9) rfl (ku hv (fW (q:=9) rfl))) rfl (y5q L hz bz xj qZ i))
 rw[d7,show(List.range C.p).filter (fun _=>true)=List.range C.p by simp]at hc
 have hi:cI (ab (aw 1 (eC (.int 0))) ag) [(t9 n f),(c9 n C),some (.lst (l.map ao),1)]=some (cj C.p,[(t9 n f),(c9 n C),some (.lst (l.map ao),1)]):=mV (m:=C.p) (by omega) (q:=9) rfl
 refine jF (wc (fW (ie hi hc))) |>.trans ?_
 congr 2
 show D.tup _=D.tup _
 congr 1
 unfold gC ak
 rw[Zb]
 rfl
theorem DJ{a:List Nat}(ha:Vn n C.p a)(cl:kZ f (fj C) a):∀ {m:Nat} {k:Nat×Nat},RS C z m k->f k.2 (gv a k.1)=gv a k.1
 | 0,k,⟨s,h1,h2⟩=>by
  obtain⟨b,i⟩:=s
  subst h2
  cases b with
  | false=>exact bz _ (ha.gv h1)
  | true=>
   have hi:i<C.B.length:=h1
   have hb:C.B.getD i (0,0)∈C.B:=by
    rw[Qf,Qb hi]
    exact QR hi
   exact(Dr.mp cl).1 _ hb
 | m+1,k,⟨k',h1,j,h2,h3,h4⟩=>by
  have ih:=DJ ha cl h1
  have hk:=k9 L hz bz hC h1
  have hw:=Dt h2
  obtain⟨w1,w2,w3,w4⟩:=hC.ws _ hw
  have lA:=(Dr.mp cl).2 _ hw
  rw[h3]at lA
  subst h4
  exact L.le_trans (w3 _ hk.2) (w3 _ (ha.gv hk.1)) (ha.gv w2) (w4 _ _ hk.2 (ha.gv hk.1) ih) lA
theorem j7u(hl:∀ k,k∈l ↔ ∃ m,RS C z m k){a:List Nat}(ha:Vn n C.p a)(cl:kZ f (fj C) a):dI f C.p (gC f z C.p l) a:=fun i hi=>by
 unfold gC
 rw[zq _ hi]
 refine L.fg hz bz (ha.gv hi) (fun x hx=>?_) fun x hx=>?_
 ·obtain⟨m,h⟩:=(hl _).mp (qL.mp hx)
  exact(k9 L hz bz hC h).2
 ·obtain⟨m,h⟩:=(hl _).mp (qL.mp hx)
  exact DJ L hz bz hC ha cl h
theorem j7f(hl:∀ k,k∈l ↔ ∃ m,RS C z m k)(hs:∀ w∈C.W,gN n f w.2.2=true):kZ f (fj C) (gC f z C.p l):=by
 have bX:∀ a,∀ x∈g9 l a,x<n:=fun a x hx=>by
  obtain⟨m,h⟩:=(hl _).mp (qL.mp hx)
  exact(k9 L hz bz hC h).2
 have up:∀ k,k∈l->k.1<C.p->f k.2 (gv (gC f z C.p l) k.1)=gv (gC f z C.p l) k.1:=fun k hk hk1=>by
  unfold gC
  rw[zq _ hk1]
  exact L.gq hz (bX k.1) (qL.mpr hk)
 refine Dr.mpr ⟨fun b hb=>?_,fun w hw=>?_⟩
 ·have hb1:=(hC.bs b hb).1
  obtain⟨i,hi,e⟩:=Q2 hb
  refine up b ((hl b).mpr ⟨0,(true,i),hi,?_⟩) hb1
  show C.B.getD i (0,0)=b
  rw[Qf,Qb hi]
  exact e
 ·obtain⟨w1,w2,w3,w4⟩:=hC.ws w hw
  obtain⟨j,hj,e⟩:=Q2 hw
  have KI:jH C j=w:=by unfold jH;rw[Qf,Qb hj];exact e
  have led:∀ x,(w.1,x)∈l->(w.2.1,w.2.2 x)∈l:=fun x hx=>by
   obtain⟨m,h⟩:=(hl _).mp hx
   refine(hl _).mpr ⟨m+1,(w.1,x),h,j,hj,by rw[KI],?_⟩
   unfold dA
   rw[KI]
  have DK:gv (gC f z C.p l) w.1=(g9 l w.1).foldl f z:=by unfold gC;rw[zq _ w1]
  have hb:gv (gC f z C.p l) w.2.1<n:=(DI L hz bz fun k hk=>by
   obtain⟨m,h⟩:=(hl k).mp hk
   exact(k9 L hz bz hC h).2).gv w2
  have spr:=uy.mp (hs w hw)
  rw[DK]
  have key:∀ (xs:List Nat) (y:Nat),y<n->(w.1,y)∈l\/True->(∀ x∈xs,x<n)->(∀ x∈xs,f (w.2.2 x) (gv (gC f z C.p l) w.2.1)=gv (gC f z C.p l) w.2.1)->f (w.2.2 y) (gv (gC f z C.p l) w.2.1)=gv (gC f z C.p l) w.2.1->f (w.2.2 (xs.foldl f y)) (gv (gC f z C.p l) w.2.1)=gv (gC f z C.p l) w.2.1:=by
   intro xs
   induction xs with
   | nil=>intro y _ _ _ _ h;exact h
   | cons x xs ih=>
    intro y hy _ h1 h2 h3
    have hx:=h1 x Qh
    refine ih (f y x) (L.cl _ _ hy hx) (.inr trivial) (fun u hu=>h1 u (Qg _ hu)) (fun u hu=>h2 u (Qg _ hu)) ?_
    rw[spr y x hy hx]
    exact L.lub (w3 y hy) (w3 x hx) hb h3 (h2 x Qh)
  refine key (g9 l w.1) z hz (.inr trivial) (bX w.1) (fun x hx=>up _ (led x (qL.mp hx)) w2) ?_
  exact up _ (led z ((hl _).mpr ⟨0,(false,w.1),w1,rfl⟩)) w2
end
theorem z7n(n:Nat)(l:List (Nat×Nat×(Nat->Nat))):cS (.lst (l.map (bN n))) (.lst [])=some (.bl (decide (l=[]))):=by
 have h:Sh 3 (.lst (l.map (bN n))):=.lst fun d hd=>by
  obtain⟨w,_,rfl⟩:=Qr.mp hd
  exact .tup fun d hd=>by
   rcases Qw.mp hd with rfl|hd
   ·exact .int _
   ·rcases Qw.mp hd with rfl|hd
    ·exact .int _
    ·rw[Qq.mp hd];exact We _ _
 unfold cS
 rw[Qj ⟨h.ok,(wg []).ok⟩]
 cases l with
 | nil=>rfl
 | cons w l=>
  rw[QZ (by simp)]
  rfl
section
variable {n:Nat}{f:Nat->Nat->Nat}(L:aV n f)(h8:n<=8){z:Nat}(hz:z<n)(bz:∀ j,j<n->f z j=j)
include L h8 hz bz
theorem KJ(ns:List Int)(sp:Bool)(x3 x4 x5 x6 x7 x8:OD):∃ y3 y4 y5 y6 y7 y8,zA [(n0 ns),(t9 n f),(b9 sp),x3,x4,x5,x6,x7,x8]=some (.nx [(n0 ns),(t9 n f),(b9 sp),y3,y4,y5,y6,y7,y8]):=by
 have hn:n<=1000:=QL L.hi (by decide)
 obtain⟨C,hC,lg,hp5,hW7,hB3,t5⟩:∃ C:cF,C.Ok n f/\(sp=true->∀ w∈C.W,gN n f w.2.2=true)/\C.p<=5/\C.W.length<=7/\C.B.length<=3/\oX [bV ns,.int (20+180*(if sp then 1 else 0)),aT n f,.bl sp]=(c9 n C):=by
  cases sp with
  | false=>
   obtain⟨C,h1,h2,h3,h4,h5⟩:=y5u L hz bz ns 20 (by decide)
   exact⟨C,h1,(fun q=>by cases q),h2,h3,h4,h5⟩
  | true=>
   obtain⟨C,h1,h0,h2,h3,h4,h5⟩:=y3x L hz bz ns 200 (by decide)
   exact⟨C,h1,fun _=>h0,h2,h3,h4,h5⟩
 have kT:C.p*n<64:=Z8 (JO hp5 h8) (by decide)
 obtain⟨l,hl,xj,es,⟨ks,rfl,nd⟩,eb⟩:=y7g L hz bz hC kT
 obtain⟨G,nG,mG,eg⟩:=y45 L hz bz hC kT (by omega)
 have pz:∀ k∈G,k.1<C.p/\k.2<n:=fun k hk=>by
  obtain⟨m,h⟩:=(mG k).mp hk
  exact k9 L hz bz hC h
 have xk:dH G=dH ks:=(z2w nd nG (fun k=>((ZC ks _).mem_iff.symm.trans (hl k)).trans (mG k).symm) fun x hx=>by have:=(pz x hx).2;omega).symm
 rw[xk]at eg
 obtain⟨u,hu,eu⟩:=y72 L hz bz hC
 have qZ:∀ k∈dH ks,k.1<C.p/\k.2<n:=fun k hk=>by
  obtain⟨m,h⟩:=(hl k).mp hk
  exact k9 L hz bz hC h
 have hcol:∀ a,g9 (dH ks) a=g9 (dH ks) a:=fun _=>rfl
 have hRu:∀ k∈dH ks,f k.2 (gv u k.1)=gv u k.1:=fun k hk=>by
  obtain⟨m,h⟩:=(hl k).mp hk
  exact DJ L hz bz hC hu.V hu.cl h
 have sU:dI f C.p (gC f z C.p (dH ks)) u:=j7u L hz bz hC hl hu.V hu.cl
 have KN:(∀ w∈C.W,gN n f w.2.2=true)->gC f z C.p (dH ks)=u:=fun hs=>by
  have hv:=DI L hz bz (p:=C.p) fun k hk=>(qZ k hk).2
  exact L.gy hv hu.V sU (hu.le _ hv (j7f L hz bz hC hl hs) (Kq bz hv))
 have hv:=DI L hz bz (p:=C.p) fun k hk=>(qZ k hk).2
 have DK:∀ a,a<C.p->gv (gC f z C.p (dH ks)) a=(g9 (dH ks) a).foldl f z:=fun a ha=>by unfold gC;rw[zq _ ha]
 obtain⟨u2,xl,eu2⟩:=y4t L hC hv
 have e2u:u2=u:=L.gy xl.V hu.V (xl.le u hu.V hu.cl sU) (hu.le u2 xl.V xl.cl (Kq bz xl.V))
 subst e2u
 have KO:=y2w (n:=n) (f:=f) (p:=C.p) (by omega) hv hu.V
 rw[j2d.mpr sU]at KO
 generalize dH ks=l at *
 generalize hvv:gC f z C.p l=v at *
 have hlen:(l.map ao).length<=1000:=by rw[Qc];omega
 have sV:aL oX 4 (ab (aa 0) (ab (e2 cn (eC (.int 20)) (e2 kc (eC (.int 180)) (eB yK (ab (aa 2) ag)))) (ab (aa 1) (ab (aa 2) ag)))) [(n0 ns),(t9 n f),(b9 sp),x3,x4,x5,x6,x7,x8]=some (cG n C,9,[(n0 ns),(t9 n f),(b9 sp),x3,x4,x5,x6,x7,x8]):=by
  refine gL (ds:=[bV ns,.int (20+180*(if sp then 1 else 0)),aT n f,.bl sp]) ?_ rfl t5
  refine ku (q:=0) rfl (ku (q:=9) (iZ (q:=9) (q':=9) rfl (iZ (q:=9) (q':=9) rfl (Hv (fW (q:=9) rfl) rfl) (?_:kc (.int 180) (.int (if sp then 1 else 0))=some (.int (180*(if sp then 1 else 0))))) rfl) rfl)
  cases sp<;>rfl
 obtain⟨ρ1,l1,q,y7,rfl⟩:=jE (pt:=aC 7) (body:=C6) (cj C.p) (fun i ρ=>∃ q y7,ρ=[(n0 ns),(t9 n f),(b9 sp),(c9 n C),(v9 v),(v9 u2),some (.lst (l.map ao),q),y7,x8]) [(n0 ns),(t9 n f),(b9 sp),(c9 n C),(v9 v),(v9 u2),some (.lst (l.map ao),1),x7,x8] (fun i hi ρ ai=>by
  obtain⟨q,y7,hr⟩:=ai
  subst hr
  have cD:i<C.p:=by rw[d7]at hi;exact hi
  refine⟨[(n0 ns),(t9 n f),(b9 sp),(c9 n C),(v9 v),(v9 u2),some (.lst (l.map ao),q),(i9 i),x8],[(n0 ns),(t9 n f),(b9 sp),(c9 n C),(v9 v),(v9 u2),some (.lst (l.map ao),0),(i9 i),x8],by rw[qI];rfl,.inl ?_,0,_,rfl⟩
  unfold C6
  have DL:aa 6 [(n0 ns),(t9 n f),(b9 sp),(c9 n C),(v9 v),(v9 u2),some (.lst (l.map ao),q),(i9 i),x8]=some (.lst (l.map ao),0,[(n0 ns),(t9 n f),(b9 sp),(c9 n C),(v9 v),(v9 u2),some (.lst (l.map ao),0),(i9 i),x8]):=Dl rfl
  have hit:cW (aa 6) [(n0 ns),(t9 n f),(b9 sp),(c9 n C),(v9 v),(v9 u2),some (.lst (l.map ao),q),(i9 i),x8]=some (l.map ao,[(n0 ns),(t9 n f),(b9 sp),(c9 n C),(v9 v),(v9 u2),some (.lst (l.map ao),0),(i9 i),x8]):=by
   unfold cW
   rw[DL]
   exact Qj hlen
  have hc:=ie (k:=1) (pt:=aC 9) (tt:=bB (e2 cS (aw 9 (eC (.int 0))) (aa 7))) (te:=aw 9 (eC (.int 1))) (deep:=false) hit (uA (k:=1) ao (fun k=>[(p9 k)]) (fun k=>decide (k.1=i)) (fun k=>(iD k.2)) (fun _=>9) l (fun k hk=>⟨rfl,iJ (iZ (fa:=aw 9 (eC (.int 0))) (fb:=aa 7) (q:=9) (q':=9) rfl rfl (wj k.1 i)),fun _=>rfl⟩))
  have eg':((l.filter fun k=>decide (k.1=i)).map fun k=>(iD k.2))=ak (g9 l i):=by unfold g9 ak;rw[Zb];rfl
  rw[eg']at hc
  have lA:(g9 l i).length<=1000:=by
   unfold g9
   rw[Qc]
   refine QL (Zx _ _) (by omega)
  have hj:=Kg L hz bz hn (l:=g9 l i) lA (fun x hx=>(qZ _ (qL.mp hx)).2)
  have a0:=uf (v:=v) (i:=i) (by rw[hv.len];exact cD)
  rw[DK i cD]at a0
  refine(mJ (iJ (iZ (fa:=aw 4 (aa 7)) (uB (b:=aa 7) (q:=9) (q':=9) rfl rfl a0 rfl) (gL (ku (f:=aa 1) (q:=9) rfl (fW hc)) rfl hj) ((wm _ _).trans (by rw[QA rfl];rfl))))).trans rfl) ⟨1,x7,rfl⟩
 have DL:aa 6 [(n0 ns),(t9 n f),(b9 sp),(c9 n C),(v9 v),(v9 u2),some (.lst (l.map ao),q),y7,x8]=some (.lst (l.map ao),0,[(n0 ns),(t9 n f),(b9 sp),(c9 n C),(v9 v),(v9 u2),some (.lst (l.map ao),0),y7,x8]):=Dl rfl
 have hit:cW (aa 6) [(n0 ns),(t9 n f),(b9 sp),(c9 n C),(v9 v),(v9 u2),some (.lst (l.map ao),q),y7,x8]=some (l.map ao,[(n0 ns),(t9 n f),(b9 sp),(c9 n C),(v9 v),(v9 u2),some (.lst (l.map ao),0),y7,x8]):=by
  unfold cW
  rw[DL]
  exact Qj hlen
 obtain⟨j',l2⟩:=(Hw (J:=OD×OD) (pt:=jc (cE (aC 7) (cE (aC 8) iH))) (body:=C5) (d:=.bl false) (q:=9) ao (fun _=>true) (fun j=>[(n0 ns),(t9 n f),(b9 sp),(c9 n C),(v9 v),(v9 u2),some (.lst (l.map ao),0),j.1,j.2]) l (y7,x8) (fun k hk j=>by
  refine⟨_,rfl,fun _=>⟨((i9 k.1),(i9 k.2)),?_⟩,fun q=>by cases q⟩
  obtain⟨k1,k2⟩:=qZ k hk
  have a0:=uf (v:=u2) (i:=k.1) (by rw[hu.V.len];exact k1)
  have a1:=ky (f:=f) k2
  have a2:=kW (f:=f) (i:=k.2) (hu.V.gv k1)
  rw[hRu k hk]at a2
  unfold C5
  exact(mJ (iJ (iZ (zE (a:=aw 1 (aa 8)) (b:=aw 5 (aa 7)) (uB (b:=aa 8) (q:=9) (q':=9) rfl rfl a1 rfl) (uB (b:=aa 7) (q:=9) (q':=9) rfl rfl a0 rfl) a2 rfl rfl) (uB (i:=5) (b:=aa 7) (q:=9) (q':=9) rfl rfl a0 rfl) ((wm _ _).trans (by rw[QA rfl];rfl))))).trans rfl)).1 (by simp)
 unfold zA
 refine⟨(c9 n C),(v9 v),(v9 u2),some (.lst (l.map ao),0),j'.1,j'.2,(aU (ig sV rfl)).trans ?_⟩
 refine(aU (ρ1:=[(n0 ns),(t9 n f),(b9 sp),(c9 n C),(v9 v),x5,x6,x7,x8]) (ig (gL (ds:=[aT n f,cG n C]) rfl rfl eb) rfl)).trans ?_
 refine(aU (ρ1:=[(n0 ns),(t9 n f),(b9 sp),(c9 n C),(v9 v),(v9 u2),x6,x7,x8]) (ig (gL (ds:=[aT n f,cG n C]) rfl rfl eu) rfl)).trans ?_
 refine(aU (ρ1:=[(n0 ns),(t9 n f),(b9 sp),(c9 n C),(v9 v),(v9 u2),some (.lst (l.map ao),1),x7,x8]) (ig (gL (ds:=[aT n f,cG n C]) rfl rfl eg) rfl)).trans ?_
 refine(aU ((gp (mV (m:=C.p) (by omega) (q:=9) rfl)).trans l1)).trans ?_
 have DM:di (.tup (ak u2)) (.tup (ak u2))=some (.bl false):=(sr u2 u2).trans (by rw[QA rfl];rfl)
 refine(aU (ρ1:=[(n0 ns),(t9 n f),(b9 sp),(c9 n C),(v9 v),(v9 u2),some (.lst (l.map ao),q),y7,x8]) ((mJ ((Kr (Ks (Kt (gL (ds:=[aT n f,.tup (ak v),.tup (ak u2)]) rfl rfl KO)))).trans (iJ (iZ (gL (ds:=[aT n f,cG n C,.tup (ak v)]) rfl rfl eu2) (fb:=aa 5) (q':=9) rfl DM)))).trans rfl)).trans ?_
 refine(aU ((gp hit).trans l2)).trans ?_
 have xQ:ny (bB (e2 di (aL oZ 2 (ab (aa 1) (ab (aa 3) ag))) (aa 6))) (nv (iT (aa 2)) (bB (e2 di (aa 4) (aa 5)))) [(n0 ns),(t9 n f),(b9 sp),(c9 n C),(v9 v),(v9 u2),some (.lst (l.map ao),0),j'.1,j'.2]=some (false,[(n0 ns),(t9 n f),(b9 sp),(c9 n C),(v9 v),(v9 u2),some (.lst (l.map ao),0),j'.1,j'.2]):=by
  refine(Kr (iJ (iZ (gL (ds:=[aT n f,cG n C]) rfl rfl es) (fb:=aa 6) (q':=0) rfl (z9d l)))).trans ?_
  cases sp with
  | false=>exact Dz rfl
  | true=>
   have e:=KN (lg rfl)
   subst e
   exact(zJ rfl).trans (iJ (iZ (fa:=aa 4) (fb:=aa 5) (q:=9) (q':=9) rfl rfl DM))
 refine(aU ((mJ xQ).trans rfl)).trans ?_
 have DN:cW (aw 3 (eC (.int 1))) [(n0 ns),(t9 n f),(b9 sp),(c9 n C),(v9 v),(v9 u2),some (.lst (l.map ao),0),j'.1,j'.2]=some (C.W.map (bN n),[(n0 ns),(t9 n f),(b9 sp),(c9 n C),(v9 v),(v9 u2),some (.lst (l.map ao),0),j'.1,j'.2]):=Qj (by rw[Qc];omega)
 have KP:=ie (k:=1) (pt:=aC 9) (tt:=ls (iT (aL qE 2 (ab (aa 1) (ab (aw 9 (eC (.int 2))) ag))))) (te:=aa 9) (deep:=false) DN (uA (k:=1) (bN n) (fun w=>[some (bN n w,9)]) (fun w=>!gN n f w.2.2) (bN n) (fun _=>9) C.W (fun w hw=>⟨rfl,Ks (Kt (gL (ds:=[aT n f,b_ n w.2.2]) rfl rfl (Ki L (hC.ws w hw).2.2.1))),fun _=>rfl⟩))
 have hE:=z7n n (C.W.filter fun w=>!gN n f w.2.2)
 by_cases hf:(C.W.filter fun w=>!gN n f w.2.2)=[]
 ·rw[QA hf]at hE
  have hs:∀ w∈C.W,gN n f w.2.2=true:=fun w hw=>by
   have:=VM.mp hf w hw
   cases q:gN n f w.2.2 with
   | true=>rfl
   | false=>rw[q]at this;exact absurd rfl this
  have e:=KN hs
  subst e
  exact(mJ ((zJ (iJ (iZ KP (rfl:c_ ag _=some (.lst [],1,_)) hE))).trans (iJ (iZ (fa:=aa 4) (fb:=aa 5) (q:=9) (q':=9) rfl rfl DM)))).trans rfl
 ·rw[QZ hf]at hE
  exact(mJ (Dz (iJ (iZ KP (rfl:c_ ag _=some (.lst [],1,_)) hE)))).trans rfl
end
theorem m7(ns:List Int)(h63:ns.length<=63):∃ q,ux [.lst (ns.map D.int)]=some (.bl true,q):=by
 obtain⟨n,f,L,h8,hL⟩:=j2l ns 0 (YF 0)
 obtain⟨z,hz,bz⟩:=L.bot
 refine⟨9,?_⟩
 unfold ux IZ
 refine eA ?_
 show aG _ _ [(n0 ns),none,none,none,none,none,none,none,none]=_
 refine(aU (ρ1:=[(n0 ns),(t9 n f),none,none,none,none,none,none,none]) (ig (gL (ds:=[bV ns,.int 0]) rfl rfl hL) rfl)).trans ?_
 obtain⟨a3,a4,a5,a6,a7,a8,e1⟩:=KJ L h8 hz bz ns false none none none none none none
 obtain⟨b3,b4,b5,b6,b7,b8,e2⟩:=KJ L h8 hz bz ns true a3 a4 a5 a6 a7 a8
 have hf:dF (aC 2) zA [.bl false,.bl true] [(n0 ns),(t9 n f),none,none,none,none,none,none,none]=some (.nx [(n0 ns),(t9 n f),(b9 true),b3,b4,b5,b6,b7,b8]):=(zj rfl e1).trans ((zj rfl e2).trans rfl)
 refine(aU ((gp (ds:=[.bl false,.bl true]) (ρ1:=[(n0 ns),(t9 n f),none,none,none,none,none,none,none]) rfl).trans hf)).trans rfl
def A0 (K:PySem.W.Frag)(mg:Str->Option Value)(x:Str)(st:Stmt):Prop:=∃ f fd,lU K x x st f fd/\mg x=some (.ref f)
theorem A0.mk{K:PySem.W.Frag}{h:Heap}{mg:Str->Option Value}{x:Str}{f:Addr}{od an:Option Addr}{sl:Array (Option Value)}{oc kV dc pm cd ct:Value}(X:K.In h)(G:h.Ns mainGlobals mg)(a:PySem.W.nsIn K mainGlobals x=some (some (.ref f)))(l:K.lookup f=some ⟨oc,od,.func (PySem.W.fnOf x x (pN st) (j8 st) (bu st) .none kV dc pm an cd ct),sl⟩)(c:PySem.W.codeIn K cd x=true)(k:PySem.W.keepIn K (.ref f)=true):A0 K mg x st:=⟨_,_,EE l c k,PySem.W.mg_of X G a⟩
theorem A0.at{K:PySem.W.Frag}{mg:Str->Option Value}{x:Str}{ps:List Str}(a:A0 K mg x st)(h:∀ (kV doc pm:Value) (an:Option Addr) (cz ct:Value) (us:List Value),us.length=ps.length->bindArgs (PySem.W.fnOf x x (pN st) (j8 st) (bu st) .none kV doc pm an cz ct) ⟨us,[]⟩=pure (ps.zip us)):At K mg x st ps:=by
 obtain⟨f,fd,F,m⟩:=a
 exact⟨f,fd,F,m,F.binds h⟩
theorem all_mk{l:PySem.W.OpenLaw}{w:World}{K:PySem.W.Frag}{h:Heap}{mg:Str->Option Value}{fa:Addr}{DO:Addr}{DP xm:Option Addr}{DQ:Array (Option Value)}{DR xn xp xq sW xr:Value}(X:K.In h)(G:h.Ns mainGlobals mg)(hfa:mg "law" = some (.ref fa))
  (A1:A0 K mg "_law_cell" (top 32))
  (A2:A0 K mg "_law_pick" (top 33))
  (A3:A0 K mg "_law_chain" (top 34))
  (A4:A0 K mg "_law_couples" (top 35))
  (A5:A0 K mg "_law_side_by_side" (top 36))
  (A6:A0 K mg "_law_base" (top 37))
  (A7:A0 K mg "_law_ladder" (top 38))
  (A8:A0 K mg "_law_low" (top 39))
  (A9:A0 K mg "_law_join" (top 40))
  (A10:A0 K mg "_law_under" (top 41))
  (A11:A0 K mg "_law_rule" (top 42))
  (A12:A0 K mg "_law_spreads" (top 43))
  (A13:A0 K mg "_law_spread_rule" (top 44))
  (A14:A0 K mg "_law_chart" (top 45))
  (A15:A0 K mg "all_starts" (top 12))
  (A16:A0 K mg "ways_from" (top 14))
  (A17:A0 K mg "led_on" (top 15))
  (A18:A0 K mg "longer_paths" (top 17))
  (A19:A0 K mg "row_of_least" (top 8))
  (A20:A0 K mg "least_of" (top 9))
  (A21:A0 K mg "started" (top 13))
  (A22:A0 K mg "shortest_paths" (top 16))
  (A23:A0 K mg "states" (top 18))
  (A24:A0 K mg "joined_all" (top 10))
  (A25:A0 K mg "joined_at" (top 20))
  (A26:A0 K mg "by_paths" (top 19))
  (A27:A0 K mg "is_whole" (top 4))
  (A28:A0 K mg "is_number_of" (top 5))
  (A29:A0 K mg "is_named_number" (top 6))
  (A30:A0 K mg "is_step" (top 25))
  (A31:A0 K mg "refuse_no_step" (top 26))
  (A32:A0 K mg "place_and_worth" (top 27))
  (A33:A0 K mg "worths_behind" (top 28))
  (A34:A0 K mg "risen" (top 29))
  (A35:A0 K mg "lowest" (top 22))
  (A36:A0 K mg "least_by" (top 30))
  (A37:A0 K mg "all_steps" (top 24))
  (A38:A0 K mg "least" (top 23))
  (A39:A0 K mg "_law_states" (top 51))
  (A40:A0 K mg "_law_is_no_more" (top 50))
  (A41:A0 K mg "_law_raised" (top 46))
  (A42:A0 K mg "_law_lowest" (top 47))
  (a43:PySem.W.nsIn K mainGlobals "law" = some (some (.ref DO))) (l43:K.lookup DO=some ⟨DR,DP,.func (PySem.W.fnOf "law" "law" (pN (top 52)) (j8 (top 52)) (bu (top 52)) .none xn xp xq xm sW xr),DQ⟩) (c43:PySem.W.codeIn K sW "law" = true) (k43:PySem.W.keepIn K (.ref DO)=true)
  (z1:PySem.W.nsIn K mainGlobals "all" = some none) (z2:PySem.W.nsIn K mainGlobals "bool" = some none) (z3:PySem.W.nsIn K mainGlobals "enumerate" = some none) (z4:PySem.W.nsIn K mainGlobals "int" = some none) (z5:PySem.W.nsIn K mainGlobals "isinstance" = some none) (z6:PySem.W.nsIn K mainGlobals "len" = some none) (z7:PySem.W.nsIn K mainGlobals "list" = some none) (z8:PySem.W.nsIn K mainGlobals "max" = some none) (z9:PySem.W.nsIn K mainGlobals "range" = some none) (z10:PySem.W.nsIn K mainGlobals "set" = some none) (z11:PySem.W.nsIn K mainGlobals "sorted" = some none) (z12:PySem.W.nsIn K mainGlobals "str" = some none) (z13:PySem.W.nsIn K mainGlobals "tuple" = some none) :
  ∃ fd:FuncData,(∀ (s:Shared) (v:Value),BindsTo s fd ⟨[v],[]⟩ [("_law_script",v)])/\∀ base:Heap,K.In base->base.Ns mainGlobals mg->eG l.prog w K mg base ju 8 fa fd ["_law_script"] (kL K 1 ux):=by
 have e:=hfa.symm.trans (PySem.W.mg_of X G a43)
 cases e
 have B:Bt mg:=⟨Zc X G z1,Zc X G z2,Zc X G z3,Zc X G z4,Zc X G z5,Zc X G z6,Zc X G z7,Zc X G z8,Zc X G z9,Zc X G z10,Zc X G z11,Zc X G z12,Zc X G z13⟩
 refine⟨PySem.W.fnOf "law" "law" (pN (top 52)) (j8 (top 52)) (bu (top 52)) .none xn xp xq xm sW xr,fun s v=>.of_eq rfl,fun base KX NG=>?_⟩
 have jf:=Wl (P:=l.prog) (w:=w) (base:=base) B (A1.at fun _ _ _ _ _ _ _ h=>by obtain⟨_,_,rfl⟩:=L3.ij h;rfl)
 have bW:=Wm B jf (A2.at fun _ _ _ _ _ _ _ h=>by obtain⟨_,_,_,rfl⟩:=L3.kX h;rfl)
 have iM:=Ws (P:=l.prog) (w:=w) (base:=base) B (A3.at fun _ _ _ _ _ _ _ h=>by obtain⟨_,rfl⟩:=L3.kS h;rfl)
 have gD:=Ww (P:=l.prog) (w:=w) (base:=base) B (A4.at fun _ _ _ _ _ _ _ h=>by obtain⟨_,_,rfl⟩:=L3.ij h;rfl)
 have dR:=WA (P:=l.prog) (w:=w) (base:=base) B (A5.at fun _ _ _ _ _ _ _ h=>by obtain⟨_,rfl⟩:=L3.kS h;rfl)
 have jg:=WB B bW iM gD dR (A6.at fun _ _ _ _ _ _ _ h=>by obtain⟨_,_,rfl⟩:=L3.ij h;rfl)
 have g_:=WH B jg bW (A7.at fun _ _ _ _ _ _ _ h=>by obtain⟨_,_,rfl⟩:=L3.ij h;rfl)
 have d9:=WK (P:=l.prog) (w:=w) (base:=base) B (A8.at fun _ _ _ _ _ _ _ h=>by obtain⟨_,rfl⟩:=L3.kS h;rfl)
 have fD:=WN B d9 (A9.at fun _ _ _ _ _ _ _ h=>by obtain⟨_,_,rfl⟩:=L3.ij h;rfl)
 have iN:=WR (P:=l.prog) (w:=w) (base:=base) B (A10.at fun _ _ _ _ _ _ _ h=>by obtain⟨_,_,rfl⟩:=L3.ij h;rfl)
 have fE:=WV B d9 bW fD iN (A11.at fun _ _ _ _ _ _ _ h=>by obtain⟨_,_,_,rfl⟩:=L3.kX h;rfl)
 have dB:=WZ (P:=l.prog) (w:=w) (base:=base) B (A12.at fun _ _ _ _ _ _ _ h=>by obtain⟨_,_,rfl⟩:=L3.ij h;rfl)
 have d_:=W1 B fE dB bW (A13.at fun _ _ _ _ _ _ _ h=>by obtain⟨_,_,_,rfl⟩:=L3.kX h;rfl)
 have iO:=W2 B bW fE d_ (A14.at fun _ _ _ _ _ _ _ h=>by obtain⟨_,_,_,_,rfl⟩:=L3.CI h;rfl)
 have iP:=W4 (P:=l.prog) (w:=w) (base:=base) B (A15.at fun _ _ _ _ _ _ _ h=>by obtain⟨_,rfl⟩:=L3.kS h;rfl)
 have jh:=W6 (P:=l.prog) (w:=w) (base:=base) B (A16.at fun _ _ _ _ _ _ _ h=>by obtain⟨_,_,rfl⟩:=L3.ij h;rfl)
 have m8:=W7 (P:=l.prog) (w:=w) (base:=base) B (A17.at fun _ _ _ _ _ _ _ h=>by obtain⟨_,_,_,rfl⟩:=L3.kX h;rfl)
 have gE:=W8 B jh m8 (A18.at fun _ _ _ _ _ _ _ h=>by obtain⟨_,_,_,rfl⟩:=L3.kX h;rfl)
 have gF:=Xb (P:=l.prog) (w:=w) (base:=base) B (A19.at fun _ _ _ _ _ _ _ h=>by obtain⟨_,rfl⟩:=L3.kS h;rfl)
 have el:=Xd B gF (A20.at fun _ _ _ _ _ _ _ h=>by obtain⟨_,rfl⟩:=L3.kS h;rfl)
 have k_:=Xg B el (A21.at fun _ _ _ _ _ _ _ h=>by obtain⟨_,_,_,rfl⟩:=L3.kX h;rfl)
 have fq:=Xh B iP k_ gE (A22.at fun _ _ _ _ _ _ _ h=>by obtain⟨_,_,rfl⟩:=L3.ij h;rfl)
 have ji:=Xm B fq (A23.at fun _ _ _ _ _ _ _ h=>by obtain⟨_,_,rfl⟩:=L3.ij h;rfl)
 have iQ:=Xp B el (A24.at fun _ _ _ _ _ _ _ h=>by obtain⟨_,_,rfl⟩:=L3.ij h;rfl)
 have jj:=Xr B iQ (A25.at fun _ _ _ _ _ _ _ h=>by obtain⟨_,_,_,rfl⟩:=L3.kX h;rfl)
 have jW:=Xu B ji jj (A26.at fun _ _ _ _ _ _ _ h=>by obtain⟨_,_,rfl⟩:=L3.ij h;rfl)
 have jX:=Xx (P:=l.prog) (w:=w) (base:=base) B (A27.at fun _ _ _ _ _ _ _ h=>by obtain⟨_,rfl⟩:=L3.kS h;rfl)
 have gG:=Xz B jX (A28.at fun _ _ _ _ _ _ _ h=>by obtain⟨_,_,rfl⟩:=L3.ij h;rfl)
 have eP:=XD B gG (A29.at fun _ _ _ _ _ _ _ h=>by obtain⟨_,_,rfl⟩:=L3.ij h;rfl)
 have la:=XG B eP (A30.at fun _ _ _ _ _ _ _ h=>by obtain⟨_,_,rfl⟩:=L3.ij h;rfl)
 have fu:=XM B la (A31.at fun _ _ _ _ _ _ _ h=>by obtain⟨_,_,rfl⟩:=L3.ij h;rfl)
 have eQ:=XQ (P:=l.prog) (w:=w) (base:=base) B (A32.at fun _ _ _ _ _ _ _ h=>by obtain⟨_,_,_,rfl⟩:=L3.kX h;rfl)
 have fN:=XR B eQ (A33.at fun _ _ _ _ _ _ _ h=>by obtain⟨_,_,_,_,rfl⟩:=L3.CI h;rfl)
 have pA:=XT B fN (A34.at fun _ _ _ _ _ _ _ h=>by obtain⟨_,_,_,_,rfl⟩:=L3.CI h;rfl)
 have m9:=XX B el (A35.at fun _ _ _ _ _ _ _ h=>by obtain⟨_,_,rfl⟩:=L3.ij h;rfl)
 have jY:=XY B fu pA m9 (A36.at fun _ _ _ _ _ _ _ h=>by obtain⟨_,_,_,rfl⟩:=L3.kX h;rfl)
 have jk:=X2 (P:=l.prog) (w:=w) (base:=base) B (A37.at fun _ _ _ _ _ _ _ h=>by obtain⟨_,rfl⟩:=L3.kS h;rfl)
 have pB:=X4 B jY jk (A38.at fun _ _ _ _ _ _ _ h=>by obtain⟨_,_,rfl⟩:=L3.ij h;rfl)
 have hJ:=X9 B d9 (A39.at fun _ _ _ _ _ _ _ h=>by obtain⟨_,_,rfl⟩:=L3.ij h;rfl)
 have eR:=Z_ (P:=l.prog) (w:=w) (base:=base) B (A40.at fun _ _ _ _ _ _ _ h=>by obtain⟨_,_,_,rfl⟩:=L3.kX h;rfl)
 have hU:=y4r (P:=l.prog) (w:=w) (base:=base) B (A41.at fun _ _ _ _ _ _ _ h=>by obtain⟨_,_,_,rfl⟩:=L3.kX h;rfl)
 have hV:=y41 B hU (A42.at fun _ _ _ _ _ _ _ h=>by obtain⟨_,_,_,rfl⟩:=L3.kX h;rfl)
 exact z9x B g_ iO jW pB hJ fD eR hV ji dB (EE (st:=top 52) l43 c43 k43)
theorem walk{l:PySem.W.OpenLaw}{q:Program}{loose:List Str}{XP:(Str->Option Value)->Heap->Prop}{YP:World->Heap->Prop}{d:DefRec}{K:Params->PySem.W.Frag}(hn:l.most=some 63)(uY:d.params.defaults=[])
  (hY:∀ (w:World) (h:Heap),YP w h->(K w.params).In h)
  (F:∀ (w:World) (mg:Str->Option Value) (fa:Addr) (h:Heap),(K w.params).In h->h.Ns mainGlobals mg->mg d.name=some (.ref fa)->(∀ x∈tO,PySem.W.tabIn (K w.params) x=none) /\
    ∃ fd:FuncData,(∀ (s:Shared) (u:Value),BindsTo s fd ⟨[u],[]⟩ [("_law_script",u)])/\∀ base:Heap,(K w.params).In base->base.Ns mainGlobals mg->eG l.prog w (K w.params) mg base ju 8 fa fd ["_law_script"] (kL (K w.params) 1 ux)) :
  PySem.W.WalkO q loose XP YP l.row.toRowW d [] (fun f vs=>PySem.call f vs):=
 UZ (n:=63) (k:=8) (x:="_law_script") (F0:=ux) hn (by decide) uY ⟨rfl,by decide,by decide⟩ hY F fun _ _ a ns hl tb hS=>PV m7 hl hS tb
end My
namespace PySem.W.Fast
def tw10075892309460535976:=0
def tw10081674798115585892:=0
def tw10099901244471164314:=0
def tw10179680862164460926:=0
def tw10266167614478917071:=0
def tw10278984252704363813:=0
def tw10338721054429233441:=0
def tw10412267091960314866:=0
def tw10470277348549943910:=0
def tw10515239879838343959:=0
def tw10552121894070748162:=0
def tw10616622648893629478:=0
def tw10671393281097219211:=0
def tw10757822265237051821:=0
def tw10760047210783748353:=0
def tw10828850303676843944:=0
def tw10903017701234457022:=0
def tw10953916615585320974:=0
def tw11124772511014485424:=0
def tw11138214157387986018:=0
def tw11253733480447362998:=0
def tw11314484031248655946:=0
def tw11333806210748878260:=0
def tw11393953300974887954:=0
def tw11490330945360769401:=0
def tw11587865341026067966:=0
def tw11693873247331560285:=0
def tw1171496214401938928:=0
def tw11721065837403581643:=0
def tw11767658241397027614:=0
def tw11773219269119755096:=0
def tw11852407882452027028:=0
def tw11864492838386336287:=0
def tw11975380271856814162:=0
def tw11982578829699789957:=0
def tw12076939271573844058:=0
def tw12098154118233215005:=0
def tw12127656480937317315:=0
def tw1224733212711364859:=0
def tw12305979715969124832:=0
def tw12365345928143085663:=0
def tw12378325783005486183:=0
def tw12491004346598082550:=0
def tw12524514593971090515:=0
def tw1298234881569160230:=0
def tw13093216728373864056:=0
def tw1311337295622599686:=0
def tw13146150258898940445:=0
def tw13333260175916395167:=0
def tw13409433050878690438:=0
def tw13472503156052411388:=0
def tw13486658009502744158:=0
def tw13577039412639756034:=0
def tw13579149121198750532:=0
def tw13602402291991083667:=0
def tw13674701540301041143:=0
def tw13707784431847528552:=0
def tw13728106518759459414:=0
def tw13858647132620675867:=0
def tw13959547196053807038:=0
def tw1399001200379851844:=0
def tw1400361801250885927:=0
def tw14038240418255007677:=0
def tw1408985658534699958:=0
def tw14115965371613065438:=0
def tw1420413762919458051:=0
def tw14246328026523435949:=0
def tw14323951117062997703:=0
def tw14459409824833069765:=0
def tw14512862412602617775:=0
def tw14579476058010546780:=0
def tw14819525235106070149:=0
def tw14868940901334926694:=0
def tw14932343592849881164:=0
def tw1495424275588742448:=0
def tw14972343218324465149:=0
def tw15037856922500713176:=0
def tw15336219184880842267:=0
def tw15354354624190445800:=0
def tw15457272849969152930:=0
def tw155235012952685487:=0
def tw15549272233642878439:=0
def tw15606186556144700902:=0
def tw15634859422383074241:=0
def tw1563907892580463943:=0
def tw15858018228386138273:=0
def tw15864776877046941236:=0
def tw15866484416442605396:=0
def tw15866717510038448999:=0
def tw1591276414806059445:=0
def tw15938388907287867084:=0
def tw15987443130114501081:=0
def tw16012447337691535707:=0
def tw16028571948381277958:=0
def tw16073184826703613007:=0
def tw16101580986959230843:=0
def tw16115598038848766360:=0
def tw16269352070475042924:=0
def tw16313564235631977172:=0
def tw16435505590311734915:=0
def tw16508437069874538729:=0
def tw1653105829924002783:=0
def tw16612037576949088427:=0
def tw16669899871954259475:=0
def tw16732497308738671324:=0
def tw16760798474916133671:=0
def tw16782631380262991140:=0
def tw16872332214657981656:=0
def tw1688466249171451587:=0
def tw16936925761524616187:=0
def tw16940288249260374012:=0
def tw16977755561666389591:=0
def tw17037767392712603001:=0
def tw171393917102395588:=0
def tw17204205124793362749:=0
def tw17219490880127716796:=0
def tw172736291643957848:=0
def tw17312201466779692907:=0
def tw17392811651148555385:=0
def tw17436505495684310386:=0
def tw17506331210023926397:=0
def tw17513550515942776219:=0
def tw1751447213974532727:=0
def tw17624948089577831903:=0
def tw17630174710462559755:=0
def tw17664059641090295672:=0
def tw17678726249078397269:=0
def tw17682062015966175322:=0
def tw17693006561962623179:=0
def tw17722348132732215056:=0
def tw17946425902178984520:=0
def tw17963715447095825420:=0
def tw18004298331927791362:=0
def tw18016550493862108134:=0
def tw18033828687650364855:=0
def tw18086534660804007387:=0
def tw18124712712739642102:=0
def tw18201433202634985752:=0
def tw18224417401088108582:=0
def tw1823786571773245382:=0
def tw18261063485944461142:=0
def tw18427996511818514669:=0
def tw2093291243622873319:=0
def tw2155846348843798955:=0
def tw2187099239169327447:=0
def tw2350172863986265237:=0
def tw2362744398878455784:=0
def tw2464853880269674833:=0
def tw2477125669108380118:=0
def tw2488454060719900310:=0
def tw2497561896517007852:=0
def tw2544891082221009725:=0
def tw2739920144210928030:=0
def tw2799462806123982949:=0
def tw291111367720408369:=0
def tw2911986535486282205:=0
def tw2941049142470050208:=0
def tw3056083211636596760:=0
def tw3075356715170583704:=0
def tw3144751470304509397:=0
def tw315924248377052467:=0
def tw3269054879576094267:=0
def tw3276958525591678927:=0
def tw337839067629082621:=0
def tw3403928068706138847:=0
def tw3413993737810619204:=0
def tw350346036759596319:=0
def tw3504331950113100357:=0
def tw3570002162600349688:=0
def tw3639946099542891651:=0
def tw3708363943122716903:=0
def tw3748259534881112070:=0
def tw3849593472771081752:=0
def tw3881511737718473835:=0
def tw4033786121688604239:=0
def tw4182783817199109133:=0
def tw4218505223370837716:=0
def tw4278486834260250007:=0
def tw4380471818953534804:=0
def tw4397044027979298798:=0
def tw442100859568500870:=0
def tw4510251955203362670:=0
def tw4562357863722894239:=0
def tw4613344912067148966:=0
def tw467198786793860916:=0
def tw4674779848064167446:=0
def tw4692121992376457860:=0
def tw4761680566863746032:=0
def tw4778017991991155473:=0
def tw4782612404797537647:=0
def tw4984207691943121316:=0
def tw5005239136381464484:=0
def tw5102499403241161369:=0
def tw5123320947485260827:=0
def tw5154507592349597007:=0
def tw5192348504837437487:=0
def tw5196077894616913998:=0
def tw5349908172492787216:=0
def tw5462336621183384328:=0
def tw5467729121341807704:=0
def tw547221674758023722:=0
def tw5501534045891139968:=0
def tw5521838968446764253:=0
def tw5553680616752961977:=0
def tw5562177534463448114:=0
def tw5650918297011755357:=0
def tw5741386875546990945:=0
def tw5765325573901379258:=0
def tw5767017220649621121:=0
def tw5772261088807570982:=0
def tw5840464608280614811:=0
def tw5996114365334695817:=0
def tw6033370379741948493:=0
def tw6037763541276029176:=0
def tw6062300567404249116:=0
def tw6100933353299546403:=0
def tw6116758512352020850:=0
def tw6141861150824736430:=0
def tw6216446404273304755:=0
def tw6362851187444798206:=0
def tw6445303499891841840:=0
def tw650326279381333735:=0
def tw65802709505755115:=0
def tw658153723051664742:=0
def tw6619879963913893411:=0
def tw668973981574947728:=0
def tw6705257174518643751:=0
def tw6773545872450787143:=0
def tw6782721185285582359:=0
def tw6816035430557716401:=0
def tw6832456320756593373:=0
def tw6855489382585957220:=0
def tw688602981937475098:=0
def tw6985391727642762526:=0
def tw7018216915935971317:=0
def tw7047678510628604403:=0
def tw7130894114391447861:=0
def tw7209158832375513717:=0
def tw7268979186249880608:=0
def tw7361796541959068792:=0
def tw7434599934813925971:=0
def tw7494223157693984535:=0
def tw7509411491333624385:=0
def tw7511243202591012233:=0
def tw75996540493725157:=0
def tw7637330778668456114:=0
def tw763935746255968337:=0
def tw7649110596659697604:=0
def tw7675944476585594446:=0
def tw7724519094541133207:=0
def tw7724607524576248434:=0
def tw7751915906885120502:=0
def tw7859530538581190666:=0
def tw7861979947542151265:=0
def tw7910168889414122136:=0
def tw7964782884164221359:=0
def tw8100312194285518162:=0
def tw8129438309887940671:=0
def tw8221034011235941595:=0
def tw844882275836166607:=0
def tw8501731584280224587:=0
def tw8549107152666583434:=0
def tw8638161884686645247:=0
def tw8687899511095194014:=0
def tw8779087601046834766:=0
def tw8839590001764005305:=0
def tw8910174372109359373:=0
def tw9038600772176784829:=0
def tw9049601017214128339:=0
def tw9104542997299603217:=0
def tw9218807959837064664:=0
def tw9241219505420717360:=0
def tw9276387444504330946:=0
def tw9285264702601354263:=0
def tw928595021164911307:=0
def tw9305873381631320041:=0
def tw9354680823132229981:=0
def tw948786242602876039:=0
def tw9500659384886924427:=0
def tw9508340928023840204:=0
def tw9569409536478003150:=0
def tw9612413335218659305:=0
def tw9698496573221560313:=0
def tw974494823095138255:=0
def tw9766035440052943149:=0
def tw9772016336962157695:=0
def tw9808458033238277237:=0
def tw9832831448652745524:=0
def tw9862881559297880988:=0
def tw9875996318857423921:=0
def tw9944895607642131096:=0
end PySem.W.Fast
open PySem PySem.W PyProof.Rows
set_option maxRecDepth 100000 in
set_option maxHeartbeats 0 in
theorem PySem.Challenge.cw_ladderhall_k42_whole_by_paths_holds : PySem.Challenge.rw_ladderhall_k42_whole_by_paths.Holds := by
  w_on; o_law; k_head; (case hw => w_witness2)
  k_fill
  refine My.walk (l := PySem.Challenge.rw_ladderhall_k42_whole_by_paths) rfl rfl (fun w h Y => PySem.W.kIn_of Y) ?F
  case F =>
    intro w mg fa h KX G hmg
    refine' ⟨L3.T0.of ?r1 ?r2 ?r3 ?r4 ?r5 ?r6, ?al⟩
    (case r1 => refine' L3.j65 ?_; k_is)
    (case r2 => refine' L3.j65 ?_; k_is)
    (case r3 => refine' L3.j65 ?_; k_is)
    (case r4 => refine' L3.j65 ?_; k_is)
    (case r5 => refine' L3.j65 ?_; k_is)
    (case r6 => refine' L3.j65 ?_; k_is)
    refine' My.all_mk KX G hmg ?A1 ?A2 ?A3 ?A4 ?A5 ?A6 ?A7 ?A8 ?A9 ?A10 ?A11 ?A12 ?A13 ?A14 ?A15 ?A16 ?A17 ?A18 ?A19 ?A20 ?A21 ?A22 ?A23 ?A24 ?A25 ?A26 ?A27 ?A28 ?A29 ?A30 ?A31 ?A32 ?A33 ?A34 ?A35 ?A36 ?A37 ?A38 ?A39 ?A40 ?A41 ?A42 ?a43 ?l43 ?c43 ?k43 ?z1 ?z2 ?z3 ?z4 ?z5 ?z6 ?z7 ?z8 ?z9 ?z10 ?z11 ?z12 ?z13
    (case A1 | A2 | A3 | A4 | A5 | A6 | A7 | A8 | A9 | A10 | A11 | A12 | A13 | A14 | A15 | A16 | A17 | A18 | A19 | A20 | A21 | A22 | A23 | A24 | A25 | A26 | A27 | A28 | A29 | A30 | A31 | A32 | A33 | A34 | A35 | A36 | A37 | A38 | A39 | A40 | A41 | A42 => refine' My.A0.mk KX G ?a ?l ?c ?k; (case a => k_is); (case l => k_is); (case c => k_is); (case k => k_is))
    (case a43 => k_is)
    (case l43 => k_is)
    (case c43 => k_is)
    (case k43 => k_is)
    (case z1 => k_is)
    (case z2 => k_is)
    (case z3 => k_is)
    (case z4 => k_is)
    (case z5 => k_is)
    (case z6 => k_is)
    (case z7 => k_is)
    (case z8 => k_is)
    (case z9 => k_is)
    (case z10 => k_is)
    (case z11 => k_is)
    (case z12 => k_is)
    (case z13 => k_is)
