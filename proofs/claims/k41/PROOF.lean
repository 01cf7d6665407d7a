import PyProof.Rows.All
import Wide.All
import OpenK.AllK
import Wide.FinOn
import Lean
import PyProof.EqAt
import PyProof.EqKinds
import PyProof.TupleCall
import KE.KIsNot
import PyProof.ExcArgs
import OpenK.KOwn
import KE.LcSums
import PyProof.EnumMake
import PyProof.Draws
import PyProof.Rows.EnumRows
import PyProof.ExcBaseAll.ValueError
import PyProof.NsDelKeeps
import PyProof.Rows.SetFrom
import PyProof.WalksMore
import KE.KDictSum
import PyProof.Rows.MinMaxN
import PyProof.Rows.CallKwBuiltin
import KE.KMinKey
import KE.KSortKey
import PyProof.DictWalks
import PySem.SetOps
import PyProof.TupleKey
import PyProof.SetKind
import PyProof.IsRules
import PyProof.Rules
import PyProof.DictKinds
import KE.KSortAsk
import KE.KSortTup
import PyProof.PureInt
import PyProof.DictIter
import KE.KItemsList
import PyProof.DictUpdate
import PyProof.DictRoadsH
import PySem.Challenge.RW_ladderhall_k41_whole_path_to
set_option Elab.async false
set_option linter.all false
set_option maxRecDepth 100000
set_option maxHeartbeats 0
noncomputable section
def Qa:=@PySem.wpAny_bind
def Qb:=@List.getElem?_eq_getElem
def Qc:=@List.length_map
def Qd:=@PySem.wpAny_pure
def Qe:=@PySem.Heap.get?_push_of_some
def Qf:=@if_pos
def Qg:=@List.getD_eq_getElem?_getD
def Qh:=@Nat.le_refl
def Qi:=@if_neg
def Qj:=@List.mem_cons_of_mem
def Qk:=@List.getElem?_map
def Ql:=@List.mem_cons_self
def Qm:=@List.length_append
def Qn:=@List.size_toArray
def Qo:=@PySem.Heap.lt_size
def Qp:=@List.mem_append_right
def Qq:=@List.getElem?_eq_some_iff
def Qr:=@List.mem_singleton
def Qs:=@List.mem_cons
def Qt:=@decide_eq_true
def Qu:=@Bool.false_eq_true
def Qv:=@PySem.Heap.get?_push_size
def Qw:=@Nat.lt_of_lt_of_le
def Qx:=@Option.map_eq_some_iff
def Qy:=@List.mem_map
def Qz:=@List.mem_append_left
def QA:=@List.mem_range
def QB:=@List.length_range
def QC:=@decide_eq_false
def QF:=@Option.some.inj
def QG:=@List.mem_append
def QH:=@Array.getD_eq_getD_getElem?
def QI:=@List.map_cons
def QJ:=@List.not_mem_nil
def QK:=@List.mem_of_getElem?
def QL:=@Nat.zero_le
def QM:=@Nat.ne_of_lt
def QN:=@PySem.PassesOwn.never
def QO:=@Nat.le_trans
def QP:=@List.getElem?_set_self
def QR:=@List.getElem?_set_ne
def QS:=@List.length_set
def QT:=@PySem.SeqAt.canLay_of_shaped
def QU:=@Array.length_toList
def QV:=@PySem.mem_of_lookup
def QW:=@List.getElem?_append_left
def QX:=@Bool.and_eq_true_iff
def QY:=@List.map_append
def QZ:=@PySem.Heap.SameBut.update
def Q0:=@List.getElem_mem
def Q1:=@Nat.not_lt_zero
def Q2:=@Nat.lt_irrefl
def Q3:=@List.getElem?_eq_none
def Q4:=@List.nodup_cons
def Q5:=@of_decide_eq_true
def Q6:=@PySem.W.mg_none_of
def Q7:=@Array.getElem?_eq_getElem
def Q8:=@List.map_congr_left
def Q9:=@PySem.wpAny_holding
def Za:=@List.length_take
def Zb:=@List.length_cons
def Zc:=@Nat.lt_succ_of_lt
def Zd:=@Bool.false_ne_true
def Ze:=@Array.getElem?_toList
def Zf:=@List.map_map
def Zg:=@PyProof.Rows.boot_tuple
def Zh:=@List.getElem_of_mem
def Zi:=@PySem.W.mg_of
def Zj:=@if_false
def Zk:=@List.getElem?_range
def Zl:=@PySem.W.kia_one
def Zm:=@List.getElem?_append_right
def Zn:=@List.lookup_cons
def Zo:=@PySem.wpAny_newObj_type
def Zp:=@PySem.F.slot_dict_keyiterator_next
def Zq:=@Nat.lt_succ_self
def Zr:=@PySem.wpAny_call_entry
def Zs:=@PySem.wpAny_mono
def Zt:=@PySem.Heap.get?_update_self
def Zu:=@List.getElem?_cons_succ
def Zv:=@if_true
def Zw:=@List.mem_filter
def Zx:=@PyProof.Rows.boot_list
def Zy:=@beq_iff_eq
def Zz:=@List.append_assoc
def ZA:=@decide_eq_true_eq
def ZB:=@List.length_replicate
def ZC:=@PySem.Calls.spliced_cons
def ZD:=@PySem.F.called_set
def ZE:=@PySem.wpAny_callSpecial?_slot
def ZF:=@List.length_eq_zero_iff
def ZG:=@Nat.le_of_lt
def ZH:=@PySem.wpAny_truthy_bool
def ZI:=@PySem.Heap.get?_update_other
def ZJ:=@PySem.Heap.size_push
def ZK:=@List.ext_getElem?
def ZL:=@PySem.wpAny_dictEntries
def ZM:=@beq_eq_false_iff_ne
def ZN:=@List.replicate_succ
def ZO:=@List.length_pos_iff
def ZP:=@PySem.sizeLine_eq
def ZQ:=@List.append_nil
def ZR:=@PySem.F.slot_dict_get
def ZS:=@List.length_filter_le
def ZT:=@PySem.tupleKind_room_in1
def ZU:=@decide_eq_decide
def ZV:=@List.take_length
def ZW:=@List.getElem?_take_of_lt
def ZX:=@Bool.not_true
def ZY:=@PySem.Calls.evalArgs_plain
def ZZ:=@PySem.wpAny_typeNameOfWhole_keyiter
def Z0:=@List.getElem?_replicate
def Z1:=@PySem.F.plainAttrs_list
def Z2:=@PySem.wpAny_setState_of
def Z3:=@List.take_add_one
def Z4:=@PySem.codeAny_builtin
def Z5:=@List.length_zip
def Z6:=@PyProof.Rows.F.plain_set_update_loop
def Z7:=@PyProof.Rows.callWith_type1
def Z8:=@PySem.Calls.callWith_builtin
def Z9:=@Array.getElem?_eq_none
def Ja:=@beq_self_eq_true
def Jb:=@congrArg
def Jc:=@PySem.F.slot_tuple_iterator_next
def Jd:=@Array.getElem?_eq_some_iff
def Je:=@List.getElem?_toArray
def Jf:=@PySem.wpAny_passesOwn
def Jg:=@List.length_nil
def Jh:=@PySem.Calls.spliced_nil
def Ji:=@List.flatten_cons
def Jj:=@PySem.codeAny_call_builtin
def Jk:=@PySem.Around.under_plainId
def Jl:=@List.nodup_append
def Jm:=@PySem.Paired.length
def Jn:=@Option.isSome_iff_exists
def Jo:=@PySem.call_meets
def Jp:=@List.filterMap_cons_some
def Jq:=@List.filterMap_cons
def Jr:=@Ne.symm
def Js:=@PySem.F.plainAttrs_dict
def Jt:=@Bool.and_eq_true
def Ju:=@PyProof.Rows.room_in_shaped
def Jv:=@PySem.W.cellsFrom_some
def Jw:=@Nat.lt_of_le_of_lt
def Jx:=@PySem.F.entry_dict_get
def Jy:=@PySem.wpAny_pyIter_tuple
def Jz:=@Nat.succ_pos
def JA:=@List.length_pos_of_mem
def JB:=@Nat.min_self
def JC:=@Nat.succ.inj
def JD:=@List.find?_cons
def JE:=@Option.map_some
def JF:=@PyProof.Rows.boot_isinstance
def JG:=@List.any_cons
def JH:=@PySem.builtinLookup_eq_fast
def JI:=@PySem.F.typeOf_object_class
def JJ:=@List.pairwise_map
def JK:=@Nat.le_succ
def JL:=@List.nodup_nil
def JM:=@Std.Legacy.Range.forIn_eq_forIn_range'
def JN:=@PySem.Obj.data_mapDictKeys
def JO:=@Nat.mul_le_mul
def JP:=@PySem.codeAny_mono
def JQ:=@List.length_drop
def JR:=@PySem.wpAny_forIn_list
def JS:=@List.range'_succ
def JT:=@List.mem_flatMap
def JU:=@List.drop_eq_getElem_cons
def JV:=@List.pairwise_iff_getElem
def JW:=@PyProof.Rows.F.entry_set_update_loop
def JX:=@List.mergeSort_perm
def JY:=@PySem.F.args_dict_keyiterator_next_1
def JZ:=@PySem.wpAny_attempt
def J0:=@List.length_erase_of_mem
def J1:=@List.filterMap_cons_none
def J2:=@PySem.F.entry_dict_keyiterator_next
def J4:=@PySem.wpAny_execs_nil
def J6:=@PySem.pushCells_keeps
def J9:=@Nat.le_antisymm
def Ya:=@PyProof.Rows.get?_update_seq
def Yb:=@PySem.wpAny_dictEpoch
def Yc:=@List.mem_filterMap
def Yd:=@PySem.wpAny_Call_Name_kw
def Ye:=@PySem.Obj.data_mapFields
def Yf:=@List.zip_cons_cons
def Yg:=@List.findIdx?_eq_some_iff_getElem
def Yh:=@PySem.Value.isInt_shape
def Yi:=@PySem.call_meetsIn
def Yj:=@PySem.wpAny_Call_method
def Yk:=@PySem.isSubtype_type
def Yl:=@Int.toNat_natCast
def Ym:=@Nat.zero_add
def Yn:=@bne_self_eq_false
def Yo:=@PySem.F.slot_dict_iter
def Yp:=@Int.ofNat_lt
def Yq:=@List.take_append_drop
def Yr:=@List.getElem?_zipWith
def Ys:=@PySem.wpAny_notOrdered_dict
def Yt:=@PySem.wpAny_execs_cons
def Yu:=@List.all_eq_true
def Yv:=@Nat.le_add_right
def Yw:=@PySem.F.slot_tuple_mul
def Yx:=@PySem.wpAny_isInstance
def Yy:=@List.nodup_range
def Yz:=@List.any_eq_true
def YA:=@PySem.W.Looks.of_pure
def YB:=@Array.mem_toList_iff
def YC:=@List.range_eq_range'
def YD:=@Nat.exists_eq_succ_of_ne_zero
def YE:=@List.mem_erase_of_ne
def YF:=@List.mem_of_mem_take
def YG:=@List.of_mem_zip
def YH:=@PySem.F.slot_int_rmul
def YI:=@PySem.wpAny_specialOf
def YJ:=@PySem.typeLookup_type
def YK:=@PySem.F.args_tuple_iterator_next_1
def YL:=@Nat.lt_succ_iff
def YM:=@PySem.size_of_entries
def YN:=@PySem.F.slot_dict_setdefault
def YO:=@List.range_succ
def YQ:=@List.mem_zipIdx_iff_getElem?
def YR:=@PySem.F.slot_gs_get
def YS:=@Int.toNat_of_nonneg
def YT:=@List.map_eq_nil_iff
def YU:=@PySem.Obj.isFreed_of_dict
def YV:=@Nat.mul_comm
def YW:=@Nat.lt_trans
def YX:=@PySem.F.entry_tuple_iterator_next
def YY:=@List.idxOf_lt_length_of_mem
def YZ:=@PySem.Calls.Name_function_global
def Y0:=@PySem.Code.quiet_builtin
def Y1:=@PySem.F.excAttr_ValueError
def Y2:=@PySem.wpAny_rule
def Y3:=@Nat.not_lt
def Y4:=@List.getElem?_take_eq_none
def Y5:=@PySem.SeqAt.readsAll_map
def Y6:=@PySem.wpAny_seqItems
def Y7:=@PySem.wpAny_setField
def Y8:=@PySem.F.excBase_ValueError
def Y9:=@List.length_zipIdx
def Va:=@PySem.wpAny_fieldsOf
def Vb:=@Array.perm_iff_toList_perm
def Vc:=@Int.emod_lt_of_pos
def Vd:=@PySem.wpAny_binaryOp_repeat_ref
def Ve:=@List.ne_nil_of_length_pos
def Vf:=@PySem.Calls.call_function_entry
def Vg:=@PySem.W.kitx_list
def Vh:=@Array.getElem_mem
def Vi:=@PySem.wpAny_pyIter_slot
def Vj:=@Int.le_refl
def Vk:=@PySem.F.slot_tuple_index
def Vl:=@Array.size_setIfInBounds
def Vm:=@Bool.and_true
def Vn:=@Bool.true_and
def Vo:=@PySem.F.slot_dict_update
def Vq:=@PySem.wpAny_eqBool_int
def Vr:=@Nat.succ_le_succ
def Vs:=@PySem.F.args_dict_get_2
def Vt:=@PySem.F.args_dict_get_3
def Vu:=@PySem.isinstance_outer
def Vv:=@PySem.SeqAt.items_eqAt
def Vw:=@or_false
def Vx:=@PySem.F.slot_list_count
def Vy:=@PySem.F.slot_list_index
def Vz:=@PySem.wpAny_askSetting
def VA:=@Nat.div_eq_of_lt
def VB:=@List.pairwise_mergeSort
def VC:=@List.getElem_map
def VD:=@Nat.ne_of_gt
def VE:=@PySem.wpAny_call
def VF:=@PySem.typeIs_int
def VG:=@PySem.wpAny_typeOf
def VH:=@Nat.mod_lt
def VI:=@List.take_of_length_le
def VJ:=@Nat.lt_or_ge
def VL:=@PySem.call_isinstance
def VM:=@List.zip_append
def VN:=@Array.Perm.refl
def VO:=@Int.emod_nonneg
def VP:=@PySem.F.type_dict_get
def VQ:=@PySem.F.plain_set_new
def VR:=@List.Perm.append_left
def VS:=@PySem.F.slot_set_iter
def VT:=@PyProof.Rows.boot_max
def VU:=@List.Pairwise.and_mem
def VW:=@Bool.and_false
def VX:=@PySem.W.looks_subIn
def VY:=@PySem.boot_len
def VZ:=@PySem.wpAny_field
def V0:=@PySem.wpAny_of_eq
def V1:=@List.length_eraseIdx
def V2:=@Bool.not_false
def V3:=@Array.getElem_of_mem
def V4:=@PySem.W.kdl_size
def V5:=@dif_pos
def V6:=@List.flatMap_append
def V7:=@Nat.mul_le_mul_left
def V8:=@Int.ofNat.inj
def V9:=@List.map_nil
def Ua:=@Nat.succ_add
def Ub:=@Nat.sub_self
def Uc:=@Int.le_trans
def Ud:=@Prod.ext
def Ue:=@Sum.inr.inj
namespace L2
open PySem PySem.Spec PyProof.Rows
variable {A:Around}{C a b dx it:Addr}{E:Value->Shared->Prop}{K:PySem.W.Frag}{M:Model}{N ps:List Str}{P:Program}{Q:Unit->Shared->Prop}{base h:Heap}{body:List Stmt}{c e tg:Expr}{es:List Expr}{f:Value->Value->Sem Value}{fp:List Addr}{g:Int->Int->Int}{i j n:Nat}{kindOf:Str->Option NameKind}{mA mg:Str->Option Value}{o:Obj}{op kP:CmpOp}{pins:List (Addr×Obj)}{qual x:Str}{s s':Shared}{sc scope:Scope}{u v:Value}{us:List Value}{w:World}
abbrev Key:=Sum Int Str
def tL:Key->Value->Bool
 | .inl k,v=>Value.isInt k v
 | .inr x,v=>Value.isStrOf x v
def Lx (w:World):Key->Int
 | .inl k=>hashInt k
 | .inr x=>hashStr w x
theorem n_:∀ {k:Key} {v:Value},tL k v=true->(∃ i t,k=Sum.inl i/\v=Value.int i t)\/(∃ x t,k=Sum.inr x/\v=Value.str x t)
 | .inl i,v,h=>by
  obtain⟨t,e⟩:=Yh (k:=i) (v:=v) h
  exact .inl ⟨i,t,rfl,e⟩
 | .inr x,v,h=>by
  obtain⟨t,e⟩:=Value.isStrOf_shape (x:=x) (v:=v) h
  exact .inr ⟨x,t,rfl,e⟩
def Ly(i:Int)(t:Tok):tL (.inl i) (.int i t)=true:=by simp[tL,Value.isInt]
def Lz(x:Str)(t:Tok):tL (.inr x) (.str x t)=true:=by simp[tL,Value.isStrOf]
def LA(a b:Int):decide ((Sum.inl a:Key)=Sum.inl b)=(a==b):=by
 by_cases e:a=b
 ·subst e;simp
 ·have h:¬ (Sum.inl a:Key)=Sum.inl b:=fun q=>e (Sum.inl.inj q)
  rw[QC h]
  exact(ZM.mpr e).symm
def LB(a b:Str):decide ((Sum.inr a:Key)=Sum.inr b)=decide (a=b):=by
 by_cases e:a=b
 ·subst e;simp
 ·have h:¬ (Sum.inr a:Key)=Sum.inr b:=fun q=>e (Ue q)
  rw[QC h,QC e]
def LC(a:Int)(b:Str):decide ((Sum.inl a:Key)=Sum.inr b)=false:=QC (fun q=>nomatch q)
def LD(a:Str)(b:Int):decide ((Sum.inr a:Key)=Sum.inl b)=false:=QC (fun q=>nomatch q)
def gM (prog:Program)(w:World):PySem.KeyKind prog w Key where
 is:=tL
 hash:=Lx w
 inj:=fun v a b ha hb=>by
  rcases n_ ha with⟨i,t,rfl,rfl⟩|⟨x,t,rfl,rfl⟩
  ·rcases n_ hb with⟨j,u,rfl,e⟩|⟨y,u,rfl,e⟩
   ·injection e with e1 _;rw[e1]
   ·exact nomatch e
  ·rcases n_ hb with⟨j,u,rfl,e⟩|⟨y,u,rfl,e⟩
   ·exact nomatch e
   ·injection e with e1 _;rw[e1]
 byValue:=fun k v h=>by
  rcases n_ h with⟨i,t,rfl,rfl⟩|⟨x,t,rfl,rfl⟩<;>rfl
 pyHash:=fun hv h=>by
  rcases n_ hv with⟨i,t,rfl,rfl⟩|⟨x,t,rfl,rfl⟩
  ·exact wpAny_pyHash_int h
  ·exact wpAny_pyHash_str h
 eqBool:=fun hu hv h=>by
  rcases n_ hu with⟨i,t,rfl,rfl⟩|⟨x,t,rfl,rfl⟩
  ·rcases n_ hv with⟨j,u,rfl,rfl⟩|⟨y,u,rfl,rfl⟩
   ·rw[LA]at h;exact Vq h
   ·rw[LC]at h;exact SeqAt.EqAt.int_str i t y u _ _ _ _ h
  ·rcases n_ hv with⟨j,u,rfl,rfl⟩|⟨y,u,rfl,rfl⟩
   ·rw[LD]at h;exact SeqAt.EqAt.str_int x t j u _ _ _ _ h
   ·rw[LB]at h;exact wpAny_eqBool_str h
 «strs»:=fun k x t v h=>by
  rcases n_ h with⟨i,u,rfl,e⟩|⟨y,u,rfl,e⟩
  ·exact nomatch e
  ·injection e with e1 _
   subst e1
   cases v<;>rfl
def LF(prog:Program)(w:World)(i:Int)(t:Tok):(gM prog w).is (.inl i) (.int i t)=true:=Ly i t
def LG(prog:Program)(w:World)(x:Str)(t:Tok):(gM prog w).is (.inr x) (.str x t)=true:=Lz x t
inductive V where
 | aK|bl (b:Bool)|int (i:Int)|str (x:Str)|uW (b:Array UInt8)|tM (b:UInt64)|ref (a:Addr)|ty (n:String)
 deriving DecidableEq
def bC:V->Value->Prop
 | .aK,u=>u=Value.none
 | .bl b,u=>u=Value.bool b
 | .int i,u=>∃ t,u=Value.int i t
 | .str x,u=>∃ t,u=Value.str x t
 | .uW b,u=>∃ t,u=Value.bytes b t
 | .tM b,u=>∃ t,u=Value.float b t
 | .ref a,u=>u=Value.ref a
 | .ty n,u=>u=Value.type n
abbrev bq:List V->List Value->Prop:=Paired bC
def bq.length{xs:List V}(r:bq xs us):xs.length=us.length:=Jm r
theorem bq.get:∀ {xs:List V} {us:List Value} {i:Nat} {x:V},bq xs us->xs[i]? = some x->∃ u,us[i]? = some u/\bC x u
 | _,_,_,_,.nil,e=>by simp at e
 | _,_,0,_,.cons r _,e=>by simp at e;subst e;exact⟨_,rfl,r⟩
 | _,_,i+1,x,.cons _ t,e=>by
  obtain⟨u,h1,h2⟩:=bq.get (i:=i) (x:=x) t (by simpa using e)
  exact⟨u,by simpa using h1,h2⟩
theorem bq.set{x:V}(r:bC x u):∀ {xs:List V} {us:List Value} (i:Nat),bq xs us->bq (xs.set i x) (us.set i u)
 | _,_,_,.nil=>.nil
 | _,_,0,.cons _ t=>.cons r t
 | _,_,i+1,.cons q t=>.cons q (bq.set r i t)
theorem bq.append:∀ {xs ys:List V} {us ws:List Value},bq xs us->bq ys ws->bq (xs++ys) (us++ws)
 | _,_,_,_,.nil,s=>s
 | _,_,_,_,.cons r t,s=>.cons r (bq.append t s)
theorem bq.take:∀ {xs:List V} {us:List Value} (n:Nat),bq xs us->bq (xs.take n) (us.take n)
 | _,_,0,_=>.nil
 | _,_,_+1,.nil=>.nil
 | _,_,n+1,.cons r t=>.cons r (bq.take n t)
theorem bq.drop:∀ {xs:List V} {us:List Value} (n:Nat),bq xs us->bq (xs.drop n) (us.drop n)
 | _,_,0,r=>r
 | _,_,_+1,.nil=>.nil
 | _,_,n+1,.cons _ t=>bq.drop n t
def kQ:Option V->Option Value->Prop
 | some v,some u=>bC v u
 | none,none=>True
 | _,_=>False
def KV {κ:Type}:List (κ×V)->List (κ×Value)->Prop:=Paired fun(p:κ×V) (q:κ×Value)=>p.1=q.1/\bC p.2 q.2
def kV:Key->V
 | .inl i=>.int i
 | .inr x=>.str x
inductive HO where
 | lst (xs:List V)
 | tup (xs:List V)
 | dK (ai:List (Key×V))|dT (ai:List (List Key×V))
 | set (S:Int->Bool) (n:Nat)
 | ins (C dx:Addr) (fs:List (Str×V))
 | own (x:Addr)
 | xd (fs:List (Str×V))
 | met (f x:Addr)
 | lL (lo hi:Int)
 | eE (o:Obj) (u:HO)
 | jt (ps:Array Value)
 | ext (φ:Heap->Prop)
abbrev Hp:=Addr->Option HO
def upd (H:Hp)(a:Addr)(o:HO):Hp:=fun b=>if b=a then some o else H b
def fX{H:Hp}{o:HO}:upd H a o a=some o:=by unfold upd;rw[Qf rfl]
def bc{H:Hp}{o:HO}(h:b≠a):upd H a o b=H b:=by unfold upd;rw[Qi h]
def LH{H:Hp}{o u:HO}:upd (upd H a o) a u=upd H a u:=by
 funext b;unfold upd;split<;>rfl
def Aq{H:Hp}{o u:HO}(h:H a=some o)(h':H b=some u)(d:o≠u):a≠b:=by
 intro e;subst e;rw[h]at h';exact d (QF h')
def ib{H:Hp}{o:HO}(h:H a=some o)(h':H b=none):a≠b:=by
 intro e;subst e;rw[h]at h';cases h'
def l8 (h:Heap)(a:Addr)(items:Array Value):Prop:=∃ o,h.get? a=some o/\o.cls=.type "tuple" /\ (∃ n,o.data=.seq items n)/\o.dict=none
def l8.tup{h:Heap}{a:Addr}{items:Array Value}(x:l8 h a items):IsTup h a items:=let ⟨o,e,c,n,_⟩:=x;⟨o,e,c,n⟩
def l8.new(h:Heap)(items:Array Value):l8 (h.push { cls:=.type "tuple",data:=.seq items }) h.objs.size items:=⟨_,Qv _ rfl,rfl,⟨_,rfl⟩,rfl⟩
def l8.lt{items:Array Value}(x:l8 h a items):a<h.objs.size:=let ⟨_,e,_⟩:=x;Qo e
section
variable (P:Program)(w:World)
def cU (H:Hp)(h:Heap)(a:Addr):HO->Prop
 | .lst xs=>xs.length<=sizeLine/\∃ (aq:List Value) (n:Nat),bq xs aq/\h.get? a=some { cls:=.type "list",data:=.seq aq.toArray n }
 | .tup xs=>xs.length<=sizeLine/\∃ aq:List Value,bq xs aq/\l8 h a aq.toArray
 | .dK ai=>ai.length<=sizeLine/\(a==sysModules)=false/\∃ vs,KV ai vs/\h.DictOf (gM P w) a vs
 | .dT ai=>ai.length<=sizeLine/\(a==sysModules)=false/\∃ xs:List (List Key×Addr×Value),
   Paired (fun(p:List Key×V) (q:List Key×Addr×Value)=>p.1=q.1/\H q.2.1=some (.tup (p.1.map kV))/\bC p.2 q.2.2) ai xs /\
   ∃ o es ep,h.get? a=some o/\o.ExactDict/\o.data=.dict es ep/\es.toList=xs.map (entryOfKey (tupleKind (gM P w)))/\(xs.map (·.1)).Nodup
 | .set S n=>h.SetOf (intKind P w) a S n
 | .ins C dx fs=>H dx=some (.own a)/\fs.length<=1000/\dx≠a/\h.get? a=some (PySem.W.instObj C dx) /\
   ∃ mA,h.Ns1 dx mA/\(∀ f,kQ (fs.lookup f) (mA f))/\PySem.Within mA (fs.map (·.1))
 | .own _=>∃ o,h.get? a=some o
 | .xd fs=>∃ mA,h.Ns1 a mA/\∀ f,kQ (fs.lookup f) (mA f)
 | .lL lo hi=>∃ t u v,h.get? a=some { cls:=.type "range",data:=.fields #[.int lo t,.int hi u,.int 1 v] }
 | .eE o u=>h.get? a=some o/\cU H h a u
 | .jt ps=>h.get? a=some { cls:=.none,data:=.fields ps }
 | .met f x=>h.get? a=some (PySem.W.methodObj (.ref f) (.ref x))
 | .ext φ=>φ h/\(∃ o,h.get? a=some o)/\∀ h1 h2:Heap,φ h1->(∀ o,h1.get? a=some o->h2.get? a=some o)->φ h2
def cV (H:Hp)(h:Heap):Prop:=∀ a o,H a=some o->cU P w H h a o
end
section
variable {P:Program}{w:World}{H H':Hp}{h h':Heap}{a:Addr}{o:HO}
def cU.lt(x:cU P w H h a o):a<h.objs.size:=by
 cases o with
 | lst xs=>obtain⟨_,_,_,_,e⟩:=x;exact Qo e
 | tup xs=>obtain⟨_,_,_,p⟩:=x;exact p.lt
 | dK ai=>obtain⟨_,_,_,_,o,_,_,e,_⟩:=x;exact Qo e
 | dT ai=>obtain⟨_,_,_,_,o,_,_,e,_⟩:=x;exact Qo e
 | set S n=>obtain⟨o,_,_,_,e,_⟩:=x;exact Qo e
 | ins C dx fs=>obtain⟨_,_,_,e,_⟩:=x;exact Qo e
 | own y=>obtain⟨_,e⟩:=x;exact Qo e
 | xd fs=>obtain⟨_,⟨_,_,_,e,_⟩,_⟩:=x;exact Qo e
 | lL lo hi=>obtain⟨_,_,_,e⟩:=x;exact Qo e
 | eE ob u=>obtain⟨e,_⟩:=x;exact Qo e
 | jt ps=>exact Qo (show h.get? a=some _ from x)
 | met f y=>exact Qo (show h.get? a=some _ from x)
 | ext φ=>obtain⟨_,⟨_,e⟩,_⟩:=x;exact Qo e
theorem Paired.rh{α β:Type}{F G:α->β->Prop}:∀ {l₁:List α} {l₂:List β},Paired F l₁ l₂->(∀ a b,F a b->G a b)->Paired G l₁ l₂
 | _,_,.nil,_=>.nil
 | _,_,.cons r t,f=>.cons (f _ _ r) (Paired.rh t f)
theorem cU.fS(x:cU P w H h a o)(k:∀ b u,(b=a\/H b=some (.own a))->h.get? b=some u->h'.get? b=some u)
  (ho:∀ b,H b=some (.own a)->H' b=some (.own a)) (ht:∀ b xs,H b=some (.tup xs)->H' b=some (.tup xs)):cU P w H' h' a o:=by
 induction o with
 | lst xs=>obtain⟨z,aq,n,r,e⟩:=x;exact⟨z,aq,n,r,k _ _ (.inl rfl) e⟩
 | tup xs=>obtain⟨z,aq,r,ob,e,c⟩:=x;exact⟨z,aq,r,ob,k _ _ (.inl rfl) e,c⟩
 | dK ai=>obtain⟨z,y,vs,r,ob,es,ep,e,c⟩:=x;exact⟨z,y,vs,r,ob,es,ep,k _ _ (.inl rfl) e,c⟩
 | dT ai=>
  obtain⟨z,y,xs,r,ob,es,ep,e,c⟩:=x
  exact⟨z,y,xs,Paired.rh r fun p q z=>⟨z.1,ht _ _ z.2.1,z.2.2⟩,ob,es,ep,k _ _ (.inl rfl) e,c⟩
 | set S n=>obtain⟨ob,es,ep,t,e,c⟩:=x;exact⟨ob,es,ep,t,k _ _ (.inl rfl) e,c⟩
 | ins C dx fs=>
  obtain⟨d,z,ne,e,mA,⟨od,es,ep,e2,c⟩,r⟩:=x
  exact⟨ho _ d,z,ne,k _ _ (.inl rfl) e,mA,⟨od,es,ep,k _ _ (.inr d) e2,c⟩,r⟩
 | own y=>obtain⟨ob,e⟩:=x;exact⟨ob,k _ _ (.inl rfl) e⟩
 | xd fs=>obtain⟨mA,⟨od,es,ep,e,c⟩,r⟩:=x;exact⟨mA,⟨od,es,ep,k _ _ (.inl rfl) e,c⟩,r⟩
 | lL lo hi=>obtain⟨t,u,v,e⟩:=x;exact⟨t,u,v,k _ _ (.inl rfl) e⟩
 | eE ob u ih=>obtain⟨e,q⟩:=x;exact⟨k _ _ (.inl rfl) e,ih q⟩
 | jt ps=>
  have e:h.get? a=some { cls:=.none,data:=.fields ps }:=x
  show h'.get? a=some { cls:=.none,data:=.fields ps }
  exact k a _ (.inl rfl) e
 | met f y=>
  have e:h.get? a=some (PySem.W.methodObj (.ref f) (.ref y)):=x
  show h'.get? a=some (PySem.W.methodObj (.ref f) (.ref y))
  exact k a _ (.inl rfl) e
 | ext φ=>obtain⟨p,⟨o,e⟩,st⟩:=x;exact⟨st _ _ p fun o q=>k _ _ (.inl rfl) q,⟨o,k _ _ (.inl rfl) e⟩,st⟩
def cV.lt(x:cV P w H h)(e:H a=some o):a<h.objs.size:=(x a o e).lt
def cV.fresh(x:cV P w H h)(e:h.objs.size<=a):H a=none:=by
 cases q:H a with
 | none=>rfl
 | some u=>exact absurd (Qw (x.lt q) e) (Q2 _)
def cV.kept(x:cV P w H h)(k:∀ b u,h.get? b=some u->h'.get? b=some u):cV P w H h':=fun a o e=>
 (x a o e).fS (fun b u _ q=>k b u q) (fun _ q=>q) fun _ _ q=>q
def cV.laid(x:cV P w H h)(k:∀ b u,h.get? b=some u->h'.get? b=some u)(hp:h.objs.size<=a)(new:cU P w (upd H a o) h' a o):cV P w (upd H a o) h':=fun b u e=>by
 have hn:=x.fresh hp
 by_cases hb:b=a
 ·subst hb;rw[fX]at e;cases e;exact new
 ·rw[bc hb]at e
  exact(x b u e).fS (fun c v _ q=>k c v q) (fun c q=>by rw[bc (ib q hn)];exact q) fun c xs q=>by rw[bc (ib q hn)];exact q
end
def Rd (H:Hp)(a:Addr)(u:HO):Prop:=H a=some u\/∃ o,H a=some (.eE o u)
def Rd.of{H:Hp}{u:HO}(h:H a=some u):Rd H a u:=.inl h
def Rd.ok{H:Hp}{u:HO}(r:Rd H a u)(x:cV P w H h):cU P w H h a u:=by
 rcases r with r|⟨o,r⟩
 ·exact x a u r
 ·obtain⟨_,q⟩:=x a _ r
  exact q
def uX:Option HO->Prop
 | some (.lst _)=>True
 | some (.dK _)=>True
 | some (.dT _)=>True
 | some (.set _ _)=>True
 | some (.ins _ _ _)=>True
 | some (.ext _)=>True
 | _=>False
section
variable {P:Program}{w:World}{H:Hp}{h h':Heap}{x e:Addr}{o':HO}
def cV.write(ok:cV P w H h)(mu:uX (H x))(he:e=x\/H e=some (.own x))(k:∀ b u,b≠e->h.get? b=some u->h'.get? b=some u)(tN:∃ u,h'.get? e=some u)
  (new:cU P w (upd H x o') h' x o'):cV P w (upd H x o') h':=fun b u q=>by
 have uY:∀ c y,H c=some (.own y)->c≠x:=fun c y r z=>by subst z;rw[r]at mu;exact mu
 have Ar:∀ c xs,H c=some (.tup xs)->c≠x:=fun c xs r z=>by subst z;rw[r]at mu;exact mu
 by_cases hb:b=x
 ·subst hb;rw[fX]at q;cases q;exact new
 ·rw[bc hb]at q
  by_cases rj:b=e
  ·have q':H b=some (.own x):=by
    rcases he with z|z
    ·exact absurd (rj.trans z) hb
    ·rw[rj];exact z
   rw[q]at q';cases q'
   obtain⟨v,hv⟩:=tN
   exact⟨v,by rw[rj];exact hv⟩
  ·refine(ok b u q).fS (fun c v hc r=>k c v ?_ r) (fun c r=>by rw[bc (uY c b r)];exact r) fun c xs r=>by rw[bc (Ar c xs r)];exact r
   rcases hc with rfl|hc
   ·exact rj
   ·rintro rfl
    rcases he with z|z
    ·exact uY c b hc z
    ·rw[hc]at z;cases z;exact hb rfl
end
structure Un (fs ex:List Addr) (H H':Hp) (h h':Heap):Prop where
 keep:∀ b o,h.get? b=some o->H b=none->b ∉ fs->b ∉ ex->h'.get? b=some o
 slot:∀ b o,h.get? b=some o->H b=none->b∈fs->b ∉ ex->∃ sl,h'.get? b=some { o with slots:=sl }
 free:∀ b o,h.get? b=some o->H b=none->b ∉ ex->H' b=none
 there:∀ b o,h.get? b=some o->b ∉ ex->∃ o',h'.get? b=some o'
 e_:∀ b xs,H b=some (.tup xs)->H' b=some (.tup xs)
 eF:∀ b o u,H b=some (.eE o u)->H' b=some (.eE o u)
 fg:∀ b ps,H b=some (.jt ps)->∃ more,H' b=some (.jt (ps++more))
section
variable {fs LJ ex ex':List Addr}{H H1 H2:Hp}{h h1 h2 h':Heap}{a x e:Addr}{o:HO}
def Un.any(u:Un fs ex H H1 h h1){ob:Obj}(q:h.get? b=some ob)(n:H b=none)(hx:b ∉ ex):∃ sl,h1.get? b=some { ob with slots:=sl }:=by
 by_cases hb:b∈fs
 ·exact u.slot b ob q n hb hx
 ·exact⟨ob.slots,u.keep b ob q n hb hx⟩
def Un.kept(k:∀ b u,h.get? b=some u->h'.get? b=some u):Un fs ex H H h h':=
 ⟨fun b ob q _ _ _=>k b ob q,fun b ob q _ _ _=>⟨ob.slots,k b ob q⟩,fun _ _ _ n _=>n,fun b ob q _=>⟨ob,k b ob q⟩,fun _ _ q=>q,fun _ _ _ q=>q,fun _ ps q=>⟨#[],by rw[q];simp⟩⟩
def Un.refl:Un fs ex H H h h:=Un.kept fun _ _ q=>q
def Un.laid(k:∀ b u,h.get? b=some u->h'.get? b=some u)(hp:h.objs.size<=a)(hn:H a=none):Un fs ex H (upd H a o) h h' where
 keep:=fun b u q _ _ _=>k b u q
 slot:=fun b u q _ _ _=>⟨u.slots,k b u q⟩
 free:=fun b u q n _=>by rw[bc (QM (Qw (Qo q) hp))];exact n
 there:=fun b u q _=>⟨u,k b u q⟩
 e_:=fun b xs q=>by rw[bc (ib q hn)];exact q
 eF:=fun b u xs q=>by rw[bc (ib q hn)];exact q
 fg:=fun b ps q=>⟨#[],by rw[bc (ib q hn),q];simp⟩
def Un.write(mu:uX (H x))(he:e=x\/H e=some (.own x))(k:∀ b u,b≠e->h.get? b=some u->h'.get? b=some u)(tN:∃ u,h'.get? e=some u):Un fs ex H (upd H x o) h h':=by
 have hx:∀ b,H b=none->b≠x:=fun b n z=>by subst z;rw[n]at mu;exact mu
 have hb:∀ b,H b=none->b≠e:=fun b n z=>by
  subst z
  rcases he with r|r
  ·exact hx b n r
  ·rw[n]at r;cases r
 have hm:∀ b u,H b=some u->¬ uX (some u)->b≠x:=fun b u q nm z=>by subst z;rw[q]at mu;exact nm mu
 refine⟨fun b u q n _ _=>k b u (hb b n) q,fun b u q n _ _=>⟨u.slots,k b u (hb b n) q⟩,fun b u q n _=>by rw[bc (hx b n)];exact n,fun b u q _=>?_,
  fun b xs q=>by rw[bc (hm b _ q fun z=>z)];exact q,fun b u xs q=>by rw[bc (hm b _ q fun z=>z)];exact q,fun b ps q=>⟨#[],by rw[bc (hm b _ q fun z=>z),q];simp⟩⟩
 by_cases rj:b=e
 ·subst rj;exact tN
 ·exact⟨u,k b u rj q⟩
end
def oa (h:Heap)(H:Hp):List Addr:=(List.range h.objs.size).filter fun a=>(H a).isSome
def og (h:Heap)(H:Hp):Heap:=PySem.W.hideAll h (oa h H)
def LK(h:Heap)(H:Hp):(og h H).objs.size=h.objs.size:=PySem.W.hideAll_size _ _
def LL{H:Hp}(e:h.get? b=some o)(n:H b=none):(og h H).get? b=some o:=
 PySem.W.hideAll_get _ e fun hm=>by
  have q:(H b).isSome=true:=(Zw.mp hm).2
  rw[n]at q;simp at q
def LM{H:Hp}(e:(og h H).get? b=some o):h.get? b=some o/\H b=none:=by
 have e':h.get? b=some o:=PySem.W.of_hideAll (oa h H) e
 refine⟨e',?_⟩
 cases q:H b with
 | none=>rfl
 | some x=>
  have hm:b∈oa h H:=Zw.mpr ⟨QA.mpr (Qo e'),by simp[q]⟩
  have z:(og h H).get? b=none:=PySem.W.hideAll_none (oa h H) hm
  rw[z]at e;cases e
def LN (g h:Heap)(L:Addr):List (Addr×Obj):=(List.range h.objs.size).filterMap fun a=>if a=L\/(g.get? a).isSome=true then none else(h.get? a).map fun o=>(a,o)
def bh (g h:Heap)(L d:Addr):List (Addr×Obj):=(LN g h L).filter fun p=>decide (p.1≠d)
structure Mod (K:PySem.W.Frag) (mg:Str->Option Value) (base:Heap):Prop where
 uZ:K.In base
 glob:base.Ns mainGlobals mg
 blt:∃ mb,base.Ns builtinsNs mb/\∀ x:Str,x ≠ "__name__"->mb x=bootBuiltins x
 nolimit:base.NoLimit
structure Cx where
 prog:Program
 w:World
 K:PySem.W.Frag
 mg:Str->Option Value
 base:Heap
 A:Around
 N:List Str
 aP:Shared
 cy:Hp
 env:Env
 outer:List Env
 stack:List Env
 ex:List Addr
 fn:Str->Bool
 calm:Bool
 pn:List (Addr×Obj)
 xe:Value->Shared->Prop
def dP (l:List Env):List Addr:=l.filterMap (·.frame)
abbrev Cx.fs (X:Cx):List Addr:=dP X.outer
def tO (sc:Scope)(x:Str):Prop:=sc.names.lookup x=some .local\/sc.names.lookup x=some .cell\/sc.names.lookup x=some .free
def Loc (sc:Scope)(x:Str):Prop:=sc.names.lookup x=some .local\/sc.names.lookup x=some .cell
def LO (env:Env)(h:Heap)(m:Str->Option Value)(x:Str)(u:Value):Prop:=
 (env.kindOf x=some .local/\m x=some u)\/((env.kindOf x=some .cell\/env.kindOf x=some .free)/\∃ c,env.cells.lookup x=some c/\h.IsCell c (some u))
structure Cx.Ok (X:Cx):Prop where
 mod:Mod X.K X.mg X.base
 kind:X.env.scope.kind=.function
 glob:X.env.globals=mainGlobals
 blt:X.env.builtins=builtinsNs
 above:X.aP.heap.objs.size<=X.env.locals
 inj:∀ x y c,X.env.cells.lookup x=some c->X.env.cells.lookup y=some c->x=y
 has:∀ x,(X.env.kindOf x=some .cell\/X.env.kindOf x=some .free)->∃ c,X.env.cells.lookup x=some c
 tP:∀ x c,X.fn x=true->X.env.cells.lookup x=some c->X.aP.heap.objs.size<=c
 hd:X.calm=true->X.A.handled=none
 frames:X.A.frames=some X.stack
 u0:X.stack=X.outer\/(X.stack=X.env::X.outer/\X.env.frame=some X.env.locals)
 yb:∀ b∈X.ex,b≠X.env.locals/\∀ x c,X.env.cells.lookup x=some c->c≠b
 bs:∀ b o,X.base.get? b=some o->X.aP.heap.get? b=some o/\X.cy b=none
 l9:X.base.objs.size<=X.aP.heap.objs.size
 kR:∀ b o,X.base.get? b=some o->b ∉ X.ex
 kS:∀ b∈X.ex,b ∉ X.fs
 fh:X.aP.heap.FunFrames X.base X.outer
 rl:∀ b∈X.fs,X.cy b=none
structure Inv (X:Cx) (pins:List (Addr×Obj)) (σ:List (Option V)) (H:Hp) (s:Shared):Prop where
 ok:X.Ok
 os:s.os=X.aP.os
 bare:AllBare s.gens
 base:Un X.fs X.ex X.cy H X.aP.heap s.heap
 loc:∃ m,s.heap.Ns X.env.locals m/\∀ (i:Nat) (x:Str) (v:V),X.N[i]? = some x->σ[i]? = some (some v)->tO X.env.scope x->∃ u,bC v u/\LO X.env s.heap m x u
 cell:∀ x c,X.env.cells.lookup x=some c->∃ v,s.heap.IsCell c v
 free:H X.env.locals=none
 cH:∀ x c,X.env.cells.lookup x=some c->H c=none
 pin:∀ p∈X.pn++pins,s.heap.get? p.1=some p.2/\H p.1=none/\p.1≠X.env.locals/\p.1 ∉ X.fs/\∀ v,p.2.data ≠ .cell v
 az:cV X.prog X.w H s.heap
 len:σ.length=X.N.length
section
variable {X:Cx}{pins:List (Addr×Obj)}{σ:List (Option V)}{H H':Hp}{s:Shared}{h':Heap}
def Cx.Ok.As(ok:X.Ok)(e:X.base.get? b=some o):b ∉ X.fs:=fun hb=>by
 have:=(ok.fh.mem hb).1
 rw[e]at this;cases this
def Inv.bs(I:Inv X pins σ H s):∀ b o,X.base.get? b=some o->s.heap.get? b=some o/\H b=none:=fun b o e=>
 ⟨I.base.keep b o (I.ok.bs b o e).1 (I.ok.bs b o e).2 (I.ok.As e) (I.ok.kR b o e),I.base.free b o (I.ok.bs b o e).1 (I.ok.bs b o e).2 (I.ok.kR b o e)⟩
def Inv.bk(I:Inv X pins σ H s):∀ b o,X.base.get? b=some o->s.heap.get? b=some o:=fun b o e=>(I.bs b o e).1
def Inv.mod(I:Inv X pins σ H s):Mod X.K X.mg X.base:=I.ok.mod
def Inv.fi(I:Inv X pins σ H s):X.K.In s.heap:=I.ok.mod.uZ.keeps I.bk
def Inv.fr(I:Inv X pins σ H s):∃ m,Fr X.base X.env.locals s.heap m:=
 let ⟨m,hn,_⟩:=I.loc
 ⟨m,hn,I.bk,QO I.ok.l9 I.ok.above⟩
def Inv.lt(I:Inv X pins σ H s):X.env.locals<s.heap.objs.size:=let ⟨_,hn,_⟩:=I.loc;hn.lt
def Inv.sz(I:Inv X pins σ H s):X.aP.heap.objs.size<=s.heap.objs.size:=QO I.ok.above (ZG I.lt)
def Inv.u4(I:Inv X pins σ H s)(h:s.heap.objs.size<=a):a ∉ X.fs:=fun hb=>by
 obtain⟨_,o,ho,_⟩:=I.ok.fh.mem hb
 exact absurd (Qw (Qo ho) (QO I.sz h)) (Q2 _)
def Inv.l_(I:Inv X pins σ H s):∀ x c,X.env.cells.lookup x=some c->c≠X.env.locals:=fun x c e z=>by
 obtain⟨v,o,ho,hd⟩:=I.cell x c e
 obtain⟨m,⟨o',es,ep,fJ,ic,_⟩,_⟩:=I.loc
 rw[z,fJ]at ho;cases ho;rw[ic]at hd;cases hd
def Inv.fh(I:Inv X pins σ H s):s.heap.FunFrames X.base X.outer:=by
 have all:∀ (l:List Env),(∀ b∈dP l,b∈X.fs)->X.aP.heap.FunFrames X.base l->s.heap.FunFrames X.base l:=by
  intro l
  induction l with
  | nil=>intro _ _;trivial
  | cons env r ih=>
   intro hs hl
   obtain⟨hk,⟨L,o,hf,hn,ho,hd⟩,hr⟩:=hl
   have hL:L∈X.fs:=hs L (by unfold dP;rw[Jq,hf];exact Ql)
   obtain⟨sl,e⟩:=I.base.slot L o ho (I.ok.rl L hL) hL fun z=>I.ok.kS L z hL
   exact⟨hk,⟨L,_,hf,hn,e,hd⟩,ih (fun b hb=>hs b (by unfold dP;rw[Jq,hf];exact Qj _ hb)) hr⟩
 exact all X.outer (fun _ hb=>hb) I.ok.fh
def Inv.stack(I:Inv X pins σ H s):s.heap.FunFrames X.base X.stack:=by
 rcases I.ok.u0 with e|⟨e,hf⟩
 ·rw[e];exact I.fh
 ·rw[e]
  obtain⟨m,hn,_⟩:=I.loc
  refine .cons (by rw[I.ok.kind];decide) hf hn ?_ I.fh
  exact Heap.get?_none_of_le (QO I.ok.l9 I.ok.above)
def Inv.ix(I:Inv X pins σ H s):∀ b∈dP X.stack,b∈X.env.locals::X.fs:=fun b hb=>by
 rcases I.ok.u0 with e|⟨e,hf⟩
 ·rw[e]at hb;exact Qj _ hb
 ·rw[e]at hb
  unfold dP at hb
  rw[Jq,hf]at hb
  exact hb
def Inv.fY(I:Inv X pins σ H s):∀ b∈dP X.stack,H b=none:=fun b hb=>by
 rcases Qs.mp (I.ix b hb)with e|hb
 ·rw[e];exact I.free
 ·obtain⟨_,o,ho,_⟩:=I.ok.fh.mem hb
  exact I.base.free b o ho (I.ok.rl b hb) fun z=>I.ok.kS b z hb
def Inv.step{g':Array GenState}{t':Nat}{d':Drawn}{ch:List Addr}(I:Inv X pins σ H s)
  (ju:∀ b∈ch,(b∈X.ex\/X.aP.heap.objs.size<=b)/\b≠X.env.locals/\(∀ x c,X.env.cells.lookup x=some c->c≠b)/\∀ p∈X.pn++pins,p.1≠b)
  (keep:∀ b o,b≠X.env.locals->b ∉ X.fs->b ∉ ch->s.heap.get? b=some o->H b=none->h'.get? b=some o)
  (slot:∀ b o,b≠X.env.locals->b∈X.fs->b ∉ ch->s.heap.get? b=some o->H b=none->∃ sl,h'.get? b=some { o with slots:=sl }) (free:∀ b o,b ∉ ch->s.heap.get? b=some o->H b=none->H' b=none)
  (there:∀ b o,b ∉ ch->s.heap.get? b=some o->∃ o',h'.get? b=some o')
  (e_:∀ b xs,H b=some (.tup xs)->H' b=some (.tup xs)) (eF:∀ b o u,H b=some (.eE o u)->H' b=some (.eE o u)) (fg:∀ b ps,H b=some (.jt ps)->∃ more,H' b=some (.jt (ps++more)))
  (ns:∀ m,s.heap.Ns X.env.locals m->h'.Ns X.env.locals m) (az:cV X.prog X.w H' h') (hg:AllBare g') :
  Inv X pins σ H' { s with heap:=h',gens:=g',drawn:=d',toks:=t' }:=by
 have Ew:∀ b o,X.aP.heap.get? b=some o->b≠X.env.locals:=fun b o e=>QM (Qw (Qo e) I.ok.above)
 have yc:∀ b o,X.aP.heap.get? b=some o->b ∉ X.ex->b ∉ ch:=fun b o e hx hb=>by
  rcases(ju b hb).1 with z|z
  ·exact hx z
  ·exact absurd (Qw (Qo e) z) (Q2 _)
 have cellK:∀ x c,X.env.cells.lookup x=some c->∀ v,s.heap.IsCell c v->h'.IsCell c v:=fun x c e v ah=>by
  obtain⟨o,ho,hd⟩:=ah
  have u5:c ∉ ch:=fun z=>(ju c z).2.2.1 x c e rfl
  by_cases hc:c∈X.fs
  ·obtain⟨sl,q⟩:=slot c o (I.l_ x c e) hc u5 ho (I.cH x c e)
   exact⟨_,q,hd⟩
  ·exact⟨o,keep c o (I.l_ x c e) hc u5 ho (I.cH x c e),hd⟩
 refine⟨I.ok,I.os,hg,⟨fun b o e n hb hx=>?_,fun b o e n hb hx=>?_,fun b o e n hx=>?_,fun b o e hx=>?_,fun b xs e=>e_ b xs (I.base.e_ b xs e),fun b o xs e=>eF b o xs (I.base.eF b o xs e),fun b ps e=>?_⟩,?_,fun x c e=>?_,?_,fun x c e=>?_,fun p hp=>?_,az,I.len⟩
 ·exact keep b o (Ew b o e) hb (yc b o e hx) (I.base.keep b o e n hb hx) (I.base.free b o e n hx)
 ·obtain⟨sl,e1⟩:=I.base.slot b o e n hb hx
  obtain⟨tR,e2⟩:=slot b _ (Ew b o e) hb (yc b o e hx) e1 (I.base.free b o e n hx)
  exact⟨tR,e2⟩
 ·obtain⟨o',e1⟩:=I.base.there b o e hx
  exact free b o' (yc b o e hx) e1 (I.base.free b o e n hx)
 ·obtain⟨o',e1⟩:=I.base.there b o e hx
  exact there b o' (yc b o e hx) e1
 ·obtain⟨m1,e1⟩:=I.base.fg b ps e
  obtain⟨m2,e2⟩:=fg b _ e1
  exact⟨m1++m2,by rw[e2,Array.append_assoc]⟩
 ·obtain⟨m,hn,hl⟩:=I.loc
  refine⟨m,ns m hn,fun i x v e1 e2 e3=>?_⟩
  obtain⟨u,r,l⟩:=hl i x v e1 e2 e3
  refine⟨u,r,?_⟩
  rcases l with l|⟨k,c,e,z⟩
  ·exact .inl l
  ·exact .inr ⟨k,c,e,cellK x c e _ z⟩
 ·obtain⟨v,z⟩:=I.cell x c e
  exact⟨v,cellK x c e v z⟩
 ·obtain⟨m,⟨o,_,_,ho,_⟩,_⟩:=I.loc
  exact free _ o (fun z=>(ju _ z).2.1 rfl) ho I.free
 ·obtain⟨v,o,ho,hd⟩:=I.cell x c e
  exact free c o (fun z=>(ju c z).2.2.1 x c e rfl) ho (I.cH x c e)
 ·obtain⟨e,n,ne,nf,d⟩:=I.pin p hp
  have u5:p.1 ∉ ch:=fun z=>(ju p.1 z).2.2.2 p hp rfl
  exact⟨keep p.1 p.2 ne nf u5 e n,free p.1 p.2 u5 e n,ne,nf,d⟩
def Inv.un{t':Nat}(I:Inv X pins σ H s)(u:Un X.fs [] H H' s.heap h')(az:cV X.prog X.w H' h'):Inv X pins σ H' { s with heap:=h',toks:=t' }:=by
 obtain⟨m,⟨o,es,ep,ho,r⟩,_⟩:=id I.loc
 obtain⟨sl,hL⟩:=u.any ho I.free (by simp)
 exact I.step (g':=s.gens) (d':=s.drawn) (ch:=[]) (fun _ z=>nomatch z) (fun b o _ hb _ e n=>u.keep b o e n hb (by simp)) (fun b o _ hb _ e n=>u.slot b o e n hb (by simp)) (fun b o _ e n=>u.free b o e n (by simp)) (fun b o _ e=>u.there b o e (by simp)) u.e_ u.eF u.fg (fun m' hm=>by
  obtain⟨o',jv,oh,fJ,r'⟩:=hm
  rw[ho]at fJ;cases fJ
  exact⟨_,jv,oh,hL,r'⟩) az I.bare
def Inv.call{g':Array GenState}{t':Nat}{d':Drawn}{ch:List Addr}(I:Inv X pins σ H s)(u:Un (dP X.stack) ch H H' s.heap h')(az:cV X.prog X.w H' h')(hg:AllBare g')
  (ju:∀ b∈ch,(b∈X.ex\/X.aP.heap.objs.size<=b)/\b≠X.env.locals/\(∀ x c,X.env.cells.lookup x=some c->c≠b)/\∀ p∈X.pn++pins,p.1≠b) :
  Inv X pins σ H' { s with heap:=h',gens:=g',drawn:=d',toks:=t' }:=by
 obtain⟨m,⟨o,es,ep,ho,r⟩,_⟩:=id I.loc
 obtain⟨sl,hL⟩:=u.any ho I.free fun z=>(ju _ z).2.1 rfl
 exact I.step (ch:=ch) ju (fun b o hL hb hc e n=>u.keep b o e n (fun z=>(Qs.mp (I.ix b z)).elim hL hb) hc) (fun b o _ _ hc e n=>u.any e n hc) (fun b o hc e n=>u.free b o e n hc) (fun b o hc e=>u.there b o e hc) u.e_ u.eF u.fg (fun m' hm=>by
  obtain⟨o',jv,oh,fJ,r'⟩:=hm
  rw[ho]at fJ;cases fJ
  exact⟨_,jv,oh,hL,r'⟩) az hg
def Inv.turned{t':Nat}(I:Inv X pins σ H s)(k:∀ b o,b≠it->s.heap.get? b=some o->h'.get? b=some o)(hn:H it=none)(hL:it≠X.env.locals)
  (h1:it∈X.ex\/X.aP.heap.objs.size<=it) (h2:∀ x c,X.env.cells.lookup x=some c->c≠it) (h3:∀ p∈X.pn++pins,p.1≠it):Inv X pins σ H { s with heap:=h',toks:=t' }:=by
 have u6:∀ b u,H b=some u->b≠it:=fun b u e z=>by rw[z,hn]at e;cases e
 refine I.step (g':=s.gens) (d':=s.drawn) (ch:=[it]) (fun b hb=>?_) (fun b o _ _ hc e _=>k b o (fun z=>hc (by simp[z])) e) (fun b o _ _ hc e _=>⟨o.slots,k b o (fun z=>hc (by simp[z])) e⟩) (fun _ _ _ _ n=>n)
  (fun b o hc e=>⟨o,k b o (fun z=>hc (by simp[z])) e⟩) (fun _ _ e=>e) (fun _ _ _ e=>e) (fun b ps e=>⟨#[],by rw[e];simp⟩) (fun m hm=>?_) (fun b u e=>?_) I.bare
 ·have e:b=it:=by simpa using hb
  subst e
  exact⟨h1,hL,h2,h3⟩
 ·obtain⟨o,es,ep,ho,r⟩:=hm
  exact⟨o,es,ep,k _ o (Jr hL) ho,r⟩
 ·refine(I.az b u e).fS (fun c v hc q=>k c v ?_ q) (fun _ q=>q) fun _ _ q=>q
  rcases hc with z|z
  ·rw[z];exact u6 b u e
  ·exact u6 c _ z
def Inv.tok(I:Inv X pins σ H s)(t:Nat):Inv X pins σ H { s with toks:=t }:=I.un (h':=s.heap) (t':=t) Un.refl I.az
def Inv.kept{t':Nat}(I:Inv X pins σ H s)(k:∀ b u,s.heap.get? b=some u->h'.get? b=some u):Inv X pins σ H { s with heap:=h',toks:=t' }:=I.un (Un.kept k) (I.az.kept k)
def Inv.laid{o:HO}{t':Nat}(I:Inv X pins σ H s)(k:∀ b u,s.heap.get? b=some u->h'.get? b=some u)(hp:s.heap.objs.size<=a)(new:cU X.prog X.w (upd H a o) h' a o) :
  Inv X pins σ (upd H a o) { s with heap:=h',toks:=t' }:=I.un (Un.laid k hp (I.az.fresh hp)) (I.az.laid k hp new)
def Inv.write{x e:Addr}{o:HO}{t':Nat}(I:Inv X pins σ H s)(mu:uX (H x))(he:e=x\/H e=some (.own x))(k:∀ b u,b≠e->s.heap.get? b=some u->h'.get? b=some u)(tN:∃ u,h'.get? e=some u)
  (new:cU X.prog X.w (upd H x o) h' x o):Inv X pins σ (upd H x o) { s with heap:=h',toks:=t' }:=I.un (Un.write mu he k tN) (I.az.write mu he k tN new)
def Inv.weak{aM:List (Option V)}(I:Inv X pins σ H s)(hl:aM.length=σ.length)(w:∀ (i:Nat) v,aM[i]? = some (some v)->σ[i]? = some (some v)):Inv X pins aM H s:=
 ⟨I.ok,I.os,I.bare,I.base,let ⟨m,hn,ig⟩:=I.loc;⟨m,hn,fun i x v e1 e2 e3=>ig i x v e1 (w i v e2) e3⟩,I.cell,I.free,I.cH,I.pin,I.az,hl.trans I.len⟩
def Inv.fZ{pins':List (Addr×Obj)}(I:Inv X pins σ H s)(h:∀ p∈pins',s.heap.get? p.1=some p.2/\H p.1=none/\p.1≠X.env.locals/\p.1 ∉ X.fs/\∀ v,p.2.data ≠ .cell v):Inv X pins' σ H s:=
 ⟨I.ok,I.os,I.bare,I.base,I.loc,I.cell,I.free,I.cH,fun p hp=>(QG.mp hp).elim (fun z=>I.pin p (Qz _ z)) (h p),I.az,I.len⟩
def Au(hN:N.Nodup)(a:N[i]? = some x)(b:N[j]? = some x):i=j:=by
 obtain⟨h1,e1⟩:=Qq.mp a
 obtain⟨h2,e2⟩:=Qq.mp b
 exact(List.getElem_inj hN).mp (e1.trans e2.symm)
def Ex{M:Model}{A:Around}{E:Value->Shared->Prop}{v:V}(I:Inv X pins σ H s)(hN:X.N.Nodup)(hi:X.N[i]? = some x)(hx:Loc X.env.scope x)(r:bC v u)
  (h:∀ s',Inv X pins (σ.set i (some v)) H s'->(∃ a,Heap.SameBut a s.heap s'.heap/\(a=X.env.locals\/X.env.cells.lookup x=some a))->Q () s') (hf:X.fn x=true\/X.env.scope.names.lookup x=some .local:=by first|exact .inl rfl|exact .inr rfl|assumption):wpAny M A (storeName X.env x u) Q E s:=by
 obtain⟨m,hn,hl⟩:=id I.loc
 have rn:(X.env.scope.kind == .class||(X.env.scope.kind == .module&&X.env.locals != X.env.globals))=false:=by rw[I.ok.kind];rfl
 have kT:i<σ.length:=by rw[I.len];exact(Qq.mp hi).1
 have l_:=I.l_
 have tracked:∀ {a:Addr} {h':Heap},(∃ o,s.heap.get? a=some o/\H a=none)->Heap.SameBut a s.heap h'->cV X.prog X.w H h':=fun {a h'} ha hs b ob e=>by
  obtain⟨_,_,pK⟩:=ha
  refine(I.az b ob e).fS (fun c w' hc q=>(hs.2 c ?_).trans q) (fun _ q=>q) fun _ _ q=>q
  rintro rfl
  rcases hc with rfl|hc
  ·rw[pK]at e;cases e
  ·rw[pK]at hc;cases hc
 rcases hx with hk|hk
 ·refine wpAny_storeName_local hk hn (fun h' oi hs=>?_) rn
  obtain⟨oL,_,_,Ey,_⟩:=id hn
  refine h _ ⟨I.ok,I.os,I.bare,⟨fun b o e n hb hx=>?_,fun b o e n hb hx=>?_,I.base.free,fun b o e hx=>?_,I.base.e_,I.base.eF,I.base.fg⟩,⟨_,oi,fun j y v' e1 e2 e3=>?_⟩,fun y c e=>?_,I.free,I.cH,fun p hp=>?_,tracked ⟨oL,Ey,I.free⟩ hs,by simpa using I.len⟩ ⟨_,hs,.inl rfl⟩
  ·exact(hs.2 b (QM (Qw (Qo e) I.ok.above))).trans (I.base.keep b o e n hb hx)
  ·obtain⟨sl,e1⟩:=I.base.slot b o e n hb hx
   exact⟨sl,(hs.2 b (QM (Qw (Qo e) I.ok.above))).trans e1⟩
  ·obtain⟨o',e1⟩:=I.base.there b o e hx
   exact⟨o',(hs.2 b (QM (Qw (Qo e) I.ok.above))).trans e1⟩
  ·by_cases hj:j=i
   ·subst hj
    rw[hi]at e1;cases e1
    rw[QP kT]at e2
    cases e2
    exact⟨u,r,.inl ⟨hk,by simp⟩⟩
   ·rw[QR (Jr hj)]at e2
    obtain⟨u',r',q⟩:=hl j y v' e1 e2 e3
    refine⟨u',r',?_⟩
    rcases q with⟨k,e⟩|⟨k,c,e,z⟩
    ·refine .inl ⟨k,?_⟩
     have:y≠x:=fun e=>hj (Au hN e1 (e ▸ hi))
     simp[this,e]
    ·exact .inr ⟨k,c,e,z.sameBut hs (l_ y c e)⟩
  ·obtain⟨w',z⟩:=I.cell y c e
   exact⟨w',z.sameBut hs (l_ y c e)⟩
  ·obtain⟨e,n,ne,nf,d⟩:=I.pin p hp
   exact⟨(hs.2 p.1 ne).trans e,n,ne,nf,d⟩
 ·have Av:X.fn x=true:=by
   rcases hf with z|z
   ·exact z
   ·rw[z]at hk;cases hk
  obtain⟨c,hc⟩:=I.ok.has x (.inl hk)
  obtain⟨w',z⟩:=I.cell x c hc
  refine wpAny_storeName_cell I.ok.kind hk hc z (fun h' nJ hs=>?_)
  obtain⟨oc,yd,Aw⟩:=id z
  refine h { s with heap:=h' } ⟨I.ok,I.os,I.bare,⟨fun b o e n hb hx=>?_,fun b o e n hb hx=>?_,I.base.free,fun b o e hx=>?_,I.base.e_,I.base.eF,I.base.fg⟩,⟨m,hn.sameBut hs (Jr (l_ x c hc)),fun j y v' e1 e2 e3=>?_⟩,fun y c' e=>?_,I.free,I.cH,fun p hp=>?_,tracked ⟨oc,yd,I.cH x c hc⟩ hs,by simpa using I.len⟩ ⟨c,hs,.inr hc⟩
  ·exact(hs.2 b (QM (Qw (Qo e) (I.ok.tP x c Av hc)))).trans (I.base.keep b o e n hb hx)
  ·obtain⟨sl,e1⟩:=I.base.slot b o e n hb hx
   exact⟨sl,(hs.2 b (QM (Qw (Qo e) (I.ok.tP x c Av hc)))).trans e1⟩
  ·obtain⟨o',e1⟩:=I.base.there b o e hx
   exact⟨o',(hs.2 b (QM (Qw (Qo e) (I.ok.tP x c Av hc)))).trans e1⟩
  ·by_cases hj:j=i
   ·subst hj
    rw[hi]at e1;cases e1
    rw[QP kT]at e2
    cases e2
    exact⟨u,r,.inr ⟨.inl hk,c,hc,nJ⟩⟩
   ·rw[QR (Jr hj)]at e2
    obtain⟨u',r',q⟩:=hl j y v' e1 e2 e3
    refine⟨u',r',?_⟩
    rcases q with q|⟨k,c',e,z'⟩
    ·exact .inl q
    ·refine .inr ⟨k,c',e,z'.sameBut hs ?_⟩
     rintro rfl
     exact hj (Au hN e1 (I.ok.inj _ _ _ e hc ▸ hi))
  ·by_cases Ez:c'=c
   ·subst Ez;exact⟨_,nJ⟩
   ·obtain⟨w2,z2⟩:=I.cell y c' e
    exact⟨w2,z2.sameBut hs Ez⟩
  ·obtain⟨e,n,ne,nf,d⟩:=I.pin p hp
   refine⟨(hs.2 p.1 ?_).trans e,n,ne,nf,d⟩
   intro q
   rw[q,yd]at e
   have q':oc=p.2:=QF e
   exact d w' (by rw[<- q'];exact Aw)
def Ax{M:Model}{A:Around}{E:Value->Shared->Prop}{v:V}(I:Inv X pins σ H s)(hN:X.N.Nodup)(hi:X.N[i]? = some x)(hx:Loc X.env.scope x)(r:bC v u)
  (h:∀ s',Inv X pins (σ.set i (some v)) H s'->Q () s') (hf:X.fn x=true\/X.env.scope.names.lookup x=some .local:=by first|exact .inl rfl|exact .inr rfl|assumption):wpAny M A (storeName X.env x u) Q E s:=
 Ex I hN hi hx r (fun s' I' _=>h s' I') hf
def Inv.ma{ch:List Addr}(I:Inv X pins σ H s)(ho:s'.os=s.os)(u:Un (dP X.stack) ch H H' s.heap s'.heap)(az:cV X.prog X.w H' s'.heap)(hg:AllBare s'.gens)
  (ju:∀ b∈ch,(b∈X.ex\/X.aP.heap.objs.size<=b)/\b≠X.env.locals/\(∀ x c,X.env.cells.lookup x=some c->c≠b)/\∀ p∈X.pn++pins,p.1≠b):Inv X pins σ H' s':=by
 obtain⟨h',g',d',t',o'⟩:=s'
 have e:o'=s.os:=ho
 subst e
 exact I.call (g':=g') (t':=t') (d':=d') u az hg ju
end
abbrev XK:=Value->Option Addr->Hp->Prop
abbrev St:=List (Option V)
abbrev VK:=V->Hp->Prop
abbrev TE:=St->Hp->VK->Prop
abbrev TT:=St->Hp->(Bool->Hp->Prop)->Prop
abbrev TA:=St->Hp->(List V->Hp->Prop)->Prop
structure Ends where
 nx:St->Hp->Prop
 rt:VK
 bk:St->Hp->Prop:=fun _ _=>False
 ct:St->Hp->Prop:=fun _ _=>False
abbrev TS:=Ends->St->Hp->Prop
def EP (X:Cx)(pins:List (Addr×Obj))(σ:St)(Q:VK)(u:Value)(s':Shared):Prop:=∃ v H',Inv X pins σ H' s'/\bC v u/\Q v H'
def TP (X:Cx)(pins:List (Addr×Obj))(σ:St)(Q:Bool->Hp->Prop)(b:Bool)(s':Shared):Prop:=∃ H',Inv X pins σ H' s'/\Q b H'
def AP (X:Cx)(pins:List (Addr×Obj))(σ:St)(Q:List V->Hp->Prop)(us:List Value)(s':Shared):Prop:=∃ vs H',Inv X pins σ H' s'/\bq vs us/\Q vs H'
def SP (X:Cx)(pins:List (Addr×Obj))(D:Ends)(f:Flow)(s':Shared):Prop:=
 match f with
 | .next=>∃ aM H',Inv X pins aM H' s'/\D.nx aM H'
 | .brk=>∃ aM H',Inv X pins aM H' s'/\D.bk aM H'
 | .cont=>∃ aM H',Inv X pins aM H' s'/\D.ct aM H'
 | .ret u=>∃ v aM H',Inv X pins aM H' s'/\bC v u/\D.rt v H'
def PE (X:Cx)(e:Expr)(t:TE):Prop:=
 ∀ (pins:List (Addr×Obj)) (s:Shared) (σ:St) (H:Hp) (Q:VK),Inv X pins σ H s->t σ H Q->wpAny (model X.prog X.w) X.A (eval e X.env) (EP X pins σ Q) X.xe s
structure QE (X:Cx) (e:Expr) (t:TE):Prop where mk::o:PE X e t
def PT (X:Cx)(e:Expr)(t:TT):Prop:=
 ∀ (pins:List (Addr×Obj)) (s:Shared) (σ:St) (H:Hp) (Q:Bool->Hp->Prop),Inv X pins σ H s->t σ H Q->wpAny (model X.prog X.w) X.A (isTrue e X.env (eval e X.env)) (TP X pins σ Q) X.xe s
def PW (X:Cx)(e:Expr)(t:TT):Prop:=
 ∀ (whole:Sem Value) (pins:List (Addr×Obj)) (s:Shared) (σ:St) (H:Hp) (Q:Bool->Hp->Prop),Inv X pins σ H s->t σ H Q->wpAny (model X.prog X.w) X.A (isTrue e X.env whole) (TP X pins σ Q) X.xe s
def PW.pt{X:Cx}{t:TT}(h:PW X e t):PT X e t:=h _
def PA (X:Cx)(es:List Expr)(t:TA):Prop:=
 ∀ (pos:Pos) (pins:List (Addr×Obj)) (s:Shared) (σ:St) (H:Hp) (Q:List V->Hp->Prop),Inv X pins σ H s->t σ H Q->wpAny (model X.prog X.w) X.A (spliced (backTo pos (starEach es X.env))) (AP X pins σ Q) X.xe s
def PS (X:Cx)(st:Stmt)(t:TS):Prop:=
 ∀ (pins:List (Addr×Obj)) (s:Shared) (σ:St) (H:Hp) (D:Ends),Inv X pins σ H s->t D σ H->wpAny (model X.prog X.w) X.A (exec st X.env) (SP X pins D) X.xe s
def gm (X:Cx)(st:List Stmt)(t:TS):Prop:=
 ∀ (pins:List (Addr×Obj)) (s:Shared) (σ:St) (H:Hp) (D:Ends),Inv X pins σ H s->t D σ H->wpAny (model X.prog X.w) X.A (execs st X.env) (SP X pins D) X.xe s
def aV{α:Type}{t:Sem α}{Q Q':α->Shared->Prop}(h:wpAny M A t Q E s)(hQ:∀ a s,Q a s->Q' a s):wpAny M A t Q' E s:=Zs h hQ fun _ _ x=>x
section
variable {X:Cx}
def eR (i:Nat):TE:=fun σ H Q=>∃ v,σ[i]? = some (some v)/\Q v H
def tC (v:V):TE:=fun _ H Q=>Q v H
def LP{pos:Pos}(hN:X.N[i]? = some x)(hv:tO X.env.scope x)(hd:(x==("__debug__":Str))=false:=by decide)(gS:(x==("__classdict__":Str))=false:=by decide):PE X (.Name x pos) (eR i):=by
 intro pins s σ H Q I h
 obtain⟨v,e,h⟩:=h
 obtain⟨m,hn,hl⟩:=I.loc
 obtain⟨u,r,l⟩:=hl i x v hN e hv
 have fin:EP X pins σ Q u s:=⟨v,H,I,r,h⟩
 rcases l with⟨hk,hm⟩|⟨hk,c,hc,j_⟩
 ·exact wpAny_Name (wpAny_loadName_local I.ok.kind hk hn hm fin) hd
 ·rcases hk with hk|hk
  ·exact wpAny_Name (wpAny_loadName_cell I.ok.kind hk hc j_ fin) hd
  ·exact wpAny_Name (wpAny_loadName_free I.ok.kind hk hc j_ fin gS) hd
def Ay{i j pos}:PE X (.Constant (.int i) j pos) (tC (.int i)):=fun _ _ _ H _ I h=>wpAny_Constant_int ⟨.int i,H,I.tok _,⟨_,rfl⟩,h⟩
def LQ{b j pos}:PE X (.Constant (.bool b) j pos) (tC (.bl b)):=fun _ _ _ H _ I h=>Constant_bool ⟨.bl b,H,I,rfl,h⟩
def LR{j pos}:PE X (.Constant .none j pos) (tC .aK):=fun _ _ _ H _ I h=>Constant_none ⟨.aK,H,I,rfl,h⟩
def ye{x j pos}:PE X (.Constant (.str x) j pos) (tC (.str x)):=fun _ _ _ H _ I h=>Calls.Constant_str ⟨.str x,H,I.tok _,⟨_,rfl⟩,h⟩
def Gl (X:Cx)(x:Str):Prop:=X.env.kindOf x=some .globalImplicit
def u7{E:Value->Shared->Prop}{σ:St}{H:Hp}{pos:Pos}{Q:Value->Shared->Prop}(I:Inv X pins σ H s)(hg:Gl X x)(hm:X.mg x=some u)(h:Q u s)
  (hd:(x==("__debug__":Str))=false:=by decide):wpAny (model X.prog X.w) X.A (eval (.Name x pos) X.env) Q E s:=
 YZ I.ok.kind hg (Calls.loadGlobal_global (by rw[I.ok.glob];exact I.mod.glob.keeps I.bk) hm h) hd
def tS{E:Value->Shared->Prop}{σ:St}{H:Hp}{pos:Pos}{Q:Value->Shared->Prop}(I:Inv X pins σ H s)(hg:Gl X x)(hm:X.mg x=none)(hv:bootBuiltins x=some u)(h:Q u s)
  (hn:x ≠ "__name__":=by decide) (hd:(x==("__debug__":Str))=false:=by decide):wpAny (model X.prog X.w) X.A (eval (.Name x pos) X.env) Q E s:=by
 obtain⟨mb,h1,h2⟩:=I.mod.blt
 exact YZ I.ok.kind hg (Calls.loadGlobal_builtin (by rw[I.ok.glob];exact I.mod.glob.keeps I.bk) hm (by rw[I.ok.blt];exact h1.keeps I.bk) ((h2 x hn).trans hv) h) hd
def LS{v:V}{pos:Pos}(hg:Gl X x)(hm:X.mg x=some u)(r:bC v u)(hd:(x==("__debug__":Str))=false:=by decide):PE X (.Name x pos) (tC v):=
 fun _ _ _ H _ I h=>u7 I hg hm ⟨v,H,I,r,h⟩ hd
def EA{v:V}{pos:Pos}(hg:Gl X x)(hm:X.mg x=none)(hv:bootBuiltins x=some u)(r:bC v u)(hn:x ≠ "__name__":=by decide)(hd:(x==("__debug__":Str))=false:=by decide):PE X (.Name x pos) (tC v):=
 fun _ _ _ H _ I h=>tS I hg hm hv ⟨v,H,I,r,h⟩ hn hd
variable {a b:Expr}{ta tb:TE}{pos:Pos}
def PC (X:Cx)(op:CmpOp)(a b:Expr)(t:TE):Prop:=
 ∀ (pins:List (Addr×Obj)) (s:Shared) (σ:St) (H:Hp) (Q:VK),Inv X pins σ H s->t σ H Q->
  wpAny (model X.prog X.w) X.A (eval a X.env) (fun v aT=>wpAny (model X.prog X.w) X.A (eval b X.env) (fun u fj=>wpAny (model X.prog X.w) X.A (compareOp op v u) (EP X pins σ Q) X.xe fj) X.xe aT) X.xe s
def LU(b:Expr)(h:op ≠ .In)(h2:op ≠ .NotIn):behindInMarks op b=false:=by
 have e1:(op==CmpOp.In)=false:=by cases op<;>first|rfl|exact absurd rfl h
 have e2:(op==CmpOp.NotIn)=false:=by cases op<;>first|rfl|exact absurd rfl h2
 cases b<;>simp[behindInMarks,e1,e2]
def tB (t:TE):TT:=fun σ H Q=>t σ H fun x H1=>∃ c,x=.bl c/\Q c H1
def LV{t:TE}(h:PC X op a b t)(h1:behindInMarks op b=false:=by first|exact LU _ (by decide) (by decide)|rfl):PT X (.Compare a [op] [b] pos) (tB t):=by
 intro pins s σ H Q I hw
 refine wpAny_isTrue_Compare1 (aV (h pins s σ H _ I hw) fun v s1 h1=>aV h1 fun u s2 h2=>aV h2 fun c s3 ⟨x,H1,I1,r1,q1⟩=>?_) h1
 obtain⟨d,rfl,q⟩:=q1
 cases r1
 exact ZH ⟨H1,I1,q⟩
variable {tA yf:TT}{bh:List Expr}
def LW (t u:TT):TT:=fun σ H Q=>t σ H fun c H1=>if c=true then u σ H1 Q else Q false H1
def LX (t u:TT):TT:=fun σ H Q=>t σ H fun c H1=>if c=true then Q true H1 else u σ H1 Q
def LY (t:TT):TT:=fun σ H Q=>t σ H fun c H1=>Q (!c) H1
def LZ(ha:PT X a tA):PW X (.BoolOp .And [a] pos) tA:=by
 intro wh pins s σ H Q I h
 refine isTrue_and (aV (ha pins s σ H Q I h) fun c s1 e=>?_)
 cases c with
 | true=>exact isTrue_and_nil e
 | false=>exact e
def L6(ha:PT X a tA):PW X (.BoolOp .Or [a] pos) tA:=by
 intro wh pins s σ H Q I h
 refine isTrue_or (aV (ha pins s σ H Q I h) fun c s1 e=>?_)
 cases c with
 | false=>exact isTrue_or_nil e
 | true=>exact e
def L7(ha:PT X a tA)(hb:PW X (.BoolOp .And (b::bh) pos) yf):PW X (.BoolOp .And (a::b::bh) pos) (LW tA yf):=by
 intro wh pins s σ H Q I h
 refine isTrue_and (aV (ha pins s σ H _ I h) fun c s1 ah=>?_)
 obtain⟨H1,I1,q1⟩:=ah
 cases c with
 | true=>exact hb wh pins s1 σ H1 Q I1 q1
 | false=>exact⟨H1,I1,q1⟩
def L8(ha:PT X a tA)(hb:PW X (.BoolOp .Or (b::bh) pos) yf):PW X (.BoolOp .Or (a::b::bh) pos) (LX tA yf):=by
 intro wh pins s σ H Q I h
 refine isTrue_or (aV (ha pins s σ H _ I h) fun c s1 ah=>?_)
 obtain⟨H1,I1,q1⟩:=ah
 cases c with
 | true=>exact⟨H1,I1,q1⟩
 | false=>exact hb wh pins s1 σ H1 Q I1 q1
def L9(ha:PT X a tA):PT X (.UnaryOp .Not a pos) (LY tA):=by
 intro pins s σ H Q I h
 exact isTrue_not (ha pins s σ H (fun c H1=>Q (!c) H1) I h)
def L_ (ta tb:TE):TE:=fun σ H Q=>ta σ H fun x H1=>∃ c,x=.bl c/\if c=true then tb σ H1 Q else Q (.bl false) H1
def Ma (ta:TE):TE:=fun σ H Q=>ta σ H fun x H1=>∃ c,x=.bl c/\Q (.bl (!c)) H1
def Mb{op}{t:TE}(h:PE X a t):PE X (.BoolOp op [a] pos) t:=fun pins s σ H Q I hw=>BoolOp_one (h pins s σ H Q I hw)
def Mc(ha:PE X a ta)(hb:PE X (.BoolOp .And (b::bh) pos) tb):PE X (.BoolOp .And (a::b::bh) pos) (L_ ta tb):=by
 intro pins s σ H Q I h
 refine BoolOp_and (aV (ha pins s σ H _ I h) fun v s1 ah=>?_)
 obtain⟨x,H1,I1,r1,q1⟩:=ah
 obtain⟨c,rfl,q1⟩:=q1
 cases r1
 refine ZH ?_
 cases c with
 | true=>exact hb pins s1 σ H1 Q I1 q1
 | false=>exact⟨.bl false,H1,I1,rfl,q1⟩
def Md(ha:PE X a ta):PE X (.UnaryOp .Not a pos) (Ma ta):=by
 intro pins s σ H Q I h
 refine UnaryOp_ (aV (ha pins s σ H _ I h) fun v s1 ah=>?_)
 obtain⟨x,H1,I1,r1,q1⟩:=ah
 obtain⟨c,rfl,q1⟩:=q1
 cases r1
 exact not_of (ZH ⟨.bl (!c),H1,I1,rfl,q1⟩)
def Me (t:TT)(ta tb:TE):TE:=fun σ H Q=>t σ H fun c H1=>if c=true then ta σ H1 Q else tb σ H1 Q
def Mf(hc:PT X c tA)(ha:PE X a ta)(hb:PE X b tb):PE X (.IfExp c a b pos) (Me tA ta tb):=by
 intro pins s σ H Q I h
 refine wpAny_IfExp (aV (hc pins s σ H _ I h) fun d s1 ah=>?_)
 obtain⟨H1,I1,q1⟩:=ah
 cases d with
 | true=>exact ha pins s1 σ H1 Q I1 q1
 | false=>exact hb pins s1 σ H1 Q I1 q1
end
def cE (K:PySem.W.Frag)(H:Hp)(a:Addr)(xs:List V):Prop:=
 Rd H a (.lst xs) \/
  ∃ (o:Obj) (aq:Array Value) (n:Nat),K.lookup a=some o/\o.cls=.type "list" /\ o.dict=none/\o.data=.seq aq n/\aq.size<=sizeLine/\bq xs aq.toList
def du (K:PySem.W.Frag)(H:Hp)(a:Addr)(xs:List V):Prop:=
 Rd H a (.tup xs) \/
  ∃ (o:Obj) (aq:Array Value) (n:Nat),K.lookup a=some o/\o.cls=.type "tuple" /\ o.data=.seq aq n/\aq.size<=sizeLine/\bq xs aq.toList
def Mg:Value->Option V
 | .none=>some .aK
 | .bool b=>some (.bl b)
 | .int i _=>some (.int i)
 | .str x _=>some (.str x)
 | .bytes b _=>some (.uW b)
 | .float b _=>some (.tM b)
 | .ref a=>some (.ref a)
 | .type n=>some (.ty n)
 | _=>none
def bC.abs{x:V}(r:bC x u):Mg u=some x:=by
 cases x with
 | aK=>cases r;rfl
 | bl _=>cases r;rfl
 | int _=>obtain⟨t,rfl⟩:=r;rfl
 | str _=>obtain⟨t,rfl⟩:=r;rfl
 | uW _=>obtain⟨t,rfl⟩:=r;rfl
 | tM _=>obtain⟨t,rfl⟩:=r;rfl
 | ref _=>cases r;rfl
 | ty _=>cases r;rfl
def bC.inj{x y:V}(r:bC x u)(q:bC y u):x=y:=QF (r.abs.symm.trans q.abs)
theorem bq.inj:∀ {xs ys:List V} {us:List Value},bq xs us->bq ys us->xs=ys
 | _,_,_,.nil,.nil=>rfl
 | _,_,_,.cons r t,.cons r' t'=>by rw[r.inj r',bq.inj t t']
section
variable {X:Cx}{pins:List (Addr×Obj)}{σ:St}{H:Hp}{s:Shared}{a:Addr}{xs ys:List V}
def cE.of(h:H a=some (.lst xs)):cE K H a xs:=.inl (.inl h)
def du.of(h:H a=some (.tup xs)):du K H a xs:=.inl (.inl h)
def Inv.list(I:Inv X pins σ H s)(h:cE X.K H a xs):∃ aq:List Value,bq xs aq/\PlainL s.heap a aq.toArray/\xs.length<=sizeLine:=by
 rcases h with h|⟨o,aq,n,hk,hc,hd,hs,hz,r⟩
 ·obtain⟨z,aq,n,r,e⟩:=h.ok I.az
  exact⟨aq,r,⟨_,n,e,rfl,rfl,rfl⟩,z⟩
 ·refine⟨aq.toList,r,⟨o,n,I.fi a o hk,hc,hd,by simpa using hs⟩,?_⟩
  have e:=r.length
  simp only[QU]at e
  omega
def Inv.tuple(I:Inv X pins σ H s)(h:du X.K H a xs):∃ aq:List Value,bq xs aq/\IsTup s.heap a aq.toArray/\xs.length<=sizeLine:=by
 rcases h with h|⟨o,aq,n,hk,hc,hs,hz,r⟩
 ·obtain⟨z,aq,r,p⟩:=h.ok I.az
  exact⟨aq,r,p.tup,z⟩
 ·refine⟨aq.toList,r,⟨o,I.fi a o hk,hc,n,by simpa using hs⟩,?_⟩
  have e:=r.length
  simp only[QU]at e
  omega
def Inv.iV(I:Inv X pins σ H s)(h:cE X.K H a xs)(h':cE X.K H a ys):xs=ys:=by
 obtain⟨aq,r,⟨o,n,e,_,_,d⟩,_⟩:=I.list h
 obtain⟨its',r',⟨o',n',e',_,_,d'⟩,_⟩:=I.list h'
 rw[e]at e';cases e'
 rw[d]at d'
 injection d' with d1 _
 have:aq=its':=by simpa using Jb Array.toList d1
 subst this
 exact r.inj r'
def Inv.ij(I:Inv X pins σ H s)(h:du X.K H a xs)(h':du X.K H a ys):xs=ys:=by
 obtain⟨aq,r,⟨o,e,_,n,d⟩,_⟩:=I.tuple h
 obtain⟨its',r',⟨o',e',_,n',d'⟩,_⟩:=I.tuple h'
 rw[e]at e';cases e'
 rw[d]at d'
 injection d' with d1 _
 have:aq=its':=by simpa using Jb Array.toList d1
 subst this
 exact r.inj r'
end
abbrev Cx.gT (X:Cx)(E:Value->Shared->Prop):Cx:={ X with xe:=E }
abbrev Cx.iW (X:Cx):Cx:=X.gT fun _ _=>False
def Cx.Ok.gT{X:Cx}(ok:X.Ok)(E:Value->Shared->Prop):(X.gT E).Ok:=
 ⟨ok.mod,ok.kind,ok.glob,ok.blt,ok.above,ok.inj,ok.has,ok.tP,ok.hd,ok.frames,ok.u0,ok.yb,ok.bs,ok.l9,ok.kR,ok.kS,ok.fh,ok.rl⟩
def Cx.Ok.dv{X:Cx}(ok:(X.gT E).Ok):X.Ok:=
 ⟨ok.mod,ok.kind,ok.glob,ok.blt,ok.above,ok.inj,ok.has,ok.tP,ok.hd,ok.frames,ok.u0,ok.yb,ok.bs,ok.l9,ok.kR,ok.kS,ok.fh,ok.rl⟩
section
variable {X:Cx}{pins:List (Addr×Obj)}{σ:St}{H:Hp}{s:Shared}{E:Value->Shared->Prop}
def Inv.gT(I:Inv X pins σ H s)(E:Value->Shared->Prop):Inv (X.gT E) pins σ H s:=⟨I.ok.gT E,I.os,I.bare,I.base,I.loc,I.cell,I.free,I.cH,I.pin,I.az,I.len⟩
def Inv.dv(I:Inv (X.gT E) pins σ H s):Inv X pins σ H s:=⟨I.ok.dv,I.os,I.bare,I.base,I.loc,I.cell,I.free,I.cH,I.pin,I.az,I.len⟩
def SP.dv{D:Ends}{f:Flow}(h:SP (X.gT E) pins D f s'):SP X pins D f s':=by
 cases f with
 | next=>obtain⟨aM,H',I,q⟩:=h;exact⟨aM,H',I.dv,q⟩
 | brk=>obtain⟨aM,H',I,q⟩:=h;exact⟨aM,H',I.dv,q⟩
 | cont=>obtain⟨aM,H',I,q⟩:=h;exact⟨aM,H',I.dv,q⟩
 | ret u=>obtain⟨v,aM,H',I,r,q⟩:=h;exact⟨v,aM,H',I.dv,r,q⟩
def gm.iW{st:List Stmt}{t:TS}(h:gm X.iW st t):gm X st t:=fun pins s σ H D I hw=>
 Zs (h pins s σ H D (I.gT _) hw) (fun _ _ q=>q.dv) fun _ _ z=>False.elim z
end
section
variable {X:Cx}{st:Stmt}{bh:List Stmt}{t u:TS}{e:Expr}{te:TE}{pos:Pos}
def Mh:TS:=fun D σ H=>D.nx σ H
def Mi (t u:TS):TS:=fun D σ H=>t { D with nx:=u D } σ H
def Mj:gm X [] Mh:=fun _ _ σ H _ I h=>J4 ⟨σ,H,I,h⟩
def EB(h1:PS X st t)(h2:gm X bh u):gm X (st::bh) (Mi t u):=by
 intro pins s σ H D I h
 refine Yt (aV (h1 pins s σ H { D with nx:=u D } I h) fun f s1 q=>?_)
 cases f with
 | next=>
  obtain⟨aM,H',I',q⟩:=q
  exact h2 pins s1 aM H' D I' q
 | ret v=>exact q
 | brk=>exact q
 | cont=>exact q
def EC(h1:PS X st t):gm X [st] t:=by
 intro pins s σ H D I h
 refine Yt (aV (h1 pins s σ H D I h) fun f s1 q=>?_)
 cases f with
 | next=>exact J4 q
 | ret v=>exact q
 | brk=>exact q
 | cont=>exact q
def Inv.quiet{σ:St}{H:Hp}(I:Inv X pins σ H s):interactive X.env=false:=by simp[interactive,I.ok.kind]
def Ml (te:TE):TS:=fun D σ H=>te σ H fun _ H1=>D.nx σ H1
def Mm(he:PE X e te)(hs:swapsWith e none pos.line X.env=pure false:=by rfl):PS X (.Expr e pos) (Ml te):=by
 intro pins s σ H D I h
 exact wpAny_Expr_any (aV (he pins s σ H _ I h) fun v s1 ⟨x,H1,I1,r1,q1⟩=>⟨σ,H1,I1,q1⟩) I.quiet hs
def Mn (te:TE):TS:=fun D σ H=>te σ H D.rt
def ED(he:PE X e te):PS X (.Return (some e) pos) (Mn te):=by
 intro pins s σ H D I h
 exact wpAny_Return_some (aV (he pins s σ H _ I h) fun v s1 ⟨x,H1,I1,r1,q1⟩=>⟨x,σ,H1,I1,r1,q1⟩)
def Mp (c:TT)(t u:TS):TS:=fun D σ H=>c σ H fun b H1=>if b=true then t D σ H1 else u D σ H1
def EE{a b:List Stmt}{tc:TT}(hc:PT X c tc)(ha:gm X a t)(hb:gm X b u):PS X (.If c a b pos) (Mp tc t u):=by
 intro pins s σ H D I h
 refine wpAny_If (aV (hc pins s σ H _ I h) fun d s1 ah=>?_)
 obtain⟨H1,I1,q1⟩:=ah
 cases d with
 | true=>exact ha pins s1 σ H1 D I1 q1
 | false=>exact hb pins s1 σ H1 D I1 q1
def Mq:TS:=fun _ _ _=>False
def Mr:PS X st Mq:=fun _ _ _ _ _ _ h=>h.elim
end
abbrev TG:=V->St->Hp->(St->Hp->Prop)->Prop
abbrev oq:=List V->St->Hp->(St->Hp->Prop)->Prop
def PG (X:Cx)(target:Expr)(t:TG):Prop:=
 ∀ (pins:List (Addr×Obj)) (s:Shared) (σ:St) (H:Hp) (v:V) (u:Value) (Q:St->Hp->Prop),Inv X pins σ H s->bC v u->t v σ H Q->
  wpAny (model X.prog X.w) X.A (assign target X.env u) (fun _ s'=>∃ aM H',Inv X pins aM H' s'/\Q aM H') X.xe s
def nK (X:Cx)(ts:List Expr)(t:oq):Prop:=
 ∀ (pins:List (Addr×Obj)) (s:Shared) (σ:St) (H:Hp) (vs:List V) (us:List Value) (Q:St->Hp->Prop),Inv X pins σ H s->bq vs us->t vs σ H Q->
  wpAny (model X.prog X.w) X.A (assignInOrder ((assignEach ts X.env).map (·.2)) us) (fun _ s'=>∃ aM H',Inv X pins aM H' s'/\Q aM H') X.xe s
abbrev Az:=V->V->V->Hp->(Hp->Prop)->Prop
def EF (X:Cx)(t:Az):Prop:=
 ∀ (pins:List (Addr×Obj)) (s:Shared) (σ:St) (H:Hp) (o i v:V) (ov iv u:Value) (Q:Hp->Prop),Inv X pins σ H s->bC o ov->bC i iv->bC v u->t o i v H Q->
  wpAny (model X.prog X.w) X.A (setItem ov iv u) (fun _ s'=>∃ H',Inv X pins σ H' s'/\Q H') X.xe s
section
variable {X:Cx}{pos:Pos}
def AA (i:Nat):TG:=fun v σ H Q=>Q (σ.set i (some v)) H
def Ms(hN:X.N.Nodup)(hi:X.N[i]? = some x)(hx:Loc X.env.scope x)(hf:X.fn x=true\/X.env.scope.names.lookup x=some .local:=by first|exact .inl rfl|exact .inr rfl|assumption):PG X (.Name x pos) (AA i):=by
 intro pins s σ H v u Q I r h
 exact wpAny_assign_Name (Ax I hN hi hx r (fun s' I'=>⟨_,H,I',h⟩) hf)
def Mt:oq:=fun vs σ H Q=>vs=[]/\Q σ H
def Mu (t:TG)(u:oq):oq:=fun vs σ H Q=>∃ v r,vs=v::r/\t v σ H fun aM H'=>u r aM H' Q
def Mv:nK X [] Mt:=by
 intro pins s σ H vs us Q I r h
 obtain⟨e,h⟩:=h
 subst e
 cases r
 exact assignInOrder_nil ⟨σ,H,I,h⟩
theorem Mw{t:TG}{u:oq}(h1:PG X e t)(h2:nK X es u)
  (hs:(assignEach (e::es) X.env).map (·.2)=assign e X.env::(assignEach es X.env).map (·.2):=by rfl):nK X (e::es) (Mu t u):=by
 intro pins s σ H vs us Q I r h
 obtain⟨v,vr,e1,h⟩:=h
 subst e1
 cases r with
 | cons r rr=>
  rw[hs]
  refine assignInOrder_cons (aV (h1 pins s σ H _ _ _ I r h) fun _ s1 ah=>?_)
  obtain⟨rp,H1,I1,q1⟩:=ah
  exact h2 pins s1 rp H1 _ _ Q I1 rr q1
def Mx (K:PySem.W.Frag)(n:Nat)(t:oq):TG:=fun v σ H Q=>∃ a xs,v=.ref a/\du K H a xs/\xs.length=n/\t xs σ H Q
def Mz{k:Nat}{t:oq}(hc:X.calm=true)(h:nK X es t)
  (hn:(assignEach es X.env).length=n:=by rfl) (dZ:(assignEach es X.env).findIdx? (·.1)=none:=by rfl):PG X (.Tuple es k pos) (Mx X.K n t):=by
 intro pins s σ H v u Q I r hw
 obtain⟨a,xs,e1,hq,hl,hw⟩:=hw
 subst e1
 cases r
 obtain⟨aq,rv,ht,hz⟩:=I.tuple hq
 refine assign_Tuple_tuple (I.ok.hd hc) ht (by simp[hn,<- hl,rv.length]) dZ fun h' hx=>?_
 have I1:Inv X pins σ H { s with heap:=h' }:=I.kept (t':=s.toks) fun b o e=>hx b o (QM (Qo e)) e
 exact h pins _ σ H xs _ Q I1 (by simpa using rv) hw
def MA (to ti:TE)(t:Az):TG:=fun v σ H Q=>to σ H fun o H1=>ti σ H1 fun i H2=>t o i v H2 fun H3=>Q σ H3
def MB{o i:Expr}{to ti:TE}{t:Az}(ho:PE X o to)(hi:PE X i ti)(hs:EF X t)
  (ha:∀ v,assign (.Subscript o i pos) X.env v=(do
    let ov <- holding [v] (eval o X.env)
    let iv <- holding [v,ov] (eval i X.env)
    standAt pos
    holding [v,ov,iv] (setItem ov iv v)
    release [v,ov,iv] []):=by intro _;rfl):PG X (.Subscript o i pos) (MA to ti t):=by
 intro pins s σ H v u Q I r h
 rw[ha]
 refine Qa (Q9 (aV (ho pins s σ H _ I h) fun ov s1 ah=>?_))
 obtain⟨x,H1,I1,r1,q1⟩:=ah
 refine Qa (Q9 (aV (hi pins s1 σ H1 _ I1 q1) fun iv s2 ah=>?_))
 obtain⟨y,H2,I2,r2,q2⟩:=ah
 refine Qa (wpAny_standAt (Qa (Q9 (aV (hs pins s2 σ H2 x y v ov iv u _ I2 r1 r2 r q2) fun _ s3 ah=>?_))))
 obtain⟨H3,I3,q3⟩:=ah
 exact wpAny_release ⟨σ,H3,I3,q3⟩
def AB (te:TE)(g:TG):TS:=fun D σ H=>te σ H fun x H1=>g x σ H1 D.nx
def EG{te:TE}{g:TG}(he:PE X e te)(hg:PG X tg g)(hs:swapsWithSole [tg] e pos.line X.env=pure false:=by rfl)(hw:swappedStores [tg] e X.env=pure none:=by rfl)
  (h1:(assignEach [tg] X.env).map (·.2)=[assign tg X.env]:=by rfl):PS X (.Assign [tg] e pos) (AB te g):=by
 intro pins s σ H D I h
 refine wpAny_Assign_stores (aV (he pins s σ H _ I h) fun v s1 ⟨x,H1,I1,r1,q1⟩=>?_) hs hw
 rw[h1]
 exact aV (hg pins s1 σ H1 x v _ I1 r1 q1) fun _ s2 q=>q
def EH{te:TE}{pos':Pos}(hN:X.N.Nodup)(hi:X.N[i]? = some x)(hx:Loc X.env.scope x)(he:PE X e te)(hs:swapsWith e (some (.Name x pos')) pos.line X.env=pure false:=by rfl)(hf:X.fn x=true\/X.env.scope.names.lookup x=some .local:=by first|exact .inl rfl|exact .inr rfl|assumption) :
  PS X (.Assign [.Name x pos'] e pos) (AB te (AA i)):=by
 intro pins s σ H D I h
 refine wpAny_Assign_Name (aV (he pins s σ H _ I h) fun v s1 ⟨y,H1,I1,r1,q1⟩=>?_) hs
 exact Ax I1 hN hi hx r1 (fun s2 I2=>⟨_,H1,I2,q1⟩) hf
def MC (c:TT)(tb:TS):TS:=fun D σ H=>∃ W:Nat->St->Hp->Prop,(∃ m,W m σ H)/\∀ m σ H,W m σ H->
 c σ H fun b H1=>if b=true then ∃ N:St->Hp->Prop,(∀ aM H',N aM H'->∃ m',m'<m/\W m' aM H')/\tb { D with nx:=N,ct:=N,bk:=D.nx } σ H1 else D.nx σ H1
def MD{tc:TT}{tb:TS}(hp:PassesOwn (model X.prog X.w) X.A X.env X.xe)(hc:PT X c tc)(hb:gm X body tb):PS X (.While c body [] pos) (MC tc tb):=by
 intro pins s σ H D I h
 obtain⟨W,⟨m0,w0⟩,lM⟩:=h
 refine wpAny_While (codeAny_whileLoop (fun n s'=>∃ aM H',Inv X pins aM H' s'/\W n aM H') ?_ m0 ⟨σ,H,I,w0⟩)
 rintro n s1 ⟨rp,H1,I1,w1⟩
 refine Jf hp (aV (hc pins s1 rp H1 _ I1 (lM n rp H1 w1)) fun b s2 ah=>?_)
 obtain⟨H2,I2,q2⟩:=ah
 cases b with
 | true=>
  obtain⟨N,hN,q2⟩:=q2
  rw[Qf rfl]
  refine Jf hp (aV (hb pins s2 rp H2 _ I2 q2) fun f s3 q3=>?_)
  cases f with
  | next=>
   obtain⟨me,H3,I3,n3⟩:=q3
   obtain⟨m',hm,w3⟩:=hN me H3 n3
   exact⟨m',hm,me,H3,I3,w3⟩
  | cont=>
   obtain⟨me,H3,I3,n3⟩:=q3
   obtain⟨m',hm,w3⟩:=hN me H3 n3
   exact⟨m',hm,me,H3,I3,w3⟩
  | brk=>exact q3
  | ret v=>exact q3
 | false=>
  rw[Qi Zd]
  exact J4 ⟨rp,H2,I2,q2⟩
end
structure It where
 go:Nat->Hp->Prop
 pM:Nat->Hp->V->Hp->Prop
 stop:Nat->Hp->Prop
def mf (X:Cx)(pins:List (Addr×Obj))(H:Hp)(b:Addr):Prop:=
 H b=none/\b≠X.env.locals/\b ∉ X.fs/\(b∈X.ex\/X.aP.heap.objs.size<=b)/\(∀ x c,X.env.cells.lookup x=some c->c≠b)/\∀ p∈X.pn++pins,p.1≠b
def Inv.ot{X:Cx}{σ:St}{H H':Hp}(I:Inv X pins σ H s)(hb:s.heap.objs.size<=b)(hn:H' b=none):mf X pins H' b:=by
 refine⟨hn,VD (Qw I.lt hb),I.u4 hb,.inr (QO I.sz hb),fun x c e z=>?_,fun p hp z=>?_⟩
 ·obtain⟨v,q⟩:=I.cell x c e
  exact absurd (Qw q.lt (by rw[z];exact hb)) (Q2 _)
 ·exact absurd (Qw (Qo (I.pin p hp).1) (by rw[z];exact hb)) (Q2 _)
structure Turn (P:Program) (w:World) (K:PySem.W.Frag) (tg:Expr) (J:It) (fp:List Addr) (it:Addr) (tn:Nat->Heap->Prop):Prop where
 mem:it∈fp
 obj:∀ i h,tn i h->∀ b∈fp,∃ o,h.get? b=some o/\∀ v,o.data ≠ .cell v
 keep:∀ i h h',tn i h->(∀ b∈fp,∀ o,h.get? b=some o->h'.get? b=some o)->tn i h'
 item:∀ (X:Cx),X.prog=P->X.w=w->X.K=K->X.calm=true->∀ (i:Nat) (pins:List (Addr×Obj)) (s:Shared) (σ:St) (H:Hp) (E:Value->Shared->Prop),Inv X pins σ H s->(∀ b∈fp,mf X pins H b)->tn i s.heap->J.go i H->
  wpAny (model P w) X.A (pyNext (.ref it)) (fun r s1=>∃ u,r=some u /\
   wpAny (model P w) X.A (letOwnedTupleGo tg (.ref it) u) (fun _ s2=>∃ x H',Inv X pins σ H' s2/\bC x u/\J.pM i H x H'/\tn (i+1) s2.heap/\∀ b∈fp,H' b=none) E s1) E s
 done:∀ (X:Cx),X.prog=P->X.w=w->X.K=K->X.calm=true->∀ (i:Nat) (pins:List (Addr×Obj)) (s:Shared) (σ:St) (H:Hp) (E:Value->Shared->Prop),Inv X pins σ H s->(∀ b∈fp,mf X pins H b)->tn i s.heap->J.stop i H->
  wpAny (model P w) X.A (pyNext (.ref it)) (fun r s1=>r=none/\Inv X pins σ H s1) E s
 self:∀ (A:Around) (i:Nat) (s:Shared) (Q:Value->Shared->Prop) (E:Value->Shared->Prop),tn i s.heap->Q (.ref it) s->wpAny (model P w) A (pyIter (.ref it)) Q E s
abbrev TI:=St->Hp->(It->Hp->Prop)->Prop
def AD (X:Cx)(pins:List (Addr×Obj))(σ:St)(tg:Expr)(R:It->Hp->Prop)(yg:Value)(s2:Shared):Prop:=
 ∃ (it:Addr) (fp:List Addr) (tn:Nat->Heap->Prop) (J:It) (H':Hp),yg=.ref it/\Inv X pins σ H' s2/\Turn X.prog X.w X.K tg J fp it tn/\tn 0 s2.heap/\(∀ b∈fp,mf X pins H' b)/\R J H'
def PI (X:Cx)(tg iter:Expr)(wi:TI):Prop:=
 ∀ (pins:List (Addr×Obj)) (s:Shared) (σ:St) (H:Hp) (R:It->Hp->Prop),Inv X pins σ H s->wi σ H R->
  wpAny (model X.prog X.w) X.A (eval iter X.env) (fun v s1=>wpAny (model X.prog X.w) X.A (pyIter v) (AD X pins σ tg R) X.xe s1) X.xe s
def AE{n:String}{vs:Array Value}(ho:s.heap.get? it=some o)(hc:o.cls=.type n)(hd:o.data=.fields vs)
  (hn:["enumerate","zip","dict_itemiterator","dict_reverseitemiterator","odict_iterator","itertools.zip_longest","itertools.pairwise"].contains n=false) (hQ:Q () s):wpAny M A (letOwnedTupleGo tg (.ref it) u) Q E s:=by
 unfold letOwnedTupleGo
 cases tg<;>first
  | exact Qd hQ
  | (cases u<;>first
      | exact Qd hQ
      | (refine Qa (wpAny_load ho ?_)
         rw[hc,hd]
         show wpAny M A (if(["enumerate","zip","dict_itemiterator","dict_reverseitemiterator","odict_iterator","itertools.zip_longest","itertools.pairwise"].contains n&&vs[0]? == some (rawInt _))=true then _ else _) Q E s
         rw[Qi (by intro h;rw[hn,Bool.false_and]at h;cases h)]
         exact Qd hQ))
def AF (K:PySem.W.Frag)(a:Addr):It:=
 ⟨fun i H=>∃ xs x,cE K H a xs/\xs[i]? = some x,fun i H x H'=>H'=H/\∀ xs,cE K H a xs->xs[i]? = some x,fun i H=>∃ xs,cE K H a xs/\xs.length<=i⟩
def AG (K:PySem.W.Frag)(a:Addr):It:=
 ⟨fun i H=>∃ xs x,du K H a xs/\xs[i]? = some x,fun i H x H'=>H'=H/\∀ xs,du K H a xs->xs[i]? = some x,fun i H=>∃ xs,du K H a xs/\xs.length<=i⟩
def yh (lo:Int)(n:Nat):It:=⟨fun i _=>i<n,fun i H x H'=>H'=H/\x=.int (lo+i),fun i _=>n<=i⟩
def ME(a it:Addr):Turn P w K tg (AF K a) [it] it (fun i h=>h.IsListIter it a i) where
 mem:=by simp
 obj:=fun i h st b hb=>by
  have e:b=it:=by simpa using hb
  subst e
  obtain⟨o,e,c,d⟩:=st
  exact⟨o,e,fun v z=>by rw[d]at z;cases z⟩
 keep:=fun i h h' st k=>st.at fun o e=>k it (by simp) o e
 item:=by
  intro X hP hw hK hc i pins s σ H E I hf st hg
  subst hP hw hK
  obtain⟨xs,x,hq,hx⟩:=hg
  obtain⟨aq,rv,p,hz⟩:=I.list hq
  obtain⟨u,hu,ru⟩:=rv.get hx
  obtain⟨f0,f1,f2,f3,f4,f5⟩:=hf it (by simp)
  refine wpAny_pyNext_list_item st p.isList (x:=u) (by simpa using hu) fun h' kU sb=>?_
  have I1:Inv X pins σ H { s with heap:=h' }:=I.turned (t':=s.toks) (fun b o hb e=>(sb.2 b hb).trans e) f0 f1 f3 f4 f5
  obtain⟨o,e,c,d⟩:=id kU
  exact⟨u,rfl,AE (s:={ s with heap:=h' }) e c d (by decide) ⟨x,H,I1,ru,⟨rfl,fun ys hy=>by rw[I.iV hy hq];exact hx⟩,kU,fun b hb=>(hf b hb).1⟩⟩
 done:=by
  intro X hP hw hK hc i pins s σ H E I hf st hg
  subst hP hw hK
  obtain⟨xs,hq,hx⟩:=hg
  obtain⟨aq,rv,p,hz⟩:=I.list hq
  obtain⟨f0,f1,f2,f3,f4,f5⟩:=hf it (by simp)
  have hl:=rv.length
  exact wpAny_pyNext_list_end (I.ok.hd hc) st p.isList (by simp;omega) fun h' eb=>⟨rfl,I.turned (t':=s.toks) (fun b o hb e=>eb b o hb e) f0 f1 f3 f4 f5⟩
 self:=fun _ _ _ _ _ st h=>wpAny_pyIter_listiter st h
def MF(a it:Addr):Turn P w K tg (AG K a) [it] it (fun i h=>h.IsTupleIter it a i) where
 mem:=by simp
 obj:=fun i h st b hb=>by
  have e:b=it:=by simpa using hb
  subst e
  obtain⟨o,e,c,d⟩:=st
  exact⟨o,e,fun v z=>by rw[d]at z;cases z⟩
 keep:=fun i h h' st k=>st.at fun o e=>k it (by simp) o e
 item:=by
  intro X hP hw hK hc i pins s σ H E I hf st hg
  subst hP hw hK
  obtain⟨xs,x,hq,hx⟩:=hg
  obtain⟨aq,rv,p,hz⟩:=I.tuple hq
  obtain⟨u,hu,ru⟩:=rv.get hx
  obtain⟨f0,f1,f2,f3,f4,f5⟩:=hf it (by simp)
  refine wpAny_pyNext_tuple_item st (show s.heap.IsTuple a aq.toArray from p) (x:=u) (by simpa using hu) fun h' kU sb=>?_
  have I1:Inv X pins σ H { s with heap:=h' }:=I.turned (t':=s.toks) (fun b o hb e=>(sb.2 b hb).trans e) f0 f1 f3 f4 f5
  obtain⟨o,e,c,d⟩:=id kU
  exact⟨u,rfl,AE (s:={ s with heap:=h' }) e c d (by decide) ⟨x,H,I1,ru,⟨rfl,fun ys hy=>by rw[I.ij hy hq];exact hx⟩,kU,fun b hb=>(hf b hb).1⟩⟩
 done:=by
  intro X hP hw hK hc i pins s σ H E I hf st hg
  subst hP hw hK
  obtain⟨xs,hq,hx⟩:=hg
  obtain⟨aq,rv,p,hz⟩:=I.tuple hq
  obtain⟨f0,f1,f2,f3,f4,f5⟩:=hf it (by simp)
  have hl:=rv.length
  exact wpAny_pyNext_tuple_end (I.ok.hd hc) st (show s.heap.IsTuple a aq.toArray from p) (by simp;omega) fun h' eb=>⟨rfl,I.turned (t':=s.toks) (fun b o hb e=>eb b o hb e) f0 f1 f3 f4 f5⟩
 self:=fun _ _ _ _ _ st h=>wpAny_pyIter_tupleiter st h
def MG(it:Addr)(lo:Int)(n:Nat):Turn P w K tg (yh lo n) [it] it (fun i h=>IsRangeIter h it (lo+(i:Nat)*1) ((n:Int)-(i:Nat)) 1) where
 mem:=by simp
 obj:=fun i h st b hb=>by
  have e:b=it:=by simpa using hb
  subst e
  exact⟨_,st,fun v z=>by
   have z':Data.fields _=Data.cell v:=z
   cases z'⟩
 keep:=fun i h h' st k=>k it (by simp) _ st
 item:=by
  intro X hP hw hK hc i pins s σ H E I hf st hg
  subst hP hw hK
  obtain⟨f0,f1,f2,f3,f4,f5⟩:=hf it (by simp)
  have W:=Walks.range (prog:=X.prog) (w:=X.w) (I.ok.hd hc) it lo 1 n
  refine W.item i s _ _ hg st fun v h' tk hv kU kk=>?_
  obtain⟨t,rfl⟩:=hv
  have I1:Inv X pins σ H { s with heap:=h',toks:=tk }:=I.turned (fun b o hb e=>kk b o (by simpa using hb) e) f0 f1 f3 f4 f5
  refine⟨_,rfl,AE (s:={ s with heap:=h',toks:=tk }) (n:="range_iterator") kU rfl rfl (by decide) ⟨.int (lo+i),H,I1,⟨t,?_⟩,⟨rfl,rfl⟩,kU,fun b hb=>(hf b hb).1⟩⟩
  rw[Int.mul_one]
 done:=by
  intro X hP hw hK hc i pins s σ H E I hf st hg
  subst hP hw hK
  obtain⟨f0,f1,f2,f3,f4,f5⟩:=hf it (by simp)
  exact wpAny_pyNext_range_end (I.ok.hd hc) st (by have:n<=i:=hg;omega) fun h' eb=>⟨rfl,I.turned (t':=s.toks) (fun b o hb e=>eb b o hb e) f0 f1 f3 f4 f5⟩
 self:=fun _ _ _ _ _ st h=>wpAny_pyIter_rangeiter st h
section
variable {X:Cx}{tg:Expr}
def MH{σ:St}{H:Hp}{R:It->Hp->Prop}{lo hi:Int}{t u v:Tok}{tk:Nat}(I:Inv X pins σ H s)(h1:-(2 ^ 62)<=lo)(h2:lo<2 ^ 62)(h3:-(2 ^ 62)<=hi)(h4:hi<2 ^ 62)
  (q:R (yh lo (hi-lo).toNat) H):wpAny (model X.prog X.w) X.A (pyIter (.ref s.heap.objs.size)) (AD X pins σ tg R) E { s with heap:=s.heap.push { cls:=.type "range",data:=.fields #[.int lo t,.int hi u,.int 1 v] },toks:=tk }:=by
 refine wpAny_pyIter_range (IsRange.new ..) (small_one h1 h2 h3 h4) ?_
 have I1:Inv X pins σ H { s with heap:=s.heap.push { cls:=.type "range",data:=.fields #[.int lo t,.int hi u,.int 1 v] },toks:=tk }:=I.kept fun b o e=>Qe _ e
 refine⟨(s.heap.push { cls:=.type "range",data:=.fields #[.int lo t,.int hi u,.int 1 v] }).objs.size,[(s.heap.push { cls:=.type "range",data:=.fields #[.int lo t,.int hi u,.int 1 v] }).objs.size],_,_,H,rfl,
  I1.kept (t':=tk) fun b o e=>Qe _ e,MG _ lo (hi-lo).toNat,?_,fun b hb=>?_,q⟩
 ·have e1:lo+((0:Nat):Int)*1=lo:=by simp
  have e2:(((hi-lo).toNat:Nat):Int)-((0:Nat):Int)=Builtin.Range.rangeSize lo hi 1:=by rw[rangeSize_one];split<;>omega
  show IsRangeIter _ _ (lo+((0:Nat):Int)*1) ((((hi-lo).toNat:Nat):Int)-((0:Nat):Int)) 1
  rw[e1,e2]
  exact Qv _ rfl
 ·have e:b=(s.heap.push { cls:=.type "range",data:=.fields #[.int lo t,.int hi u,.int 1 v] }).objs.size:=by simpa using hb
  subst e
  exact I1.ot (Qh _) (I1.az.fresh (Qh _))
def MI (ta:TA):TI:=fun σ H R=>ta σ H fun vs H1=>∃ j:Int,vs=[.int j] /\ -(2 ^ 62)<=j/\j<2 ^ 62/\R (yh 0 j.toNat) H1
def MJ{a:Expr}{ta:TA}{p pos:Pos}(hg:Gl X "range")(hm:X.mg "range" = none)(ha:PA X [a] ta)(hs:starEach [a] X.env=[(false,eval a X.env)]:=by rfl):PI X tg (.Call (.Name "range" p) [a] [] pos) (MI ta):=by
 intro pins s σ H R I h
 refine Call_ (tS I hg hm boot_range (Z7 (aV (ha pos pins s σ H _ I h) fun us s1 ⟨vs,H1,I1,r1,q1⟩=>?_) hs rfl))
 obtain⟨j,e,q1,q2,q⟩:=q1
 subst e
 cases r1 with
 | cons r rr=>
  cases rr
  obtain⟨t,rfl⟩:=r
  exact call_range_1 (MH I1 (by omega) (by omega) q1 q2 (by simpa using q))
def ML (wi:TI)(g:TG)(tb:TS):TS:=fun D σ H=>wi σ H fun J H1=>∃ W:Nat->Nat->St->Hp->Prop,(∃ m,W 0 m σ H1)/\∀ i m σ H,W i m σ H->
 (J.stop i H/\D.nx σ H)\/(J.go i H/\∃ N:St->Hp->Prop,(∀ aM H',N aM H'->∃ m',m'<m/\W (i+1) m' aM H')/\∀ x H',J.pM i H x H'->g x σ H' fun jK H2=>tb { D with nx:=N,ct:=N,bk:=D.nx } jK H2)
def pN (fp:List Addr)(h:Heap):List (Addr×Obj):=fp.filterMap fun b=>(h.get? b).map fun o=>(b,o)
def yi(hb:b∈fp)(e:h.get? b=some o):(b,o)∈pN fp h:=Yc.mpr ⟨b,hb,by rw[e];rfl⟩
def EI{p:Addr×Obj}(hp:p∈pN fp h):p.1∈fp/\h.get? p.1=some p.2:=by
 obtain⟨b,hb,e⟩:=Yc.mp hp
 cases q:h.get? b with
 | none=>rw[q]at e;cases e
 | some o=>
  rw[q]at e
  have e':(b,o)=p:=QF e
  subst e'
  exact⟨hb,q⟩
def Inv.pinned{σ:St}{H:Hp}(I:Inv X pins σ H s)(hf:∀ b∈fp,mf X pins H b)(ho:∀ b∈fp,∃ o,s.heap.get? b=some o/\∀ v,o.data ≠ .cell v):Inv X (pins++pN fp s.heap) σ H s:=
 I.fZ fun p hp=>(QG.mp hp).elim (fun z=>I.pin p (Qp _ z)) fun z=>by
  obtain⟨hb,e⟩:=EI z
  obtain⟨f0,f1,f2,_⟩:=hf p.1 hb
  obtain⟨o,e',d⟩:=ho p.1 hb
  rw[e]at e';cases e'
  exact⟨e,f0,f1,f2,d⟩
def Inv.eG{pl:List (Addr×Obj)}{σ:St}{H:Hp}(I:Inv X (pins++pl) σ H s):Inv X pins σ H s:=I.fZ fun p hp=>I.pin p (Qp _ (Qz _ hp))
def EJ{iter:Expr}{wi:TI}{g:TG}{tb:TS}{pos:Pos}(hp:PassesOwn (model X.prog X.w) X.A X.env X.xe)(hc:X.calm=true)(hi:PI X tg iter wi)(hg:PG X tg g)(hb:gm X body tb)
  (hs:∀ x,foldedSetIterable iter X.env x=pure x:=by intro _;rfl):PS X (.For tg iter body [] pos) (ML wi g tb):=by
 intro pins s σ H D I h
 refine wpAny_For (aV (hi pins s σ H _ I h) fun v s1 h1=>aV h1 fun yg s2 h2=>?_) hs
 obtain⟨it,fp,tn,J,H2,e,I2,T,pO,f2,W,⟨m0,w0⟩,lM⟩:=h2
 subst e
 have jL:∀ {H':Hp},(∀ b∈fp,H' b=none)->∀ b∈fp,mf X pins H' b:=fun hn b hb=>⟨hn b hb,(f2 b hb).2⟩
 refine codeAny_forLoop_any (fun n s'=>∃ i aM H',Inv X pins aM H' s'/\tn i s'.heap/\(∀ b∈fp,H' b=none)/\W i n aM H') ?_ m0 ⟨0,σ,H2,I2,pO,fun b hb=>(f2 b hb).1,w0⟩
 rintro n s3 ⟨i,me,H3,I3,u9,EK,w3⟩
 rcases lM i n me H3 w3 with⟨stop,qn⟩|⟨go,N,hN,step⟩
 ·refine Jf hp (aV (T.done X rfl rfl rfl hc i pins s3 me H3 X.xe I3 (jL EK) u9 stop) fun r s4 ⟨hr,I4⟩=>?_)
  subst hr
  exact J4 ⟨me,H3,I4,qn⟩
 ·refine Jf hp (aV (T.item X rfl rfl rfl hc i pins s3 me H3 X.xe I3 (jL EK) u9 go) fun r s4 ⟨u,hr,h4⟩=>?_)
  subst hr
  refine Jf hp (aV h4 fun _ s5 ah=>?_)
  obtain⟨x,H5,I5,r5,y5,rq,AH⟩:=ah
  have AI:=I5.pinned (jL AH) (T.obj _ _ rq)
  refine Jf hp (aV (hg _ s5 me H5 x u _ AI r5 (step x H5 y5)) fun _ s6 ah=>?_)
  obtain⟨EL,H6,I6,q6⟩:=ah
  refine Jf hp (aV (hb _ s6 EL H6 _ I6 q6) fun f s7 q7=>?_)
  have again:∀ {mh:St} {H7:Hp},Inv X (pins++pN fp s5.heap) mh H7 s7->N mh H7->∃ m,m<n/\∃ i aM H',Inv X pins aM H' s7/\tn i s7.heap/\(∀ b∈fp,H' b=none)/\W i m aM H':=fun {mh H7} I7 n7=>by
   obtain⟨m',hm,w7⟩:=hN mh H7 n7
   refine⟨m',hm,i+1,mh,H7,I7.eG,T.keep _ _ _ rq fun b hb o e=>(I7.pin (b,o) (Qp _ (Qp _ (yi hb e)))).1,fun b hb=>?_,w7⟩
   obtain⟨o,e,d⟩:=T.obj _ _ rq b hb
   exact(I7.pin (b,o) (Qp _ (Qp _ (yi hb e)))).2.1
  cases f with
  | next=>obtain⟨mh,H7,I7,n7⟩:=q7;exact again I7 n7
  | cont=>obtain⟨mh,H7,I7,n7⟩:=q7;exact again I7 n7
  | brk=>obtain⟨mh,H7,I7,q7⟩:=q7;exact⟨mh,H7,I7.eG,q7⟩
  | ret v=>obtain⟨x7,mh,H7,I7,r7,q7⟩:=q7;exact⟨x7,mh,H7,I7.eG,r7,q7⟩
end
abbrev R2:=V->V->Hp->VK->Prop
def dC (X:Cx)(f:Value->Value->Sem Value)(r:R2):Prop:=
 ∀ (pins:List (Addr×Obj)) (s:Shared) (σ:St) (H:Hp) (x y:V) (v u:Value) (Q:VK),Inv X pins σ H s->bC x v->bC y u->r x y H Q->
  wpAny (model X.prog X.w) X.A (f v u) (EP X pins σ Q) X.xe s
def jM (X:Cx)(f:Value)(r:List V->Hp->VK->Prop):Prop:=
 ∀ (pins:List (Addr×Obj)) (s:Shared) (σ:St) (H:Hp) (xs:List V) (us:List Value) (Q:VK),Inv X pins σ H s->bq xs us->r xs H Q->
  wpAny (model X.prog X.w) X.A (call f us) (EP X pins σ Q) X.xe s
def MM (X:Cx)(r:V->Hp->(Bool->Hp->Prop)->Prop):Prop:=
 ∀ (pins:List (Addr×Obj)) (s:Shared) (σ:St) (H:Hp) (x:V) (v:Value) (Q:Bool->Hp->Prop),Inv X pins σ H s->bC x v->r x H Q->
  wpAny (model X.prog X.w) X.A (truthy v) (TP X pins σ Q) X.xe s
def iO (r:R2)(ta tb:TE):TE:=fun σ H Q=>ta σ H fun x H1=>tb σ H1 fun y H2=>r x y H2 Q
def rI (C:Int->Int->Prop)(g:Int->Int->V):R2:=fun x y H Q=>∃ i j,x=.int i/\y=.int j/\C i j/\Q (g i j) H
def kc (g:Int->Int->V):R2:=fun x y H Q=>∃ i j,x=.int i/\y=.int j/\Q (g i j) H
section
variable {X:Cx}{a b c:Expr}{ta tb tc:TE}{pos:Pos}
def AJ(ha:PE X a ta)(hb:PE X b tb){σ:St}{H:Hp}{R:V->V->Hp->Prop}(I:Inv X pins σ H s)
  (h:ta σ H fun x H1=>tb σ H1 fun y H2=>R x y H2) {Q:Value->Shared->Prop} 
  (hf:∀ v u s2 x y H2,Inv X pins σ H2 s2->bC x v->bC y u->R x y H2->wpAny (model X.prog X.w) X.A (f v u) Q X.xe s2) :
  wpAny (model X.prog X.w) X.A (eval a X.env) (fun v aT=>wpAny (model X.prog X.w) X.A (eval b X.env) (fun u fj=>wpAny (model X.prog X.w) X.A (f v u) Q X.xe fj) X.xe aT) X.xe s:=by
 refine aV (ha pins s σ H _ I h) fun v s1 ah=>?_
 obtain⟨x,H1,I1,r1,q1⟩:=ah
 refine aV (hb pins s1 σ H1 _ I1 q1) fun u s2 ah=>?_
 obtain⟨y,H2,I2,r2,q2⟩:=ah
 exact hf v u s2 x y H2 I2 r1 r2 q2
def pP{op:Operator}{r:R2}(ho:dC X (binaryOp op) r)(ha:PE X a ta)(hb:PE X b tb):PE X (.BinOp a op b pos) (iO r ta tb):=by
 intro pins s σ H Q I h
 exact wpAny_BinOp (AJ ha hb I h fun v u s2 x y H2 I2 rx ry q=>ho pins s2 σ H2 x y v u Q I2 rx ry q)
def AK{f:Value->Value->Sem Value}{C:Int->Int->Prop}
  (rule:∀ (i j:Int) (t u:Tok) (s:Shared) (Q:Value->Shared->Prop) (E:Value->Shared->Prop),C i j->Q (.int (g i j) s.toks) { s with toks:=s.toks+1 }->wpAny (model X.prog X.w) X.A (f (.int i t) (.int j u)) Q E s) :
  dC X f (rI C fun i j=>.int (g i j)):=by
 intro pins s σ H x y v u Q I rx ry h
 obtain⟨i,j,rfl,rfl,hc,q⟩:=h
 obtain⟨t,rfl⟩:=rx
 obtain⟨t',rfl⟩:=ry
 exact rule i j t t' s _ _ hc ⟨.int (g i j),H,I.tok _,⟨_,rfl⟩,q⟩
def EM{f:Value->Value->Sem Value}
  (rule:∀ (i j:Int) (t u:Tok) (s:Shared) (Q:Value->Shared->Prop) (E:Value->Shared->Prop),Q (.int (g i j) s.toks) { s with toks:=s.toks+1 }->wpAny (model X.prog X.w) X.A (f (.int i t) (.int j u)) Q E s) :
  dC X f (kc fun i j=>.int (g i j)):=by
 intro pins s σ H x y v u Q I rx ry h
 obtain⟨i,j,rfl,rfl,q⟩:=h
 obtain⟨t,rfl⟩:=rx
 obtain⟨t',rfl⟩:=ry
 exact rule i j t t' s _ _ ⟨.int (g i j),H,I.tok _,⟨_,rfl⟩,q⟩
def AL{g:Int->Int->Bool}
  (rule:∀ (i j:Int) (t u:Tok) (s:Shared) (Q:Value->Shared->Prop) (E:Value->Shared->Prop),Q (.bool (g i j)) s->wpAny (model X.prog X.w) X.A (f (.int i t) (.int j u)) Q E s) :
  dC X f (kc fun i j=>.bl (g i j)):=by
 intro pins s σ H x y v u Q I rx ry h
 obtain⟨i,j,rfl,rfl,q⟩:=h
 obtain⟨t,rfl⟩:=rx
 obtain⟨t',rfl⟩:=ry
 exact rule i j t t' s _ _ ⟨.bl (g i j),H,I,rfl,q⟩
def MN (i j:Int):Prop:=0<j/\j<1073741824
def AM (i j:Int):Prop:=(-(2 ^ 64)<i/\i<2 ^ 64)\/(-(2 ^ 64)<j/\j<2 ^ 64)
def AM.ok{i j:Int}(h:AM i j):IntMulOk i j:=by
 rcases h with⟨h1,h2⟩|⟨h1,h2⟩
 ·exact .of_left (intBits_le_64 h1 h2)
 ·exact .of_right (intBits_le_64 h1 h2)
def MO:dC X (binaryOp .Add) (kc fun i j=>.int (i+j)):=EM fun _ _ _ _ _ _ _ q=>add_int q
def MP:dC X (binaryOp .Sub) (kc fun i j=>.int (i-j)):=EM fun _ _ _ _ _ _ _ q=>sub_int q
def MQ:dC X (binaryOp .Mult) (rI AM fun i j=>.int (i*j)):=AK fun _ _ _ _ _ _ _ hc q=>mul_int q hc.ok
def MR:dC X (binaryOp .FloorDiv) (rI MN fun i j=>.int (i / j)):=AK fun i j _ _ _ _ _ hc q=>by
 have h1:(0:Int)<j:=hc.1
 have h2:j<1073741824:=hc.2
 exact floordiv_int (by omega) (by rw[Int.fdiv_eq_ediv_of_nonneg i (by omega)];exact q) (.inl (PyProof.noPylong_small (by omega)))
def MS:dC X (binaryOp .Mod) (rI (fun _ j=>0<j) fun i j=>.int (i % j)):=AK fun i j _ _ _ _ _ hc q=>by
 have h1:(0:Int)<j:=hc
 exact mod_int' (by omega) (by rw[Int.fmod_eq_emod_of_nonneg i (by omega)];exact q)
def EN{σ:St}{H:Hp}{Q:VK}{k k':Bool}(I:Inv X pins σ H s)(q:Q (.bl k) H)(e:k=k'):EP X pins σ Q (.bool k') s:=by
 subst e
 exact⟨.bl k,H,I,rfl,q⟩
def AN:dC X (compareOp .Lt) (kc fun i j=>.bl (decide (i<j))):=AL fun _ _ _ _ _ _ _ q=>lt_int q
def EO:dC X (compareOp .LtE) (kc fun i j=>.bl (decide (i<=j))):=AL fun _ _ _ _ _ _ _ q=>le_int q
def MT:dC X (compareOp .Gt) (kc fun i j=>.bl (decide (j<i))):=AL fun _ _ _ _ _ _ _ q=>gt_int q
def AO:dC X (compareOp .Is) (fun x y H Q=>y=.aK/\Q (.bl (decide (x=.aK))) H):=by
 intro pins s σ H x y v u Q I rx ry h
 obtain⟨rfl,q⟩:=h
 cases ry
 refine is_none_gen (EN I q ?_)
 cases x<;>first
  | (cases rx;rfl)
  | (obtain⟨t,rfl⟩:=rx;rfl)
def MU:dC X (compareOp .IsNot) (fun x y H Q=>y=.aK/\Q (.bl (!decide (x=.aK))) H):=by
 intro pins s σ H x y v u Q I rx ry h
 obtain⟨rfl,q⟩:=h
 cases ry
 refine isnot_none_gen (EN I q ?_)
 cases x<;>first
  | (cases rx;rfl)
  | (obtain⟨t,rfl⟩:=rx;rfl)
def pQ(b:Expr)(h:op ≠ .In:=by decide)(h2:op ≠ .NotIn:=by decide):behindInMarks op b=false:=by
 have e1:(op==CmpOp.In)=false:=by cases op<;>first|rfl|exact absurd rfl h
 have e2:(op==CmpOp.NotIn)=false:=by cases op<;>first|rfl|exact absurd rfl h2
 cases b<;>simp[behindInMarks,e1,e2]
def MV{r:R2}(ho:dC X (compareOp op) r)(ha:PE X a ta)(hb:PE X b tb)(hm:behindInMarks op b=false):PE X (.Compare a [op] [b] pos) (iO r ta tb):=by
 intro pins s σ H Q I h
 exact wpAny_Compare1 (AJ ha hb I h fun v u s2 x y H2 I2 rx ry q=>ho pins s2 σ H2 x y v u Q I2 rx ry q) hm
def AQ (t:TE):TT:=fun σ H Q=>t σ H fun x H'=>∃ k,x=.bl k/\Q k H'
def ER{r:R2}(ho:dC X (compareOp op) r)(ha:PE X a ta)(hb:PE X b tb)(hm:behindInMarks op b=false):PT X (.Compare a [op] [b] pos) (AQ (iO r ta tb)):=by
 intro pins s σ H Q I h
 refine wpAny_isTrue_Compare1 (aV (ha pins s σ H _ I h) fun v s1 ⟨x,H1,I1,r1,q1⟩=>aV (hb pins s1 σ H1 _ I1 q1) fun u s2 ⟨y,H2,I2,r2,q2⟩=>
  aV (ho pins s2 σ H2 x y v u _ I2 r1 r2 q2) fun c s3 ⟨z,H3,I3,r3,k,e,q3⟩=>?_) hm
 subst e
 cases r3
 exact ZH ⟨H3,I3,q3⟩
def ES (r r':R2)(ta tb tc:TE):TE:=fun σ H Q=>ta σ H fun x H1=>tb σ H1 fun y H2=>r x y H2 fun z H3=>∃ k,z=.bl k /\
 (if k=true then tc σ H3 fun w' H4=>r' y w' H4 Q else Q (.bl false) H3)
def MW{r r':R2}(ho:dC X (compareOp op) r)(fJ:dC X (compareOp kP) r')(ha:PE X a ta)(hb:PE X b tb)(hc:PE X c tc)
  (hm:lastMarks [op,kP] [b,c]=false:=by with_unfolding_all rfl):PE X (.Compare a [op,kP] [b,c] pos) (ES r r' ta tb tc):=by
 intro pins s σ H Q I h
 refine Compare_chain (aV (ha pins s σ H _ I h) fun v s1 ⟨x,H1,I1,r1,q1⟩=>chain_link (aV (hb pins s1 σ H1 _ I1 q1) fun u s2 ⟨y,H2,I2,r2,q2⟩=>
  aV (ho pins s2 σ H2 x y v u _ I2 r1 r2 q2) fun d s3 ⟨z,H3,I3,r3,k,e,q3⟩=>?_)) hm
 subst e
 cases r3
 refine ZH ?_
 cases k with
 | false=>exact ite_ff ⟨.bl false,H3,I3,rfl,q3⟩
 | true=>exact ite_tt (chain_last (aV (hc pins s3 σ H3 _ I3 q3) fun w' s4 ⟨z',H4,I4,r4,q4⟩=>fJ pins s4 σ H4 y z' u w' Q I4 r2 r4 q4))
def MX{r r':R2}(ho:dC X (compareOp op) r)(fJ:dC X (compareOp kP) r')(ha:PE X a ta)(hb:PE X b tb)(hc:PE X c tc)
  (hm:lastMarks [op,kP] [b,c]=false:=by with_unfolding_all rfl):PT X (.Compare a [op,kP] [b,c] pos) (AQ (ES r r' ta tb tc)):=by
 intro pins s σ H Q I h
 refine isTrue_chain (aV (ha pins s σ H _ I h) fun v s1 ⟨x,H1,I1,r1,q1⟩=>test_link (aV (hb pins s1 σ H1 _ I1 q1) fun u s2 ⟨y,H2,I2,r2,q2⟩=>
  aV (ho pins s2 σ H2 x y v u _ I2 r1 r2 q2) fun d s3 ⟨z,H3,I3,r3,k,e,q3⟩=>?_)) hm
 subst e
 cases r3
 refine ZH ?_
 cases k with
 | false=>
  obtain⟨k',e',q'⟩:=q3
  cases e'
  exact ite_ff ⟨H3,I3,q'⟩
 | true=>
  refine ite_tt (test_last (aV (hc pins s3 σ H3 _ I3 q3) fun w' s4 ⟨z',H4,I4,r4,q4⟩=>aV (fJ pins s4 σ H4 y z' u w' _ I4 r2 r4 q4) fun d' s5 ah=>?_))
  obtain⟨z2,H5,I5,r5,k2,e2,q5⟩:=ah
  subst e2
  cases r5
  exact ZH ⟨H5,I5,q5⟩
def ET (K:PySem.W.Frag)(x:V)(H:Hp)(k:Bool):Prop:=
 match x with
 | .aK=>k=false
 | .bl b=>k=b
 | .int i=>k=(i != 0)
 | .str y=>y.length<=sizeLine/\k=((y.length:Int) != 0)
 | .uW y=>y.size<=sizeLine/\k=((y.size:Int) != 0)
 | .ref p=>(∃ xs,cE K H p xs/\k = !xs.isEmpty)\/(∃ xs,du K H p xs/\k = !xs.isEmpty)\/∃ ai,H p=some (.dK ai)/\k = !ai.isEmpty
 | _=>False
def MY{κ:Type}{ai:List (κ×V)}{vs:List (κ×Value)}(r:KV ai vs):(!vs.isEmpty) = !ai.isEmpty:=by
 cases r<;>rfl
def EU{xs:List V}{aq:List Value}(r:bq xs aq):(!aq.toArray.isEmpty) = !xs.isEmpty:=by
 cases r<;>simp
def tT:(sizeLine:Nat)<2 ^ 63:=by rw[ZP];decide
def MZ:MM X (fun x H Q=>∃ k,ET X.K x H k/\Q k H):=by
 intro pins s σ H x v Q I rx h
 obtain⟨k,e,q⟩:=h
 have hl:=tT
 have hs:sizeLine=16777216:=ZP
 cases x with
 | aK=>
  cases rx
  have e':k=false:=e
  subst e'
  exact truthy_none ⟨H,I,q⟩
 | bl b=>
  cases rx
  have e':k=b:=e
  subst e'
  exact ZH ⟨H,I,q⟩
 | int i=>
  obtain⟨t,rfl⟩:=rx
  have e':k=(i != 0):=e
  subst e'
  exact PySem.P.truthy_int ⟨H,I,q⟩
 | str y=>
  obtain⟨t,rfl⟩:=rx
  obtain⟨hy,e'⟩:y.length<=sizeLine/\k=((y.length:Int) != 0):=e
  subst e'
  exact PySem.P.truthy_str (by omega) ⟨H,I.tok _,q⟩
 | uW y=>
  obtain⟨t,rfl⟩:=rx
  obtain⟨hy,e'⟩:y.size<=sizeLine/\k=((y.size:Int) != 0):=e
  subst e'
  exact PySem.W.truthy_bytes (by omega) ⟨H,I.tok _,q⟩
 | ref p=>
  cases rx
  have e':(∃ xs,cE X.K H p xs/\k = !xs.isEmpty)\/(∃ xs,du X.K H p xs/\k = !xs.isEmpty)\/∃ ai,H p=some (.dK ai)/\k = !ai.isEmpty:=e
  rcases e' with⟨xs,hx,e'⟩|⟨xs,hx,e'⟩|⟨ai,hx,e'⟩
  ·subst e'
   obtain⟨aq,r,pl,hz⟩:=I.list hx
   have hlen:=r.length
   exact wpAny_truthy_list pl.isList (by simp only[Qn];omega) ⟨H,I.tok _,by rw[EU r];exact q⟩
  ·subst e'
   obtain⟨aq,r,pl,hz⟩:=I.tuple hx
   have hlen:=r.length
   exact truthy_tuple pl (by simp only[Qn];omega) ⟨H,I.tok _,by rw[EU r];exact q⟩
  ·subst e'
   obtain⟨hz,hS,vs,r,m⟩:ai.length<=sizeLine/\(p==sysModules)=false/\∃ vs,KV ai vs/\s.heap.DictOf (gM X.prog X.w) p vs:=I.az p _ hx
   have hlen:ai.length=vs.length:=Jm r
   exact wpAny_truthy_dict hS m (by omega) ⟨H,I.tok _,by rw[MY r];exact q⟩
 | _=>exact(show False from e).elim
def M0(ha:PE X a ta)(he:∀ whole,isTrue a X.env whole=(do let v <- whole;standAt a.pos;holding [v] (truthy v))) :
  PT X a (fun σ H Q=>ta σ H fun x H'=>∃ k,ET X.K x H' k/\Q k H'):=by
 intro pins s σ H Q I h
 exact isTrue_plain (aV (ha pins s σ H _ I h) fun v s1 ⟨x,H1,I1,r1,q1⟩=>MZ pins s1 σ H1 x v Q I1 r1 q1) (he _)
def lN{x:V}(r:bq [x] us):∃ u,us=[u]/\bC x u:=by
 cases r with
 | cons r1 r2=>cases r2;exact⟨_,rfl,r1⟩
def yj{x y:V}(r:bq [x,y] us):∃ u w',us=[u,w']/\bC x u/\bC y w':=by
 cases r with
 | cons r1 r2=>
  cases r2 with
  | cons r3 r4=>cases r4;exact⟨_,_,rfl,r1,r3⟩
def M3(hc:X.calm=true):jM X (.builtin "max") (fun xs H Q=>∃ i j,xs=[.int i,.int j]/\Q (.int (if j > i then j else i)) H):=by
 intro pins s σ H xs us Q I r h
 obtain⟨i,j,rfl,q⟩:=h
 obtain⟨u,w',rfl,⟨t,rfl⟩,⟨t',rfl⟩⟩:=yj r
 refine max_two_ints (I.ok.hd hc) fun h' tk k=>⟨_,H,I.kept k,?_,q⟩
 by_cases hj:j > i
 ·rw[Qf hj,Qf hj];exact⟨_,rfl⟩
 ·rw[Qi hj,Qi hj];exact⟨_,rfl⟩
end
structure rA (h:Heap) (x dx C:Addr) (mA:Str->Option Value):Prop where
 obj:h.get? x=some (PySem.W.instObj C dx)
 ns:h.Ns1 dx mA
 ne:dx≠x
def M4(n:h.Ns1 dx mA):∃ od,h.get? dx=some od/\∀ name,PySem.W.lookIn name od=some (mA name):=by
 obtain⟨o,es,ep,ho,hd,hk,_,hm⟩:=n
 refine⟨o,ho,fun name=>?_⟩
 have e:=hm name
 unfold nsFind findBy at e
 rw[<- Array.find?_toList]at e
 unfold PySem.W.lookIn
 rw[hd]
 dsimp only
 split
 next y q=>
  rw[q]at e
  exact Jb some e
 next q=>
  rw[q]at e
  have a:es.toList.any (·.refKey)=false:=by
   rw[List.any_eq_false]
   intro y hy
   obtain⟨z,t,AR⟩:=hk y (YB.mp hy)
   simp[DictEntry.refKey,AR]
  have a':¬ es.toList.any (·.refKey)=true:=by rw[a];exact Zd
  rw[Qi a']
  exact Jb some e
def rA.look{x:Addr}(I:rA h x dx C mA):∃ od,PySem.W.InstAt h x (PySem.W.instObj C dx) C (some od)/\∀ name,PySem.W.lookIn name od=some (mA name):=
 let ⟨od,ho,hl⟩:=M4 I.ns
 ⟨od,⟨I.obj,rfl,rfl,ho⟩,hl⟩
def kQ.some_of{v:V}{o:Option Value}(r:kQ (some v) o):∃ u,o=some u/\bC v u:=by
 cases o with
 | none=>exact(show False from r).elim
 | some u=>exact⟨u,rfl,r⟩
section
variable {P:Program}{w:World}{H H':Hp}{h h':Heap}{a C dx:Addr}{fs LJ:List (Str×V)}
def tU(az:cV P w H h)(e:H a=some (.ins C dx fs)):∃ mA,rA h a dx C mA/\(∀ f,kQ (fs.lookup f) (mA f))/\PySem.Within mA (fs.map (·.1))/\fs.length<=1000/\H dx=some (.own a):=by
 obtain⟨d,z,ne,ob,mA,n,r,q⟩:=(show cU P w H h a (.ins C dx fs)from az a _ e)
 exact⟨mA,⟨ob,n,ne⟩,r,q,z,d⟩
end
structure yk (K:PySem.W.Frag) (C:Addr):Prop where
 pg:PySem.W.plainGet K C Str.empty=true
 hd:PySem.W.hasDictIn K C=true
 po:PySem.W.plainOver K C=true
 sa:PySem.W.findIn K (.ref C) "__setattr__" = some (some (.builtin "object.__setattr__"))
def yk.get(c:yk K C)(f:Str):PySem.W.plainGet K C f=true:=c.pg
section
variable {X:Cx}{pins:List (Addr×Obj)}{σ:St}{H:Hp}{s:Shared}{A:Around}{E:Value->Shared->Prop}{Q:Value->Shared->Prop}{c:Value}{b:Bool}
inductive fT (K:PySem.W.Frag) (H:Hp):V->Value->Prop where
 | aK:fT K H .aK (.type "NoneType")
 | bl (x:Bool):fT K H (.bl x) (.type "bool")
 | int (i:Int):fT K H (.int i) (.type "int")
 | str (x:Str):fT K H (.str x) (.type "str")
 | tM (x:UInt64):fT K H (.tM x) (.type "float")
 | lst {a:Addr} {xs:List V} (e:H a=some (.lst xs)):fT K H (.ref a) (.type "list")
 | eE {a:Addr} {o:Obj} {xs:List V} (e:H a=some (.eE o (.lst xs))):fT K H (.ref a) (.type "list")
 | tup {a:Addr} {xs:List V} (e:H a=some (.tup xs)):fT K H (.ref a) (.type "tuple")
 | dK {a:Addr} {ai:List (Key×V)} (e:H a=some (.dK ai)):fT K H (.ref a) (.type "dict")
 | dT {a:Addr} {ai:List (List Key×V)} (e:H a=some (.dT ai)):fT K H (.ref a) (.type "dict")
 | ins {a C dx:Addr} {fs:List (Str×V)} (e:H a=some (.ins C dx fs)) (cl:yk K C) (ha:PySem.W.findIn K (.ref C) "__class__" = some (some (.builtin "object.__class__")))
   (hn:PySem.W.specialIn K (.builtin "object.__class__") "__get__" = some (some (.builtin "getset_descriptor.__get__"))) (u_:PySem.W.takesIn K (.builtin "object.__class__")=some true)
   (hm:PySem.W.mroIn K C (.type "object")=some true):fT K H (.ref a) (.ref C)
def jN{x:V}{t:Value}(I:Inv X pins σ H s)(rx:bC x u)(ty:fT X.K H x t)(e:PySem.W.kitOne X.K t c=some b)(h:∀ tk,Q (.bool b) { s with toks:=tk }) :
  wpAny (model X.prog X.w) A (call (.builtin "isinstance") [u,c]) Q E s:=by
 cases ty with
 | aK=>cases (show u=Value.none from rx);exact Zl PySem.W.kitx_none I.fi True.intro e (fun z=>nomatch z) h
 | bl y=>cases (show u=Value.bool y from rx);exact Zl PySem.W.kitx_bool I.fi True.intro e (fun z=>nomatch z) h
 | int i=>obtain⟨t,q⟩:=(show ∃ t,u=Value.int i t from rx);cases q;exact Zl PySem.W.kitx_int I.fi True.intro e (fun z=>nomatch z) h
 | str y=>obtain⟨t,q⟩:=(show ∃ t,u=Value.str y t from rx);cases q;exact Zl PySem.W.kitx_str I.fi True.intro e (fun z=>nomatch z) h
 | tM y=>obtain⟨t,q⟩:=(show ∃ t,u=Value.float y t from rx);cases q;exact Zl PySem.W.kitx_float I.fi True.intro e (fun z=>nomatch z) h
 | @lst a xs ea=>
  cases (show u=Value.ref a from rx)
  obtain⟨_,_,n,_,h1⟩:=(show cU X.prog X.w H s.heap a (.lst xs)from I.az a _ ea)
  exact Zl Vg I.fi ⟨_,h1,rfl⟩ e (fun z=>nomatch z) h
 | @eE a ob xs ea=>
  cases (show u=Value.ref a from rx)
  obtain⟨_,_,_,n,_,h1⟩:=(show cU X.prog X.w H s.heap a (.eE ob (.lst xs))from I.az a _ ea)
  exact Zl Vg I.fi ⟨_,h1,rfl⟩ e (fun z=>nomatch z) h
 | @tup a xs ea=>
  cases (show u=Value.ref a from rx)
  obtain⟨_,_,_,p⟩:=(show cU X.prog X.w H s.heap a (.tup xs)from I.az a _ ea)
  obtain⟨o,h1,h2,_⟩:=p
  exact Zl PySem.W.kitx_tuple I.fi ⟨o,h1,h2⟩ e (fun z=>nomatch z) h
 | @dK a ai ea=>
  cases (show u=Value.ref a from rx)
  obtain⟨_,_,vs,_,p⟩:=(show cU X.prog X.w H s.heap a (.dK ai)from I.az a _ ea)
  obtain⟨o,es,ep,h1,h2,_⟩:=p
  exact Zl PySem.W.kitx_dict I.fi ⟨o,h1,h2.1⟩ e (fun z=>nomatch z) h
 | @dT a ai ea=>
  cases (show u=Value.ref a from rx)
  obtain⟨_,_,xs,_,o,es,ep,h1,h2,_⟩:=(show cU X.prog X.w H s.heap a (.dT ai)from I.az a _ ea)
  exact Zl PySem.W.kitx_dict I.fi ⟨o,h1,h2.1⟩ e (fun z=>nomatch z) h
 | @ins a C dx fs ea cl ha hn u_ hm=>
  cases (show u=Value.ref a from rx)
  obtain⟨mA,O,_⟩:=tU I.az ea
  obtain⟨od,J,_⟩:=O.look
  exact Zl (PySem.W.kitx_own (cl.get _) cl.hd ha hn u_ hm) I.fi J e (fun z=>nomatch z) h
end
structure aS (k:Nat) (A:Around):Prop where
 hd:A.handled=none
 dp:A.depth+3*k+5<recursionLimit
 un:A.units+16*k+200<cLine
def aS.mono{k:Nat}(r:aS k A)(h:j<=k):aS j A:=⟨r.hd,by have:=r.dp;omega,by have:=r.un;omega⟩
def aS.deeper{k:Nat}(r:aS (k+1) A)(env:Env):aS k (A.deeper env):=
 ⟨r.hd,by have:=r.dp;show A.depth+1+3*k+5<_;omega,by have:=r.un;show A.units+3+16*k+200<_;omega⟩
def aS.depth{k:Nat}(r:aS k A):A.depth<recursionLimit:=by have:=r.dp;omega
def aS.units{k:Nat}(r:aS k A):A.units+64<cLine:=by have:=r.un;omega
def EV:TA:=fun _ H Q=>Q [] H
def EW (ta:TE)(tr:TA):TA:=fun σ H Q=>ta σ H fun x H1=>tr σ H1 fun xs H2=>Q (x::xs) H2
section
variable {X:Cx}{e:Expr}{es:List Expr}{te:TE}{t:TA}{pos:Pos}
def jO:PA X [] EV:=fun _ _ _ _ H Q I h=>Jh ⟨[],H,I,.nil,h⟩
def gp(ha:PE X e te)(hr:PA X es t)(hs:starEach (e::es) X.env=(false,eval e X.env)::starEach es X.env:=by rfl):PA X (e::es) (EW te t):=by
 intro pos pins s σ H Q I h
 rw[hs]
 show wpAny _ _ (spliced ((false,eval e X.env)::backTo pos (starEach es X.env))) _ _ s
 refine ZC (aV (ha pins s σ H _ I h) fun u s1 ah=>?_)
 obtain⟨x,H1,I1,r1,q1⟩:=ah
 exact aV (hr pos pins s1 σ H1 _ I1 q1) fun us s2 ⟨xs,H2,I2,r2,q2⟩=>⟨x::xs,H2,I2,.cons r1 r2,q2⟩
def M5 (t:TA):TE:=fun σ H Q=>t σ H fun xs H1=>xs.length<=sizeLine/\∀ p,H1 p=none->Q (.ref p) (upd H1 p (.tup xs))
def M6 (t:TA):TE:=fun σ H Q=>t σ H fun xs H1=>xs.length<=sizeLine/\∀ p,H1 p=none->Q (.ref p) (upd H1 p (.lst xs))
def M7{x1}(h:PA X es t):PE X (.Tuple es x1 pos) (M5 t):=by
 intro pins s σ H Q I hq
 refine wpAny_Tuple_spliced (aV (h pos pins s σ H _ I hq) fun us s1 ⟨xs,H1,I1,r,z,q⟩=>⟨by rw[<- r.length];exact z,?_⟩)
 have hf:H1 s1.heap.objs.size=none:=I1.az.fresh (Qh _)
 refine⟨.ref s1.heap.objs.size,upd H1 s1.heap.objs.size (.tup xs),I1.laid (t':=s1.toks) (fun b u e=>Qe _ e) (Qh _) ?_,rfl,q _ hf⟩
 exact⟨z,us,r,⟨_,Qv _ rfl,rfl,⟨_,rfl⟩,rfl⟩⟩
def M8(h:PA X es t):PE X (.List es pos) (M6 t):=by
 intro pins s σ H Q I hq
 refine wpAny_List_spliced (aV (h pos pins s σ H _ I hq) fun us s1 ⟨xs,H1,I1,r,z,q⟩=>⟨by rw[<- r.length];exact z,?_⟩)
 have hf:H1 s1.heap.objs.size=none:=I1.az.fresh (Qh _)
 refine⟨.ref s1.heap.objs.size,upd H1 s1.heap.objs.size (.lst xs),I1.laid (t':=s1.toks) (fun b u e=>Qe _ e) (Qh _) ?_,rfl,q _ hf⟩
 exact⟨z,us,0,r,Qv _ rfl⟩
end
abbrev Sp:=List V->Hp->VK->XK->Prop
abbrev mi:=List Env->Hp->Shared->XK->Value->Shared->Prop
structure ou (P:Program) (w:World) (K:PySem.W.Frag) (mg:Str->Option Value) (base:Heap) (A:Around) (outer:List Env) (s:Shared) (H:Hp):Prop where
 frames:A.frames=some outer
 mod:Mod K mg base
 bs:∀ b o,base.get? b=some o->s.heap.get? b=some o/\H b=none
 l9:base.objs.size<=s.heap.objs.size
 fh:s.heap.FunFrames base outer
 rl:∀ b∈dP outer,H b=none
 az:cV P w H s.heap
 bare:AllBare s.gens
def CE (outer:List Env)(P:Program)(w:World)(H:Hp)(s:Shared)(Q:VK)(u:Value)(s':Shared):Prop:=
 ∃ v H',s'.os=s.os/\AllBare s'.gens/\Un (dP outer) [] H H' s.heap s'.heap/\cV P w H' s'.heap/\bC v u/\Q v H'
def CR (CX:mi)(outer:List Env)(P:Program)(w:World)(H:Hp)(s:Shared)(Q:VK)(E:XK)(r:Result)(s':Shared):Prop:=
 match r with
 | .ok (.ret u)=>CE outer P w H s Q u s'
 | .ok _=>False
 | .error e=>CX outer H s E e s'
structure dS (P:Program) (w:World) (K:PySem.W.Frag) (mg:Str->Option Value) (base:Heap) (CX:mi) (k:Nat) (f:Addr) (fd:FuncData) (ps:List Str) (sp:Sp):Prop where
 len:∀ vs H Q E,sp vs H Q E->vs.length=ps.length
 run:∀ (A:Around) (outer:List Env) (s:Shared) (H:Hp) (args:Args) (us:List Value) (vs:List V) (Q:VK) (E:XK),aS k A->ou P w K mg base A outer s H->BindsTo s fd args (ps.zip us)->bq vs us->sp vs H Q E->
  codeAny (model P w) A (.call (.ref f) args) (CR CX outer P w H s Q E) s
section
variable {X:Cx}{pins:List (Addr×Obj)}{σ:St}{H:Hp}{s s':Shared}
def Inv.va(I:Inv X pins σ H s):ou X.prog X.w X.K X.mg X.base X.A X.stack s H:=
 ⟨I.ok.frames,I.ok.mod,I.bs,QO I.ok.l9 I.sz,I.stack,I.fY,I.az,I.bare⟩
def Inv.after{Q:VK}(I:Inv X pins σ H s)(h:CE X.stack X.prog X.w H s Q u s'):EP X pins σ Q u s':=by
 obtain⟨v,H',os,bare,un,az,r,q⟩:=h
 obtain⟨hh,g,d,t,AS⟩:=s'
 obtain rfl:AS=s.os:=os
 exact⟨v,H',I.call (h':=hh) (g':=g) (d':=d) (t':=t) (ch:=[]) un az bare (fun b z=>absurd z (by simp)),r,q⟩
end
def M9 (sp:Sp)(pR:List V)(E:XK)(t:TA):TE:=fun σ H Q=>t σ H fun vs H1=>sp (vs++pR) H1 Q E
def oy (K:PySem.W.Frag)(fd:FuncData)(ps:List Str)(ds:List Value):Prop:=
 ∀ (s:Shared) (us:List Value),K.In s.heap->(us++ds).length=ps.length->BindsTo s fd ⟨us,[]⟩ (ps.zip (us++ds))
def oy.all{fd:FuncData}(h:∀ us:List Value,us.length=ps.length->bindArgs fd ⟨us,[]⟩=pure (ps.zip us)):oy K fd ps []:=fun s us _ hl=>by
 rw[ZQ]at hl ⊢
 exact .of_eq (h us hl)
def yl (CX:mi)(X:Cx)(E:XK):Prop:=∀ (pins:List (Addr×Obj)) (σ:St) (H:Hp) (s:Shared) (e:Value) (s':Shared),Inv X pins σ H s->CX X.stack H s E e s'->X.xe e s'
section
variable {X:Cx}{CX:mi}{k:Nat}{f C:Addr}{fd:FuncData}{ps:List Str}{sp:Sp}{pR:List V}{ds:List Value}{E:XK}{x m:Str}{p pos apos:Pos}{e o:Expr}{es:List Expr}{ta:TE}{t:TA}
theorem M_{σ:St}{H:Hp}{Q:VK}{vs:List V}(F:dS X.prog X.w X.K X.mg X.base CX k f fd ps sp)(hr:aS k X.A)(hb:oy X.K fd ps ds)(hd:bq pR ds)(hx:yl CX X E)
  (I:Inv X pins σ H s) (r:bq vs us) (h:sp (vs++pR) H Q E):wpAny (model X.prog X.w) X.A (call (.ref f) us) (EP X pins σ Q) X.xe s:=by
 have r2:bq (vs++pR) (us++ds):=r.append hd
 have hl:(us++ds).length=ps.length:=by rw[<- r2.length];exact F.len _ _ _ _ h
 refine VE (JP (F.run X.A X.stack s H ⟨us,[]⟩ (us++ds) (vs++pR) Q E hr I.va (hb s us I.fi hl) r2 h) fun r s' hq=>?_)
 cases r with
 | error e=>exact hx pins σ H s e s' I hq
 | ok fl=>
  cases fl with
  | ret u=>exact I.after hq
  | next=>exact False.elim hq
  | brk=>exact False.elim hq
  | cont=>exact False.elim hq
def AU(F:dS X.prog X.w X.K X.mg X.base CX k f fd ps sp)(hr:aS k X.A)(hg:Gl X x)(hm:X.mg x=some (.ref f))(hk:PySem.W.keepIn X.K (.ref f)=true)(hb:oy X.K fd ps ds)(hd:bq pR ds)(hx:yl CX X E)
  (ha:PA X (e::es) t) (gU:(x==("__debug__":Str))=false:=by decide) (he:starEach (e::es) X.env=(false,eval e X.env)::starEach es X.env:=by rfl) (cu:(backTo pos (starEach es X.env)).any (·.1)=false:=by rfl) :
  PE X (.Call (.Name x p) (e::es) [] pos) (M9 sp pR E t):=by
 intro pins s σ H Q I h
 refine Yd (u7 I hg hm ?_ gU)
 refine PySem.W.callWith_K (h₀:=X.base) I.ok.mod.uZ hk (aV (ha pos pins s σ H _ I h) fun us s1 ⟨vs,H1,I1,r,q⟩=>⟨I1.fi,?_⟩) he cu
 exact M_ F hr hb hd hx I1 r q
structure Mk (K:PySem.W.Frag) (C f:Addr):Prop where
 makes:PySem.W.makesIn K C=true
 init:PySem.W.findIn K (.ref C) "__init__" = some (some (.ref f))
 fn:PySem.W.isFn K (.ref f)=true
 kp:PySem.W.keepIn K (.ref C)=true
end
structure aj (N P:List Str) (sc:Scope):Prop where
 kind:sc.kind=.function
 co:sc.isCoroutine=false
 gen:sc.isGenerator=false
 nd:N.Nodup
 pre:N.take P.length=P
 par:∀ x∈P,sc.names.lookup x=some .local\/sc.names.lookup x=some .cell
 rB:∀ y∈sc.names,y.2 ≠ .free
def dE{P:List Str}(h:N.Nodup/\(∀ x∈P,sc.names.lookup x=some .local\/sc.names.lookup x=some .cell)/\∀ y∈sc.names,y.2 ≠ .free)(a:sc.kind=.function:=by rfl)(b:sc.isCoroutine=false:=by rfl)(c:sc.isGenerator=false:=by rfl)(d:N.take P.length=P:=by rfl):aj N P sc:=⟨a,b,c,h.1,d,h.2.1,h.2.2⟩
theorem EX:∀ {binds:List (Str×Value)} {m:Str->Option Value},(∀ v,(x,v) ∉ binds)->bindL kindOf binds m x=m x
 | [],_,_=>rfl
 | (n,v)::r,m,h=>by
  unfold bindL
  rw[EX fun w hw=>h w (Qj _ hw)]
  split
  ·have:x≠n:=by rintro rfl;exact h v Ql
   simp[this]
  ·rfl
theorem EY:∀ {binds:List (Str×Value)} {m:Str->Option Value},(∀ v,(x,v) ∉ binds)->bindC kindOf binds m x=m x
 | [],_,_=>rfl
 | (n,v)::r,m,h=>by
  unfold bindC
  rw[EY fun w hw=>h w (Qj _ hw)]
  split
  ·rfl
  ·have:x≠n:=by rintro rfl;exact h v Ql
   simp[this]
theorem EZ:∀ {P:List Str} {vs:List Value} {i:Nat} {m:Str->Option Value},P.Nodup->P[i]? = some x->vs[i]? = some v->kindOf x=some .local->
  bindL kindOf (P.zip vs) m x=some v
 | [],_,_,_,_,h,_,_=>by simp at h
 | _::_,[],_,_,_,_,h,_=>by simp at h
 | p::P,w::vs,0,m,nd,h1,h2,hk=>by
  simp at h1 h2;subst h1;subst h2
  show bindL kindOf ((p,w)::P.zip vs) m p=_
  unfold bindL
  rw[EX fun v hv=>(Q4.mp nd).1 (YG hv).1,Qf hk]
  simp
 | p::P,w::vs,i+1,m,nd,h1,h2,hk=>by
  show bindL kindOf ((p,w)::P.zip vs) m x=_
  unfold bindL
  exact EZ (i:=i) (Q4.mp nd).2 (by simpa using h1) (by simpa using h2) hk
theorem E1:∀ {P:List Str} {vs:List Value} {i:Nat} {m:Str->Option Value},P.Nodup->P[i]? = some x->vs[i]? = some v->kindOf x≠some .local->
  bindC kindOf (P.zip vs) m x=some v
 | [],_,_,_,_,h,_,_=>by simp at h
 | _::_,[],_,_,_,_,h,_=>by simp at h
 | p::P,w::vs,0,m,nd,h1,h2,hk=>by
  simp at h1 h2;subst h1;subst h2
  show bindC kindOf ((p,w)::P.zip vs) m p=_
  unfold bindC
  rw[EY fun v hv=>(Q4.mp nd).1 (YG hv).1,Qi hk]
  simp
 | p::P,w::vs,i+1,m,nd,h1,h2,hk=>by
  show bindC kindOf ((p,w)::P.zip vs) m x=_
  unfold bindC
  exact E1 (i:=i) (Q4.mp nd).2 (by simpa using h1) (by simpa using h2) hk
def start (N:List Str)(vs:List V):St:=vs.map some++List.replicate (N.length-vs.length) none
def lO (CX:mi)(P:Program)(w:World)(K:PySem.W.Frag)(mg:Str->Option Value)(base:Heap)(N:List Str)(qual:Str)(scope:Scope)(f:Addr)(cd:Value)(A:Around)(outer:List Env)(s:Shared)(H:Hp)(E:XK):Cx where
 prog:=P
 w:=w
 K:=K
 mg:=mg
 base:=base
 A:=A.deeper (envOfC qual scope s.heap.objs.size f cd)
 N:=N
 aP:=s
 cy:=H
 env:=envOfC qual scope s.heap.objs.size f cd
 outer:=outer
 stack:=envOfC qual scope s.heap.objs.size f cd::outer
 ex:=[]
 calm:=true
 fn:=fun _=>true
 pn:=[]
 xe:=fun e s'=>wpAny (model P w) (A.deeper (envOfC qual scope s.heap.objs.size f cd)) (leaving (envOfC qual scope s.heap.objs.size f cd) e) (fun _ pS=>CX outer H s E e pS) (fun e' pS=>CX outer H s E e' pS) s'
def E2(h:sc.names.lookup x=some .cell):∃ c,(cellsFrom n sc.names []).lookup x=some c:=by
 have q:=Jv sc.names n [] (.inl h)
 exact Jn.mp q
def Na{CX:mi}{f:Addr}{cd:Value}{outer:List Env}{s1:Shared}{H:Hp}{E:XK}{vs:List V}
  (S:aj N ps scope) (hd:A.handled=none) (e0:ou P w K mg base A outer s H) (hl:vs.length=ps.length) (r:bq vs us)
  (x:InCallC s s.heap.objs.size (bindL (envOfC qual scope s.heap.objs.size f cd).kindOf (ps.zip us) fun _=>none) (cellsFrom (s.heap.objs.size+1) scope.names []) (bindC (envOfC qual scope s.heap.objs.size f cd).kindOf (ps.zip us) fun _=>none) s1) :
  Inv (lO CX P w K mg base N qual scope f cd A outer s H E) [] (start N vs) H s1:=by
 have cu:ps.length<=N.length:=by have:=Jb List.length S.pre;rw[Za]at this;omega
 obtain⟨h1,tk,rfl,hk⟩:=x.done
 have vb:∀ b:Addr,b ∉ (lO CX P w K mg base N qual scope f cd A outer s H E).ex:=fun b z=>absurd (show b∈([]:List Addr)from z) (by simp)
 refine⟨⟨e0.mod,S.kind,rfl,rfl,Qh _,fun y z c h1 h2=>?_,fun y hy=>?_,fun y c _ h=>?_,fun _=>hd,Around.frames_deeper e0.frames,.inr ⟨rfl,rfl⟩,fun b z=>absurd z (vb b),e0.bs,e0.l9,fun b _ _=>vb b,fun b z=>absurd z (vb b),e0.fh,e0.rl⟩,
  rfl,e0.bare,Un.kept hk,⟨_,x.toInCall.ns,fun i y v h1 h2 h3=>?_⟩,fun y c h=>⟨_,x.cell y c h⟩,e0.az.fresh (Qh _),fun y c h=>?_,fun p hp=>absurd (show p∈([]:List (Addr×Obj))from hp) (by simp),e0.az.kept hk,?_⟩
 ·exact name_of_addr x.apart (QV h1) (QV h2)
 ·have hy:scope.names.lookup y=some .cell\/scope.names.lookup y=some .free:=hy
  rcases hy with hy|hy
  ·exact E2 hy
  ·exact absurd rfl (S.rB _ (QV hy))
 ·exact ZG (x.above y c (QV h))
 ·have hi:i<vs.length:=by
   unfold start at h2
   by_cases hi:i<vs.length
   ·exact hi
   ·rw[Zm (by simpa using hi)]at h2
    rw[Z0]at h2
    split at h2<;>cases h2
  have ha:vs[i]? = some v:=by
   unfold start at h2
   rw[QW (by simpa using hi),Qk]at h2
   cases e:vs[i]? with
   | none=>rw[e]at h2;cases h2
   | some a=>rw[e]at h2;cases h2;rfl
  obtain⟨u,hu,rv⟩:=r.get ha
  have hp:ps[i]? = some y:=by
   rw[<- S.pre,ZW (by omega)];exact h1
  have E3:ps.Nodup:=by rw[<- S.pre];exact S.nd.sublist (List.take_sublist _ _)
  refine⟨u,rv,?_⟩
  rcases S.par y (QK hp)with k|k
  ·exact .inl ⟨k,EZ E3 hp hu k⟩
  ·obtain⟨c,e⟩:=E2 (n:=s.heap.objs.size+1) k
   refine .inr ⟨.inl k,c,e,?_⟩
   have q:=x.cell y c e
   rw[E1 E3 hp hu (by show scope.names.lookup y≠_;rw[k];decide)]at q
   exact q
 ·exact e0.az.fresh (ZG (x.above y c (QV h)))
 ·unfold start
  show _=N.length
  rw[Qm,Qc,ZB]
  omega
def E4{CX:mi}{k:Nat}{f:Addr}{name:Str}{params:Arguments}{dV kV doc pm bS ct oc:Value}{an od:Option Addr}
  {nN:Array (Option Value)}  {sp:Sp} (lk:K.lookup f=some ⟨oc,od,.func (PySem.W.fnOf name qual params body scope dV kV doc pm an bS ct),nN⟩) (gS:PySem.W.codeIn K bS qual=true) (S:aj N ps scope)
  (len:∀ vs H Q E,sp vs H Q E->vs.length=ps.length)
  (mj:∀ (A:Around) (outer:List Env) (s:Shared) (H:Hp) (vs:List V) (Q:VK) (E:XK),aS k (A.deeper (envOfC qual scope s.heap.objs.size f bS))->sp vs H Q E->
    ∃ t,gm (lO CX P w K mg base N qual scope f bS A outer s H E) body t/\t { nx:=fun _ H'=>Q .aK H',rt:=Q } (start N vs) H) :
  dS P w K mg base CX (k+1) f (PySem.W.fnOf name qual params body scope dV kV doc pm an bS ct) ps sp:=by
 refine⟨len,fun A outer s H args us vs Q E hr e0 hb r jP=>?_⟩
 have hl:=len _ _ _ _ jP
 have KX:K.In s.heap:=e0.mod.uZ.keeps fun b o e=>(e0.bs b o e).1
 have lim:s.heap.NoLimit:=e0.mod.nolimit.keeps fun b o e=>(e0.bs b o e).1
 have vc:∀ y∈ps.zip us,scope.names.lookup y.1=some .local\/(scope.names.lookup y.1=some .cell/\((cellsFrom (s.heap.objs.size+1) scope.names []).lookup y.1).isSome=true):=fun⟨n,v⟩ hy=>by
  rcases S.par n (YG hy).1 with q|q
  ·exact .inl q
  ·exact .inr ⟨q,Jv _ _ _ (.inl q)⟩
 refine codeAny_call_function hr.depth (KX _ _ lk) rfl S.co S.gen rfl (PySem.W.codeRec_of KX gS) (hb _ _ _ _ ?_)
 refine wpAny_newFunctionEnv_cells S.kind vc fun env he s1 x=>?_
 subst he
 refine⟨lim.keeps x.toInCall.keep,codeAny_func ?_⟩
 obtain⟨t,ht,hq⟩:=mj A outer s H vs Q E (hr.deeper _) jP
 have I:Inv (lO CX P w K mg base N qual scope f bS A outer s H E) [] (start N vs) H s1:=Na S hr.hd e0 hl r x
 refine Zs (ht [] s1 (start N vs) H _ I hq) (fun fl s' hs=>?_) fun e s' hs=>hs
 have fin:∀ {aM:St} {H':Hp} {v:V} {u:Value},Inv (lO CX P w K mg base N qual scope f bS A outer s H E) [] aM H' s'->bC v u->Q v H'->CE outer P w H s Q u s':=
  fun {aM H' v u} J rv q=>⟨v,H',J.os,J.bare,J.base,J.az,rv,q⟩
 cases fl with
 | ret u=>
  obtain⟨v,aM,H',J,rv,q⟩:=hs
  exact fin J rv q
 | next=>
  obtain⟨aM,H',J,q⟩:=hs
  exact fin (v:=V.aK) (u:=Value.none) J rfl q
 | brk=>
  obtain⟨_,_,_,q⟩:=hs
  exact False.elim q
 | cont=>
  obtain⟨_,_,_,q⟩:=hs
  exact False.elim q
section
variable {X:Cx}{x:Str}{p pos:Pos}{e:Expr}{es:List Expr}{t:TA}{id T:String}{r:List V->Hp->VK->Prop}
def ym (r:List V->Hp->VK->Prop)(t:TA):TE:=fun σ H Q=>t σ H fun vs H1=>r vs H1 Q
def oz(hc:jM X (.builtin id) r)(hg:Gl X x)(hm:X.mg x=none)(hv:bootBuiltins x=some (.builtin id))(ha:PA X (e::es) t)(hn:x ≠ "__name__":=by decide)(gU:(x==("__debug__":Str))=false:=by decide)
  (he:starEach (e::es) X.env=(false,eval e X.env)::starEach es X.env:=by rfl) (cu:(backTo pos (starEach es X.env)).any (·.1)=false:=by rfl):PE X (.Call (.Name x p) (e::es) [] pos) (ym r t):=by
 intro pins s σ H Q I h
 refine Yd (tS I hg hm hv ?_ hn gU)
 exact PyProof.Rows.callWith_builtin1 (aV (ha pos pins s σ H _ I h) fun us s1 ⟨vs,H1,I1,r1,q1⟩=>hc pins s1 σ H1 vs us Q I1 r1 q1) he cu
def tV(hc:jM X (.type T) r)(hg:Gl X x)(hm:X.mg x=none)(hv:bootBuiltins x=some (.type T))(ha:PA X (e::es) t)(hn:x ≠ "__name__":=by decide)(gU:(x==("__debug__":Str))=false:=by decide)
  (he:starEach (e::es) X.env=(false,eval e X.env)::starEach es X.env:=by rfl) (cu:(backTo pos (starEach es X.env)).any (·.1)=false:=by rfl):PE X (.Call (.Name x p) (e::es) [] pos) (ym r t):=by
 intro pins s σ H Q I h
 refine Yd (tS I hg hm hv ?_ hn gU)
 exact Z7 (aV (ha pos pins s σ H _ I h) fun us s1 ⟨vs,H1,I1,r1,q1⟩=>hc pins s1 σ H1 vs us Q I1 r1 q1) he cu
end
end L2
namespace HT
open PySem PyProof.Rows
section
open PySem.SeqAt
open PySem.AutoSeq1 (wpAny_loadPart')
open PySem.MeetsSeq PySem.MeetsSeq2 PySem.MeetsSeq3
end
section
variable {prog:Program}{w:World}{A:Around}{E:Value->Shared->Prop}{s:Shared}
def jQ (n d:Nat):Option Int->Nat
 | none=>d
 | some v=>if v<0 then(v+(n:Int)).toNat else min v.toNat n
end
end HT
namespace L2
open PySem PySem.Spec PyProof.Rows
variable {H:Hp}{i:Int}{n:Nat}{pins:List (Addr×Obj)}{r:R2}{s:Shared}{σ:St}
abbrev TO:=St->Hp->(Option Int->Hp->Prop)->Prop
section
variable {X:Cx}{e:Expr}{te:TE}{lo hi:Option Expr}{tl th:TO}{pos p2:Pos}
def Nb (X:Cx)(r:V->Option Int->Option Int->Hp->VK->Prop):Prop:=
 ∀ (pins:List (Addr×Obj)) (s:Shared) (σ:St) (H:Hp) (x:V) (v vl vu:Value) (lo hi:Option Int) (sl:Addr) (Q:VK),Inv X pins σ H s->bC x v->s.heap.IsSliceOf sl vl vu .none->IsPart vl lo->IsPart vu hi->r x lo hi H Q->
  ∃ T id,typeLookup (.type T) "__getitem__" = pure (some (.builtin id))/\s.TypeIs v T/\wpAny (model X.prog X.w) X.A (getItem v (.ref sl)) (EP X pins σ Q) X.xe s
def yn (xs:List V)(lo hi:Option Int):List V:=(xs.drop (HT.jQ xs.length 0 lo)).take (HT.jQ xs.length xs.length hi-HT.jQ xs.length 0 lo)
def Nc(xs:List V)(lo hi:Option Int):(yn xs lo hi).length<=xs.length:=by
 unfold yn
 rw[Za,JQ]
 omega
end
def iP (n:Nat)(i:Int):Option Nat:=if 0<=i then(if i<n then some i.toNat else none)else if -(n:Int)<=i then some (i+n).toNat else none
def dF {α:Type}(xs:List α)(i:Int):Option α:=(iP xs.length i).bind fun j=>xs[j]?
def AV{j:Nat}(h:iP n i=some j):seqIndex? i n=some j/\j<n /\ -(n:Int)<=i/\i<n:=by
 unfold iP at h
 by_cases h0:0<=i
 ·rw[Qf h0]at h
  by_cases h1:i<n
  ·rw[Qf h1]at h
   have e:i.toNat=j:=QF h
   exact⟨by rw[seqIndex_of h0 h1,e],by omega,by omega,h1⟩
  ·rw[Qi h1]at h;cases h
 ·rw[Qi h0]at h
  by_cases h1:-(n:Int)<=i
  ·rw[Qf h1]at h
   have e:(i+n).toNat=j:=QF h
   exact⟨by rw[seqIndex_neg (by omega) h1,e],by omega,h1,by omega⟩
  ·rw[Qi h1]at h;cases h
def AW{α:Type}{xs:List α}{v:α}(h:dF xs i=some v):∃ j,seqIndex? i xs.length=some j/\xs[j]? = some v/\j<xs.length /\ -(xs.length:Int)<=i/\i<xs.length:=by
 unfold dF at h
 cases e:iP xs.length i with
 | none=>rw[e]at h;cases h
 | some j=>
  rw[e]at h
  obtain⟨h1,h2,h3,h4⟩:=AV e
  exact⟨j,h1,h,h2,h3,h4⟩
def pU (b:Expr):Prop:=∀ o i,subscripted b false o i=operate [o,i] (getItem o i)
def oA (X:Cx)(r:R2):Prop:=
 ∀ (value slice:Expr) (pins:List (Addr×Obj)) (s:Shared) (σ:St) (H:Hp) (x y:V) (v u:Value) (Q:VK),Inv X pins σ H s->bC x v->bC y u->r x y H Q->
  subscripted slice false v u=operate [v,u] (getItem v u)->wpAny (model X.prog X.w) X.A (subscriptTail value slice v u) (EP X pins σ Q) X.xe s
def yo (X:Cx)(id:String)(r:V->List V->Hp->VK->Prop):Prop:=
 ∀ (pins:List (Addr×Obj)) (s:Shared) (σ:St) (H:Hp) (x:V) (xs:List V) (v:Value) (us:List Value) (Q:VK),Inv X pins σ H s->bC x v->bq xs us->r x xs H Q->
  wpAny (model X.prog X.w) X.A (call (.builtin id) (v::us)) (EP X pins σ Q) X.xe s
section
variable {X:Cx}{a b:Expr}{ta tb:TE}{pos:Pos}
def oA.or{r':R2}(h:oA X r)(h':oA X r'):oA X (fun x y H Q=>r x y H Q\/r' x y H Q):=by
 intro value slice pins s σ H x y v u Q I rx ry q hs
 rcases q with q|q
 ·exact h value slice pins s σ H x y v u Q I rx ry q hs
 ·exact h' value slice pins s σ H x y v u Q I rx ry q hs
def tW(hr:oA X r)(ha:PE X a ta)(hb:PE X b tb)(hs:pU b):PE X (.Subscript a b pos) (iO r ta tb):=by
 intro pins s σ H Q I h
 exact Subscript_ (AJ ha hb I h fun v u s2 x y H2 I2 rx ry q=>hr a b pins s2 σ H2 x y v u Q I2 rx ry q (hs _ _))
def E5 (K:PySem.W.Frag):R2:=fun x y H Q=>∃ p xs i v,x=.ref p/\y=.int i/\cE K H p xs/\dF xs i=some v/\Q v H
def E6 (K:PySem.W.Frag):R2:=fun x y H Q=>∃ p xs i v,x=.ref p/\y=.int i/\du K H p xs/\dF xs i=some v/\Q v H
def E7:R2:=fun x y H Q=>∃ z i c,x=.str z/\y=.int i/\z.length<=sizeLine/\dF z.cps.toList i=some c/\Q (.str ⟨#[c]⟩) H
def Nd:oA X (E5 X.K):=by
 intro value slice pins s σ H x y v u Q I rx ry h hs
 obtain⟨p,xs,i,z,rfl,rfl,hq,he,q⟩:=h
 cases rx
 obtain⟨t,rfl⟩:=ry
 obtain⟨aq,r,pl,hz⟩:=I.list hq
 obtain⟨j,h1,h2,h3,h4,h5⟩:=AW he
 obtain⟨w,ew,jR⟩:=r.get h2
 have hl:=r.length
 have hn:=tT
 have fin:EP X pins σ Q w s:=⟨z,H,I,jR,q⟩
 by_cases h0:0<=i
 ·have hj:i.toNat=j:=by
   rw[seqIndex_of h0 h5]at h1
   exact QF h1
  exact item_listR pl.isList h0 (by omega) (by rw[hj];simpa using ew) fin hs
 ·have hj:(i+(aq.toArray.size:Int)).toNat=j:=by
   rw[seqIndex_neg (by omega) h4]at h1
   rw[Qn,<- hl]
   exact QF h1
  exact subscriptTail_builtinR (x:=w) pl.isList.typeIs slot_list_getitem.lookup
   (wpAny_getItem_list_neg (Q:=fun r s'=>r=w/\EP X pins σ Q r s') pl.isList (by omega) (by rw[Qn]<;>omega) (by omega) (by rw[hj];simpa using ew) ⟨rfl,fin⟩) hs
def Nf:oA X (E6 X.K):=by
 intro value slice pins s σ H x y v u Q I rx ry h hs
 obtain⟨p,xs,i,z,rfl,rfl,hq,he,q⟩:=h
 cases rx
 obtain⟨t,rfl⟩:=ry
 obtain⟨aq,r,pl,hz⟩:=I.tuple hq
 obtain⟨j,h1,h2,h3,h4,h5⟩:=AW he
 obtain⟨w,ew,jR⟩:=r.get h2
 have hl:=r.length
 have hn:=tT
 have fin:EP X pins σ Q w s:=⟨z,H,I,jR,q⟩
 exact subscriptTail_builtinR (x:=w) pl.typeIs slot_tuple_getitem.lookup
  (getItem_tuple (j:=j) (Q:=fun r s'=>r=w/\EP X pins σ Q r s') pl (by omega) (by omega) (by rw[Qn,<- hl];exact h1) (by simpa using ew) ⟨rfl,fin⟩) hs
def Ng:oA X E7:=by
 intro value slice pins s σ H x y v u Q I rx ry h hs
 obtain⟨z,i,c,rfl,rfl,hz,he,q⟩:=h
 obtain⟨t,rfl⟩:=rx
 obtain⟨t',rfl⟩:=ry
 obtain⟨j,h1,h2,h3,h4,h5⟩:=AW he
 have hl:z.cps.toList.length=z.length:=by simp[Str.length]
 rw[hl]at h1 h4 h5
 have hn:=tT
 exact tail_any (typeIs_str s z t) slot_str_getitem.lookup (getItem_str (c:=c) (by
  have e1:decide (i < -(2 ^ 63:Int))=false:=QC (by omega)
  have e2:decide (i ≥ 2 ^ 63)=false:=QC (by omega)
  rw[e1,e2,Bool.or_false]) (by rw[h1];simpa using h2) ⟨.str ⟨#[c]⟩,H,I.tok _,⟨_,rfl⟩,q⟩) hs
def Nh (K:PySem.W.Frag):R2:=fun x y H Q=>E5 K x y H Q\/E6 K x y H Q\/E7 x y H Q
def tY:oA X (Nh X.K):=Nd.or (Nf.or Ng)
def Ni(aq:List Value)(n j:Nat)(u:Value):Obj.mapSeq (·.setIfInBounds j u) { cls:=.type "list",data:=.seq aq.toArray n }={ cls:=.type "list",data:=.seq (aq.set j u).toArray n }:=by
 simp[Obj.mapSeq]
def Inv.lst{pins:List (Addr×Obj)}{σ:St}{H:Hp}{s:Shared}{p:Addr}{xs:List V}(I:Inv X pins σ H s)(h:H p=some (.lst xs)) :
  ∃ (aq:List Value) (n:Nat),bq xs aq/\s.heap.get? p=some { cls:=.type "list",data:=.seq aq.toArray n }/\xs.length<=sizeLine:=by
 obtain⟨z,aq,n,r,e⟩:=I.az p _ h
 exact⟨aq,n,r,e,z⟩
def Inv.rC{p:Addr}{xs ys:List V}{aq its':List Value}{n n':Nat}{f:Obj->Obj}(I:Inv X pins σ H s)(h:H p=some (.lst xs))
  (ho:s.heap.get? p=some { cls:=.type "list",data:=.seq aq.toArray n }) (hf:f { cls:=.type "list",data:=.seq aq.toArray n }={ cls:=.type "list",data:=.seq its'.toArray n' }) (r:bq ys its') (hz:ys.length<=sizeLine) (t:Nat) :
  Inv X pins σ (upd H p (.lst ys)) { s with heap:=s.heap.update p f,toks:=t }:=by
 have e:(s.heap.update p f).get? p=some { cls:=.type "list",data:=.seq its'.toArray n' }:=by
  rw[Zt f ho (by rw[hf]<;>rfl),hf]
 refine I.write (x:=p) (e:=p) (by rw[h];trivial) (.inl rfl) (fun b u hb q=>(ZI _ _ (Jr hb)).trans q) ⟨_,e⟩ ?_
 exact⟨hz,its',n',r,e⟩
def Nj:V->V->V->Hp->(Hp->Prop)->Prop:=fun o i v H Q=>∃ p xs k j,o=.ref p/\i=.int k/\H p=some (.lst xs)/\iP xs.length k=some j/\Q (upd H p (.lst (xs.set j v)))
def Nk:EF X Nj:=by
 intro pins s σ H o i v ov iv u Q I ro ri rv h
 obtain⟨p,xs,k,j,rfl,rfl,hp,hj,q⟩:=h
 cases ro
 obtain⟨t,rfl⟩:=ri
 obtain⟨aq,n,r,ho,hz⟩:=I.lst hp
 obtain⟨h1,h2,h3,h4⟩:=AV hj
 have hl:=r.length
 have hn:=tT
 have I':Inv X pins σ (upd H p (.lst (xs.set j v))) { s with heap:=s.heap.update p (Obj.mapSeq (·.setIfInBounds j u)) }:=
  I.rC hp ho (Ni aq n j u) (r.set rv j) (by rw[QS];exact hz) s.toks
 by_cases h0:0<=k
 ·have hk:k.toNat=j:=by
   rw[seqIndex_of h0 h4]at h1
   exact QF h1
  exact PySem.W.ki_setAt ho h0 (by omega) (by rw[Qn,<- hl];exact h4) (by rw[hk];exact⟨_,I',q⟩)
 ·have hk:(k+(aq.toArray.size:Int)).toNat=j:=by
   rw[seqIndex_neg (by omega) h3]at h1
   rw[Qn,<- hl]
   exact QF h1
  exact PySem.W.ki_setBack ho (by omega) (by rw[Qn,<- hl];exact h3) (by omega) (by rw[hk];exact⟨_,I',q⟩)
def Nl(lo hi:Option Int)(n:Nat):(sliceBounds lo hi none n).1=((HT.jQ n 0 lo:Nat):Int)/\(sliceBounds lo hi none n).2.1=((HT.jQ n n hi:Nat):Int)/\(sliceBounds lo hi none n).2.2=1:=by
 refine⟨?_,?_,rfl⟩
 ·cases lo with
  | none=>simp[sliceBounds,HT.jQ]
  | some i=>
   simp only[sliceBounds,HT.jQ,Option.getD_none,show(1:Int) > 0 by decide,Zv]
   by_cases h:i<0
   ·simp only[h,Zv]<;>omega
   ·simp only[h,Zj]<;>omega
 ·cases hi with
  | none=>simp[sliceBounds,HT.jQ]
  | some i=>
   simp only[sliceBounds,HT.jQ,Option.getD_none,show(1:Int) > 0 by decide,Zv]
   by_cases h:i<0
   ·simp only[h,Zv]<;>omega
   ·simp only[h,Zj]<;>omega
def Nm(aq:List Value)(lo hi:Option Int):slicePick aq.toArray lo hi none=((aq.drop (HT.jQ aq.length 0 lo)).take (HT.jQ aq.length aq.length hi-HT.jQ aq.length 0 lo)).toArray:=by
 obtain⟨h1,h2,h3⟩:=Nl lo hi aq.toArray.size
 unfold slicePick
 rw[h1,h2,h3]
 simp only[sliceRange_one,pick_run,Qn]<;>rfl
def Np (K:PySem.W.Frag):V->Option Int->Option Int->Hp->VK->Prop:=fun x lo hi H Q=>∃ a xs,x=.ref a/\cE K H a xs/\∀ p,H p=none->Q (.ref p) (upd H p (.lst (yn xs lo hi)))
def j5g:Nb X (Np X.K):=by
 intro pins s σ H x v vl vu lo hi sl Q I rx hs pl pu h
 obtain⟨a,xs,rfl,hx,q⟩:=h
 cases rx
 obtain⟨aq,r,ht,hz⟩:=I.list hx
 have hlen:=r.length
 refine⟨"list",_,slot_list_getitem.lookup,ht.isList.typeIs,?_⟩
 refine wpAny_getItem_list_slice ht.isList hs pl pu .none (by simp) ?_ (by rw[Qn]<;>omega)
 rw[Nm,<- hlen]
 refine⟨.ref s.heap.objs.size,_,I.laid (t':=s.toks) (o:=.lst (yn xs lo hi)) (fun b ob q=>Qe _ q) (Qh _) ?_,rfl,q _ (I.az.fresh (Qh _))⟩
 exact⟨QO (Nc xs lo hi) hz,_,0,(r.drop (HT.jQ xs.length 0 lo)).take (HT.jQ xs.length xs.length hi-HT.jQ xs.length 0 lo),Qv _ rfl⟩
def AX:jM X (.builtin "len") (fun xs H Q=>∃ p ys,xs=[.ref p]/\(cE X.K H p ys\/du X.K H p ys)/\Q (.int ys.length) H):=by
 intro pins s σ H xs us Q I r h
 obtain⟨p,ys,rfl,hq,q⟩:=h
 obtain⟨u,rfl,rx⟩:=lN r
 cases rx
 have hn:=tT
 rcases hq with hq|hq
 ·obtain⟨aq,r',pl,hz⟩:=I.list hq
  have hlen:=r'.length
  exact Calls.call_len_list pl.isList (by simp only[Qn]<;>omega) ⟨.int ys.length,H,I.tok _,⟨s.toks+1,by rw[Qn,hlen]⟩,q⟩
 ·obtain⟨aq,r',pl,hz⟩:=I.tuple hq
  have hlen:=r'.length
  exact len_tuple pl (by simp only[Qn]<;>omega) ⟨.int ys.length,H,I.tok _,⟨s.toks+1,by rw[Qn,hlen]⟩,q⟩
def Nq:jM X (.type "list") (fun xs H Q=>∃ p ys,xs=[.ref p]/\(cE X.K H p ys\/du X.K H p ys)/\∀ l,H l=none->Q (.ref l) (upd H l (.lst ys))):=by
 intro pins s σ H xs us Q I r h
 obtain⟨p,ys,rfl,hq,q⟩:=h
 obtain⟨u,rfl,rx⟩:=lN r
 cases rx
 have fin:∀ (aq:List Value),bq ys aq->ys.length<=sizeLine->∀ (h':Heap) (c':Nat),(∀ b o',s.heap.get? b=some o'->h'.get? b=some o')->
   h'.get? s.heap.objs.size=some { cls:=.type "list",dict:=none,data:=.seq aq.toArray c',slots:=#[] }->EP X pins σ Q (.ref s.heap.objs.size) { s with heap:=h' }:=fun aq r' hz h' c' kp e=>
  ⟨.ref s.heap.objs.size,_,I.laid (t':=s.toks) kp (Qh _) (show cU X.prog X.w _ h' _ (.lst ys)from⟨hz,aq,c',r',e⟩),rfl,q _ (I.az.fresh (Qh _))⟩
 rcases hq with hq|hq
 ·obtain⟨aq,r',pl,hz⟩:=I.list hq
  have hlen:=r'.length
  obtain⟨o,ho,hc,n,hd⟩:=pl.isList
  exact call_list_seq p (.inl rfl) ho hc hd (fun h' c' kp e=>fin aq r' hz h' c' kp e) (by simp only[Qn]<;>omega)
 ·obtain⟨aq,r',pl,hz⟩:=I.tuple hq
  have hlen:=r'.length
  obtain⟨o,ho,hc,n,hd⟩:=pl
  exact call_list_seq p (.inr rfl) ho hc hd (fun h' c' kp e=>fin aq r' hz h' c' kp e) (by simp only[Qn]<;>omega)
def Nr:jM X (.type "tuple") (fun xs H Q=>∃ p ys,xs=[.ref p]/\((cE X.K H p ys/\∀ l,H l=none->Q (.ref l) (upd H l (.tup ys)))\/(du X.K H p ys/\Q (.ref p) H))):=by
 intro pins s σ H xs us Q I r h
 obtain⟨p,ys,rfl,h⟩:=h
 obtain⟨u,rfl,rx⟩:=lN r
 cases rx
 rcases h with⟨hq,q⟩|⟨hq,q⟩
 ·obtain⟨aq,r',pl,hz⟩:=I.list hq
  have hlen:=r'.length
  refine call_tuple_list pl.isList (fun h' kp=>?_) (by simp only[Qn]<;>omega)
  have I1:Inv X pins σ H { s with heap:=h' }:=I.kept (t':=s.toks) kp
  have I2:Inv X pins σ (upd H h'.objs.size (.tup ys)) { s with heap:=h'.push { cls:=.type "tuple",data:=.seq aq.toArray } }:=
   I1.laid (t':=s.toks) (fun b o e=>Qe _ e) (Qh _) (show cU X.prog X.w _ _ _ (.tup ys)from⟨hz,aq,r',l8.new _ _⟩)
  exact⟨.ref h'.objs.size,_,I2,rfl,q _ (I1.az.fresh (Qh _))⟩
 ·obtain⟨aq,r',pl,hz⟩:=I.tuple hq
  exact call_tuple_same pl ⟨.ref p,H,I,rfl,q⟩
def E8 (K:PySem.W.Frag)(T:String)(x:V)(H:Hp):Prop:=match x with
 | .str _=>T = "str"
 | .int _=>T = "int"
 | .ref p=>(T = "list" /\ ∃ xs,cE K H p xs)\/(T = "tuple" /\ ((∃ o,K.lookup p=some o/\o.cls=.type "tuple" /\ o.dict=none)\/∃ xs,H p=some (.tup xs))) \/
   (T = "dict" /\ ((∃ ai,H p=some (.dK ai))\/∃ ai,H p=some (.dT ai)))\/(T = "set" /\ ∃ S n,H p=some (.set S n))
 | _=>False
theorem Nt{T:String}{x:V}{v:Value}(I:Inv X pins σ H s)(r:bC x v)(ty:E8 X.K T x H) :
  s.TypeIs v T/\∀ a,v=.ref a->∃ ob,s.heap.get? a=some ob/\ob.dict=none:=by
 cases x with
 | str z=>
  obtain⟨t,rfl⟩:=r
  cases (show T = "str" from ty)
  exact⟨typeIs_str s z t,fun _ e=>nomatch e⟩
 | int i=>
  obtain⟨t,rfl⟩:=r
  cases (show T = "int" from ty)
  exact⟨VF s i t,fun _ e=>nomatch e⟩
 | ref p=>
  cases r
  rcases ty with⟨rfl,xs,hq⟩|⟨rfl,⟨o,hk,hc,hd⟩|⟨xs,hk⟩⟩|⟨rfl,hk⟩|⟨rfl,S,n,hk⟩
  ·obtain⟨aq,_,pl,_⟩:=I.list hq
   refine⟨pl.isList.typeIs,fun a e=>?_⟩
   cases e
   obtain⟨o,n,e,c,hd,_⟩:=pl
   exact⟨o,e,hd⟩
  ·refine⟨⟨o,I.fi p o hk,hc⟩,fun a e=>?_⟩
   cases e
   exact⟨o,I.fi _ o hk,hd⟩
  ·obtain⟨_,aq,_,o,e,c,_,hd⟩:=(show cU X.prog X.w H s.heap p (.tup xs)from I.az p _ hk)
   refine⟨⟨o,e,c⟩,fun a e2=>?_⟩
   cases e2
   exact⟨o,e,hd⟩
  ·have z:∃ o,s.heap.get? p=some o/\o.ExactDict:=by
    rcases hk with⟨ai,hk⟩|⟨ai,hk⟩
    ·obtain⟨_,_,_,_,o,_,_,e,ex,_⟩:=I.az p _ hk
     exact⟨o,e,ex⟩
    ·obtain⟨_,_,_,_,o,_,_,e,ex,_⟩:=I.az p _ hk
     exact⟨o,e,ex⟩
   obtain⟨o,e,ex⟩:=z
   refine⟨⟨o,e,ex.1⟩,fun a e2=>?_⟩
   cases e2
   exact⟨o,e,ex.2.1⟩
  ·obtain⟨o,_,_,_,e,ex,_⟩:=I.az p _ hk
   refine⟨⟨o,e,ex.1⟩,fun a e2=>?_⟩
   cases e2
   exact⟨o,e,ex.2.1⟩
 | _=>exact False.elim ty
def Nu (K:PySem.W.Frag)(T:String)(r:V->List V->Hp->VK->Prop)(to:TE)(t:TA):TE:=fun σ H Q=>to σ H fun x H1=>E8 K T x H1/\t σ H1 fun xs H2=>r x xs H2 Q
variable {o e:Expr}{es:List Expr}{to:TE}{t:TA}{name:Str}{apos ak:Pos}{T id:String}{r:V->List V->Hp->VK->Prop}
def tZ(pa:PlainAttrs T)(slot:Slot T name id)(oB:typeOf (.builtin id)=pure (.type "method_descriptor"))(hm:yo X id r)(ho:PE X o to)(ha:PA X (e::es) t)
  (bE:attributeBase o name X.env (eval o X.env)=eval o X.env:=by rfl)
  (cJ:((backTo ak (starEach (e::es) X.env)).all (fun x=>!x.1)&&(backToKw ak (keywordEach [] X.env)).all (fun x=>x.1.isSome)
    && decide ((e::es).length+([]:List Keyword).length+(if([]:List Keyword).isEmpty then 0 else 1)<30))=true:=by rfl)
  (bF:(apos.endLine==ak.line)=true:=by rfl) (hs:starEach (e::es) X.env=(false,eval e X.env)::starEach es X.env:=by rfl) (bW:(backTo ak (starEach es X.env)).any (·.1)=false:=by rfl) :
  PE X (.Call (.Attribute o name apos) (e::es) [] ak) (Nu X.K T r to t):=by
 intro pins s σ H Q I h
 refine wpAny_Call_method_late bE cJ bF rfl (aV (ho pins s σ H _ I h) fun v s1 ah=>?_)
 obtain⟨x,H1,I1,r1,ty,q1⟩:=ah
 obtain⟨h1,h2⟩:=Nt I1 r1 ty
 refine⟨T,id,pa,slot,oB,h1,h2,?_⟩
 have hA:=ha ak pins s1 σ H1 _ I1 q1
 rw[hs]at hA ⊢
 refine Z8 (by show(false||(backTo ak (starEach es X.env)).any (·.1))=false;rw[bW]<;>rfl) (ZY ?_)
 exact aV hA fun us s2 ⟨vs,H2,I2,r2,q2⟩=>hm pins s2 σ H2 x vs v us Q I2 r1 r2 q2
end
def AY (X:Cx)(id:String)(r:V->List V->Hp->VK->Prop):Prop:=
 ∀ (pins:List (Addr×Obj)) (s:Shared) (σ:St) (H:Hp) (x:V) (xs:List V) (v:Value) (us:List Value) (Q:VK),Inv X pins σ H s->bC x v->bq xs us->r x xs H Q->
  wpAny (model X.prog X.w) X.A (call (.builtin id) (v::us)) (EP X pins σ Q) X.xe s
theorem bq.one:∀ {x:V} {us:List Value},bq [x] us->∃ u,us=[u]/\bC x u
 | _,_,.cons r .nil=>⟨_,rfl,r⟩
theorem bq.eraseIdx:∀ {xs:List V} {us:List Value} (i:Nat),bq xs us->bq (xs.eraseIdx i) (us.eraseIdx i)
 | _,_,_,.nil=>.nil
 | _,_,0,.cons _ t=>t
 | _,_,i+1,.cons r t=>.cons r (bq.eraseIdx i t)
theorem bq.rep{xs:List V}{us:List Value}(h:bq xs us):∀ k:Nat,bq (List.replicate k xs).flatten (List.replicate k us).flatten
 | 0=>.nil
 | k+1=>by
  rw[ZN,ZN,Ji,Ji]
  exact bq.append h (bq.rep h k)
theorem E9{α:Type}:∀ (l:List α) (i:Nat),(l.eraseIdx i).length<=l.length
 | [],_=>Qh _
 | _::_,0=>JK _
 | _::r,i+1=>Vr (E9 r i)
def AZ(aq:List Value):∀ (k:Nat) (acc:List Value),
  List.foldl (fun x1 x2=>x1++x2) acc.toArray (List.replicate k aq.toArray)=(acc++(List.replicate k aq).flatten).toArray
 | 0,acc=>by simp
 | k+1,acc=>by
  have e:acc.toArray++aq.toArray=(acc++aq).toArray:=by simp
  have e2:(acc++aq)++(List.replicate k aq).flatten=acc++(List.replicate (k+1) aq).flatten:=by
   rw[ZN,Ji,Zz]
  rw[<- e2,<- AZ aq k (acc++aq),<- e,ZN,List.foldl_cons]
section
variable {X:Cx}{pins:List (Addr×Obj)}{σ:St}{H:Hp}{s:Shared}{l b:Addr}{xs ys zs:List V}
def Inv.rD{aq its':List Value}{n:Nat}{f:Array Value->Array Value}{t':Nat}(I:Inv X pins σ H s)(hH:H l=some (.lst xs))
  (e:s.heap.get? l=some { cls:=.type "list",data:=.seq aq.toArray n }) (hf:f aq.toArray=its'.toArray) (hv:bq ys its') (hz:ys.length<=sizeLine) :
  Inv X pins σ (upd H l (.lst ys)) { s with heap:=s.heap.update l (Obj.mapSeq f),toks:=t' }:=by
 have q:=PySem.IsL.update e f
 rw[hf]at q
 refine I.write (x:=l) (e:=l) (by rw[hH];exact trivial) (.inl rfl) (fun b' u hb hu=>(ZI s.heap (Obj.mapSeq f) (Jr hb)).trans hu) ⟨_,q⟩ ?_
 exact⟨hz,its',_,hv,q⟩
def Inv.vd{aq:List Value}{t':Nat}(I:Inv X pins σ H s)(hv:bq ys aq)(hz:ys.length<=sizeLine) :
  Inv X pins σ (upd H s.heap.objs.size (.lst ys)) { s with heap:=s.heap.push { cls:=.type "list",data:=.seq aq.toArray },toks:=t' }:=
 I.laid (fun _ _ q=>Qe _ q) (Qh _) ⟨hz,aq,0,hv,Qv _ rfl⟩
def Inv.fresh(I:Inv X pins σ H s):H s.heap.objs.size=none:=I.az.fresh (Qh _)
def Inv.mn(I:Inv X pins σ H s)(hH:H l=some (.lst xs)):xs.length<=sizeLine/\∃ (aq:List Value) (n:Nat),bq xs aq/\xs.length=aq.length/\s.heap.get? l=some { cls:=.type "list",data:=.seq aq.toArray n }:=by
 obtain⟨z,aq,n,r,e⟩:=I.az l _ hH
 exact⟨z,aq,n,r,r.length,e⟩
def E_(h:n<=sizeLine):Builtin.List.listTooLong n=false:=by
 unfold Builtin.List.listTooLong
 exact QC (by omega)
end
section
variable {X:Cx}
def Nv:V->List V->Hp->VK->Prop:=fun x vs H Q=>∃ l xs y,x=.ref l/\vs=[y]/\H l=some (.lst xs)/\xs.length<sizeLine/\Q .aK (upd H l (.lst (xs++[y])))
theorem Nw:AY X "list.append" Nv:=by
 intro pins s σ H x vs v us Q I rx rv h
 obtain⟨l,xs,y,rfl,rfl,hH,hz,q⟩:=h
 cases rx
 obtain⟨u,rfl,ru⟩:=rv.one
 obtain⟨z,aq,n,r,hl,e⟩:=I.mn hH
 refine Jo F.slot_list_append ⟨_,e,rfl⟩ F.entry_list_append (F.args_list_append_2 _ _) (PySem.list_append l aq.toArray n u (by rw[Qn];omega)) ⟨e,?_⟩
 refine⟨.aK,_,I.rD (its':=aq++[u]) hH e (by simp) (r.append (.cons ru .nil)) ?_,rfl,q⟩
 rw[Qm,List.length_singleton]
 omega
def Nx:V->List V->Hp->VK->Prop:=fun x vs H Q=>∃ l b xs zs,x=.ref l/\vs=[.ref b]/\H l=some (.lst xs)/\H b=some (.lst zs)/\xs.length+zs.length<=sizeLine/\Q .aK (upd H l (.lst (xs++zs)))
theorem Ny:AY X "list.extend" Nx:=by
 intro pins s σ H x vs v us Q I rx rv h
 obtain⟨l,b,xs,zs,rfl,rfl,hH,hB,hz,q⟩:=h
 cases rx
 obtain⟨u,rfl,ru⟩:=rv.one
 cases ru
 obtain⟨z,aq,n,r,hl,e⟩:=I.mn hH
 obtain⟨z2,iX,n2,r2,Fb,e2⟩:=I.mn hB
 have hsz:aq.toArray.size+iX.toArray.size<=sizeLine:=by rw[Qn,Qn];omega
 have mq:¬ (!aq.toArray.isEmpty&&Builtin.List.listTooLong (aq.toArray.size+iX.toArray.size))=true:=by
  rw[E_ hsz,VW]
  exact Zd
 refine Jo F.slot_list_extend ⟨_,e,rfl⟩ F.entry_list_extend (F.args_list_extend_2 _ _)
  (AutoSeq1.list_extend_list_list_0 l aq.toArray n b iX.toArray n2 mq (by rw[Qn];omega) (by omega)) ⟨e,e2,?_⟩
 refine⟨.aK,_,I.rD (its':=aq++iX) hH e (by simp) (r.append r2) ?_,rfl,q⟩
 rw[Qm]
 omega
def Nz:V->List V->Hp->VK->Prop:=fun x vs H Q=>∃ l xs i k y,x=.ref l/\vs=[.int i]/\H l=some (.lst xs) /\ -(2 ^ 63)<=i/\i<2 ^ 63/\seqIndex? i xs.length=some k/\xs[k]? = some y/\Q y (upd H l (.lst (xs.eraseIdx k)))
theorem NA:AY X "list.pop" Nz:=by
 intro pins s σ H x vs v us Q I rx rv h
 obtain⟨l,xs,i,k,y,rfl,rfl,hH,h1,h2,hk,hy,q⟩:=h
 cases rx
 obtain⟨u,rfl,ru⟩:=rv.one
 obtain⟨t,rfl⟩:=ru
 obtain⟨z,aq,n,r,hl,e⟩:=I.mn hH
 obtain⟨w,hw,jR⟩:=r.get hy
 refine Jo F.slot_list_pop ⟨_,e,rfl⟩ F.entry_list_pop (F.args_list_pop_2 _ _)
  (MeetsSeq.list_pop_at l aq.toArray n i t k w (fitsIndex_both h1 h2) (by rw[Qn,<- hl];exact hk) (by rw[<- Ze];exact hw) (by rw[Qn];omega)) ⟨e,?_⟩
 refine⟨y,_,I.rD (its':=aq.eraseIdx k) hH e ?_ (r.eraseIdx k) ?_,jR,q⟩
 ·show aq.toArray.eraseIdxIfInBounds k=(aq.eraseIdx k).toArray
  rw[List.eraseIdxIfInBounds_toArray]
 ·have:=E9 xs k
  omega
def NB:R2:=fun x y H Q=>∃ l k xs,x=.ref l/\y=.int k/\H l=some (.lst xs) /\ -(2 ^ 63)<=k/\k<2 ^ 63/\xs.length*k.toNat<=sizeLine /\
 ∀ p,H p=none->Q (.ref p) (upd H p (.lst (List.replicate k.toNat xs).flatten))
def A_{α:Type}(xs:List α)(k:Nat):(List.replicate k xs).flatten.length=k*xs.length:=by
 induction k with
 | zero=>simp
 | succ k ih=>rw[ZN,Ji,Qm,ih,Nat.succ_mul,Nat.add_comm]
theorem NC:dC X (binaryOp .Mult) NB:=by
 intro pins s σ H x y v u Q I rx ry h
 obtain⟨l,k,xs,rfl,rfl,hH,h1,h2,hz,q⟩:=h
 cases rx
 obtain⟨t,rfl⟩:=ry
 obtain⟨z,aq,n,r,hl,e⟩:=I.mn hH
 have hlen:aq.toArray.size*k.toNat<=sizeLine:=by rw[Qn,<- hl];exact hz
 have Ba:¬ aq.toArray.size*k.toNat > (2 ^ 63-1) / 8:=by
  have:(sizeLine:Nat)<=(2 ^ 63-1) / 8:=by decide
  omega
 have Bb:¬ (!Builtin.List.listFitsIndex k)=true:=by
  rw[fitsIndex_both h1 h2]
  exact Zd
 have mq:¬ Builtin.List.listTooLong (aq.toArray.size*k.toNat)=true:=by
  rw[E_ hlen]
  exact Zd
 have Bc:List.foldl (fun x1 x2=>x1++x2) #[] (List.replicate (if aq.toArray.isEmpty=true then 0 else k.toNat) aq.toArray)=(List.replicate k.toNat aq).flatten.toArray:=by
  have f0:∀ m:Nat,List.foldl (fun x1 x2=>x1++x2) #[] (List.replicate m aq.toArray)=(List.replicate m aq).flatten.toArray:=fun m=>by
   have:=AZ aq m []
   rw[List.nil_append]at this
   exact this
  rw[f0]
  cases aq with
  | nil=>simp
  | cons a r'=>rw[Qi (by simp)]
 refine Vd (T:="list") (U:="int") (by decide) ⟨_,e,rfl⟩ (fun s'=>VF s' k t) noFill_list_mul F.fills_int_mul YH repeat_list F.slot_int_index.lookup
  (Jo YH (VF s k t) F.entry_int_rmul (F.args_int_rmul_2 _ _) (int___rmul___int_list k t l aq.toArray n)
    ⟨e,rfl,⟨_,e,rfl⟩,Jo F.slot_list_mul ⟨_,e,rfl⟩ F.entry_list_mul (F.args_list_mul_2 _ _) (AutoListH.list___mul___list_int_3 l aq.toArray n k t Bb Ba mq) ⟨e,?_⟩⟩)
 rw[Bc]
 exact⟨.ref _,_,I.vd (t':=s.toks) (r.rep k.toNat) (by rw[A_,YV];exact hz),rfl,q _ I.fresh⟩
end
end L2
namespace Fc
open PySem PySem.W PySem.Calls PyProof.Rows
variable {P:Params}{h:Heap}{l:OpenLaw}{n:Nat}
def ND:∀ (ns:List Int) (vs:List Value),WellAll P h vs (ns.map WData.int)->IntsAre vs ns:=by
 intro ns
 induction ns with
 | nil=>
  intro vs w
  rw[V9]at w
  cases w
  exact .nil
 | cons n ns ih=>
  intro vs w
  rw[QI]at w
  cases w with
  | cons a b=>
   cases a
   exact .cons _ _ (ih _ b)
def NF(hn:l.most=some n){args:List WData}{vals:List Value}
  (oC:l.row.toRowW.claim.pre args=true) (t4:WellAll P h vals args) :
  ∃ a vs ns,vals=[Value.ref a]/\args=[WData.list (ns.map WData.int)]/\h.get? a=some { cls:=.type "list",data:=.seq vs.toArray }/\IntsAre vs ns/\ns.length<=n:=by
 have NH:WShape.hasAll [] args [.list .int]=true:=(pre_splitW oC).1
 have hc:l.pre.holds [] { args:=args }=true:=(pre_splitW oC).2
 obtain⟨d,r,rfl,h1,h2⟩:=hasAllW_cons NH
 obtain rfl:=hasAllW_nil h2
 obtain⟨xs,rfl,h3⟩:=hasW_list h1
 obtain⟨ns,rfl⟩:=items_int h3
 have hlen:ns.length<=n:=by
  unfold OpenLaw.pre at hc
  have h4:(WTm.not (.lt (.lit (.int (n:Int))) (.len (.arg 0)))).holds [] { args:=[.list (ns.map .int)] }=true:=by
   have h4:=(holds_andW hc).1
   rw[hn]at h4
   exact h4
  have h5:=condW_of h4 (w_not (w_lt w_lit (w_len_list (w_arg rfl))))
  rw[Qc]at h5
  refine Nat.le_of_not_lt fun q=>?_
  have q':(n:Int)<((ns.length:Nat):Int):=by omega
  first
   | (rw[Qt q']at h5;exact absurd h5 (by decide))
   | (simp at h5;omega)
 cases t4 with
 | cons w1 w2=>
  cases w2
  cases w1 with
  | list ho df=>exact⟨_,_,ns,rfl,rfl,ho,ND ns _ df,hlen⟩
def NI(l:OpenLaw)(args:List WData):l.row.toRowW.claim.post args (.bool true) args=true:=
 postW_of (r:=l.row.toRowW) (X:=(true==true))
  (show WShape.has [] (.bool true) .bool=true by first|rfl|decide|simp[WShape.has,WShape.arms,WShape.armsAll])
  (show(WTm.eq .res (.lit (.bool true))).value [] { args:=args,res:=some (.bool true),after:=args }=some (.bool (true==true))from w_eq_bool (w_res rfl) w_lit) rfl
def NJ{q:Program}{loose:List Str}{XP:(Str->Option Value)->Heap->Prop}{YP:World->Heap->Prop}{d:DefRec}
  (hn:l.most=some n) (vf:d.params.defaults=[])
  (call:∀ (w:World) (aP aT:Shared) (mg mb:Str->Option Value) (fa:Addr) (o:Obj) (pm cd doc:Value) (a:Addr) (vs:List Value) (ns:List Int),
    Ground q loose [] XP w aP mg mb aT.heap->YP w aT.heap->
    aT.heap.get? fa=some o->o.data=.func (docDef d.name d.params d.body d.scope pm cd doc)->aT.heap.CodeRec cd d.name->mg d.name=some (.ref fa)->
    aT.heap.get? a=some { cls:=.type "list",data:=.seq vs.toArray }->IntsAre vs ns->ns.length<=n->aT.gens = #[]->
    codeAny (model l.prog w) callerA (.call (.ref fa) ⟨[.ref a],[]⟩) (fun r s'=>r=.ok (.ret (.bool true))/\OldK aT.heap s'.heap/\s'.os=aT.os/\AllBare s'.gens) aT) :
  WalkO q loose XP YP l.row.toRowW d [] (fun f vs=>PySem.call f vs):=by
 intro w aP aT mg mb G Y fa o pm cd doc dV kV ho hd gS hD hmg hg args vals as oC NK hrd t4 hlo
 obtain rfl:dV=.none:=Dflts.none hD vf
 obtain rfl:kV=.none:=Dflts.noKw hD
 obtain⟨a,vs,ns,rfl,rfl,rE,hints,hlen⟩:=NF hn oC t4
 refine enter_call (JP (call w aP aT mg mb fa o pm cd doc a vs ns G Y ho (fd_plain hd) gS hmg rE hints hlen hg) fun r s' hq=>?_)
 obtain⟨rfl,h2,h3,h4⟩:=hq
 exact⟨.inl ⟨.bool true,.bool true,[],rfl,fun _=>rfl,.bool true,NI l _,fun _=>⟨List.Pairwise.nil,fun _ hm=>(nomatch hm)⟩⟩,h2,h3,h4⟩
end Fc
namespace L2
open PySem PySem.Spec PyProof.Rows
theorem yq:∀ {vs:List Value} {ns:List Int},IntsAre vs ns->bq (ns.map V.int) vs
 | _,_,.nil=>.nil
 | _,_,.cons n t h=>.cons ⟨t,rfl⟩ (yq h)
def Bd (H:Hp):Prop:=∀ b,H b=none\/∃ o xs,H b=some (.eE o (.lst xs))
def NL{P:Program}{w:World}{K:PySem.W.Frag}{mg mb:Str->Option Value}{CX:mi}{k:Nat}{fa a:Addr}{fd:FuncData}{x:Str}{sp:Sp}{aT:Shared}{vs:List Value}{ns:List Int}
  (KX:K.In aT.heap) (pV:aT.heap.Ns mainGlobals mg) (hb:aT.heap.Ns builtinsNs mb) (yr:∀ x:Str,x ≠ "__name__"->mb x=bootBuiltins x) (Be:aT.heap.NoLimit) (hg:aT.gens = #[])
  (ha:aT.heap.get? a=some { cls:=.type "list",data:=.seq vs.toArray }) (hi:IntsAre vs ns) (hl:ns.length<=sizeLine) (hr:aS k callerA)
  (F:∀ base:Heap,K.In base->base.Ns mainGlobals mg->dS P w K mg base CX k fa fd [x] sp) (vg:∀ (s:Shared) (u:Value),BindsTo s fd ⟨[u],[]⟩ [(x,u)])
  (jP:∀ H:Hp,Bd H->cE K H a (ns.map V.int)->sp [.ref a] H (fun v _=>v=.bl true) fun _ _ _=>False)
  (NM:∀ H e s',CX [] H aT (fun _ _ _=>False) e s'->False) :
  codeAny (model P w) callerA (.call (.ref fa) ⟨[.ref a],[]⟩) (fun r s'=>r=.ok (.ret (.bool true))/\OldK aT.heap s'.heap/\s'.os=aT.os/\AllBare s'.gens) aT:=by
 have rv:=yq hi
 have Bf:=hi.length
 have core:∀ H:Hp,Bd H->cE K H a (ns.map V.int)->cV P w H aT.heap->(∀ b,H b≠none->b=a)->(H a≠none->K.lookup a=none)->
   codeAny (model P w) callerA (.call (.ref fa) ⟨[.ref a],[]⟩) (fun r s'=>r=.ok (.ret (.bool true))/\OldK aT.heap s'.heap/\s'.os=aT.os/\AllBare s'.gens) aT:=by
  intro H hO hS az hA hK
  have ke:∀ {b:Addr} {o:Obj},aT.heap.get? b=some o->H b=none->(og aT.heap H).get? b=some o:=fun e n=>LL e n
  have vb:∀ {b:Addr} {o:Obj} {es:Array DictEntry} {ep:Nat},aT.heap.get? b=some o->o.data=.dict es ep->H b=none:=fun {b o es ep} e d=>by
   cases q:H b with
   | none=>rfl
   | some u=>
    have e':b=a:=hA b (by rw[q];simp)
    subst e'
    rw[ha]at e;cases e
    have d':Data.seq vs.toArray _=Data.dict es ep:=d
    cases d'
  have yt:∀ {b:Addr} {m:Str->Option Value},aT.heap.Ns b m->(og aT.heap H).Ns b m:=fun {b m} ⟨o,es,ep,e,d,r⟩=>⟨o,es,ep,ke e (vb e d),d,r⟩
  have Fd:K.In (og aT.heap H):=fun b o e=>ke (KX b o e) (by
   cases q:H b with
   | none=>rfl
   | some u=>
    have e':b=a:=hA b (by rw[q];simp)
    subst e'
    rw[hK (by rw[q];simp)]at e;cases e)
  have hM:Mod K mg (og aT.heap H):=⟨Fd,yt pV,⟨mb,yt hb,yr⟩,let ⟨mc,h1,h2⟩:=Be;⟨mc,yt h1,h2⟩⟩
  have e0:ou P w K mg (og aT.heap H) callerA [] aT H:=⟨rfl,hM,fun b o e=>LM e,Nat.le_of_eq (LK _ _),trivial,fun b hb=>absurd (show b∈([]:List Addr)from hb) (by simp),az,.of_eq hg⟩
  refine JP ((F _ Fd (yt pV)).run callerA [] aT H ⟨[.ref a],[]⟩ [.ref a] [.ref a] _ _ hr e0 (vg aT (.ref a)) (.cons rfl .nil) (jP H hO hS)) fun r s' h=>?_
  cases r with
  | error e=>exact(NM H e s' h).elim
  | ok fl=>
   cases fl with
   | next=>exact False.elim h
   | brk=>exact False.elim h
   | cont=>exact False.elim h
   | ret u=>
    obtain⟨v,H',os,bare,un,rF,r',q⟩:=h
    have q':v=.bl true:=q
    subst q'
    obtain rfl:u=Value.bool true:=r'
    refine⟨rfl,OldK.of_keep fun b o e=>?_,os,bare⟩
    cases q:H b with
    | none=>exact un.keep b o e q (by intro z;exact absurd (show b∈([]:List Addr)from z) (by simp)) (by simp)
    | some u=>
     rcases hO b with z|⟨ob,xs,z⟩
     ·rw[q]at z;cases z
     ·have z2:=un.eF b ob _ z
      obtain⟨e1,_⟩:=az b _ z
      obtain⟨e2,_⟩:=rF b _ z2
      rw[e]at e1;cases e1
      exact e2
 cases hk:K.lookup a with
 | some o=>
  have e:=KX a o hk
  rw[ha]at e
  cases e
  refine core (fun _=>none) (fun _=>.inl rfl) (.inr ⟨_,vs.toArray,_,hk,rfl,rfl,rfl,by rw[Qn,Bf];exact hl,by simpa using rv⟩) (fun b u z=>by have z':(none:Option HO)=some u:=z;cases z') (fun b z=>absurd rfl z) fun z=>absurd rfl z
 | none=>
  refine core (fun b=>if b=a then some (.eE { cls:=.type "list",data:=.seq vs.toArray } (.lst (ns.map V.int)))else none) (fun b=>?_) (.inl (.inr ⟨{ cls:=.type "list",data:=.seq vs.toArray },Qf rfl⟩)) (fun b u z=>?_) (fun b z=>?_) fun _=>hk
  ·by_cases hb:b=a
   ·exact .inr ⟨_,_,Qf hb⟩
   ·exact .inl (Qi hb)
  ·by_cases hb:b=a
   ·have z':=(Qf hb).symm.trans z
    cases z'
    subst hb
    exact⟨ha,by rw[Qc];exact hl,vs,_,rv,ha⟩
   ·have z':=(Qi hb).symm.trans z
    cases z'
  ·by_cases hb:b=a
   ·exact hb
   ·exact absurd (Qi hb) z
end L2
namespace L2
open PySem PySem.Spec PyProof.Rows
end L2
namespace L2
open PySem PySem.Spec PyProof.Rows
variable {A:Around}{C a b c f:Addr}{H H':Hp}{N' ps:List Str}{P prog:Program}{Q:Value->Shared->Prop}{X:Cx}{cells:List (Str×Addr)}{elt iter:Expr}{env:Env}{fd:FuncData}{h h':Heap}{i lo n:Nat}{ifs:List Expr}{ai:List (List Key×V)}{o:Option V}{pins:List (Addr×Obj)}{pos:Pos}{qual x y:Str}{s:Shared}{scope:Scope}{st:Stmt}{pW:List (TE×TE)}{u:Value}{v:V}{w:World}{xs:List (List Key×Addr×Value)}{σ:St}
def pX (s:Stmt):Arguments:=match s with
 | .FunctionDef _ a _ _ _ _ _ _ _ _=>a
 | _=>{ posonlyargs:=[],args:=[],vararg:=none,kwonlyargs:=[],kw_defaults:=[],kwarg:=none,defaults:=[] }
def jw (s:Stmt):List Stmt:=match s with
 | .FunctionDef _ _ b _ _ _ _ _ _ _=>b
 | _=>[]
def bD (s:Stmt):Scope:=match s with
 | .FunctionDef _ _ _ _ _ _ sc _ _ _=>sc
 | _=>{ kind:=.function,names:=[],isGenerator:=false,isCoroutine:=false }
abbrev jx:mi:=fun _ _ _ _ _ _=>False
abbrev E0:XK:=fun _ _ _=>False
def Bg:yl jx X E0:=fun _ _ _ _ _ _ _ h=>h.elim
structure mr (K:PySem.W.Frag) (x qual:Str) (st:Stmt) (f:Addr) (fd:FuncData):Prop where
 ex:∃ (oc:Value) (od:Option Addr) (kV doc pm:Value) (an:Option Addr) (bS ct:Value) (nN:Array (Option Value)),
  fd=PySem.W.fnOf x qual (pX st) (jw st) (bD st) .none kV doc pm an bS ct/\K.lookup f=some ⟨oc,od,.func fd,nN⟩/\PySem.W.codeIn K bS qual=true
 kp:PySem.W.keepIn K (.ref f)=true
section
variable {P:Program}{w:World}{K:PySem.W.Frag}{mg:Str->Option Value}{base:Heap}
theorem mr.ok{N:List Str}{k:Nat}{sp:Sp}(F:mr K x qual st f fd)(S:aj N ps (bD st))(len:∀ vs H Q E,sp vs H Q E->vs.length=ps.length)
  (mj:∀ (bS:Value) (A:Around) (outer:List Env) (s:Shared) (H:Hp) (vs:List V) (Q:VK) (E:XK),aS k (A.deeper (envOfC qual (bD st) s.heap.objs.size f bS))->sp vs H Q E->
    ∃ t,gm (lO jx P w K mg base N qual (bD st) f bS A outer s H E).iW (jw st) t/\t { nx:=fun _ H'=>Q .aK H',rt:=Q } (start N vs) H):dS P w K mg base jx (k+1) f fd ps sp:=by
 obtain⟨oc,od,kV,doc,pm,an,bS,ct,nN,rfl,lk,gS⟩:=F.ex
 refine E4 lk gS S len fun A outer s H vs Q E hr jP=>?_
 obtain⟨t,h,q⟩:=mj bS A outer s H vs Q E hr jP
 exact⟨t,h.iW,q⟩
theorem mr.binds(F:mr K x qual st f fd)
  (h:∀ (kV doc pm:Value) (an:Option Addr) (bS ct:Value) (us:List Value),us.length=ps.length->bindArgs (PySem.W.fnOf x qual (pX st) (jw st) (bD st) .none kV doc pm an bS ct) ⟨us,[]⟩=pure (ps.zip us)):oy K fd ps []:=by
 obtain⟨oc,od,kV,doc,pm,an,bS,ct,nN,rfl,lk,gS⟩:=F.ex
 exact .all (h kV doc pm an bS ct)
def Fe{oc:Value}{od an:Option Addr}{nN:Array (Option Value)}{kV doc pm bS ct:Value}(l:K.lookup f=some ⟨oc,od,.func (PySem.W.fnOf x qual (pX st) (jw st) (bD st) .none kV doc pm an bS ct),nN⟩)
  (c:PySem.W.codeIn K bS qual=true) (k:PySem.W.keepIn K (.ref f)=true):mr K x qual st f (PySem.W.fnOf x qual (pX st) (jw st) (bD st) .none kV doc pm an bS ct):=⟨⟨oc,od,kV,doc,pm,an,bS,ct,nN,rfl,l,c⟩,k⟩
end
def rG{k:Nat}(hr:aS k A):A.units+1<cLine:=Jw (Nat.add_le_add_left (by decide:1<=64) _) hr.units
def lP(h:n<=1000):n<sizeLine:=Jw h (by decide)
section
variable {X:Cx}
def pv(i:Nat){pos:Pos}(hN:X.N[i]? = some x:=by rfl)(hv:tO X.env.scope x:=by first|exact Or.inl rfl|exact Or.inr (Or.inl rfl)|exact Or.inr (Or.inr rfl))(hd:(x==("__debug__":Str))=false:=by decide)
  (gS:(x==("__classdict__":Str))=false:=by decide):PE X (.Name x pos) (eR i):=LP hN hv hd gS
end
section
variable {κ:Type}[DecidableEq κ]
def fK (ai:List (κ×V))(k:κ):Option V:=(ai.find? fun kv=>decide (kv.1=k)).map (·.2)
def fm (ai:List (κ×V))(k:κ)(v:V):List (κ×V):=
 if(ai.any fun kv=>decide (kv.1=k))=true then ai.map (fun kv=>if kv.1=k then(kv.1,v)else kv)else ai++[(k,v)]
def vh{p:κ×V}{r:List (κ×V)}{k:κ}(e:p.1=k):fK (p::r) k=some p.2:=by simp[fK,JD,e]
def vi{p:κ×V}{r:List (κ×V)}{k:κ}(e:¬ p.1=k):fK (p::r) k=fK r k:=by simp[fK,JD,e]
def Bh(k:κ):∀ ai:List (κ×V),(ai.any fun kv=>decide (kv.1=k))=(fK ai k).isSome
 | []=>rfl
 | p::r=>by
  rw[JG]
  by_cases e:p.1=k
  ·simp only[vh e,Qt e,Bool.true_or,Option.isSome_some]
  ·rw[vi e,QC e,Bool.false_or];exact Bh k r
def yu(ai:List (κ×V))(k:κ)(v:V):(fm ai k v).length<=ai.length+1:=by
 unfold fm
 split
 ·rw[Qc];omega
 ·rw[Qm,Zb,Jg];omega
def NN{ai:List (κ×V)}{k:κ}(v:V)(h:fK ai k=none):fm ai k v=ai++[(k,v)]:=by
 unfold fm
 rw[Bh,h]
 exact Qi (by decide)
def kQ.fq{u:Option Value}(r:kQ o u):o.isSome=u.isSome:=by
 cases o with
 | none=>cases u with
  | none=>rfl
  | some _=>exact(show False from r).elim
 | some _=>cases u with
  | none=>exact(show False from r).elim
  | some _=>rfl
def kQ.getD{u:Option Value}{d:V}{d':Value}(r:kQ o u)(rd:bC d d'):bC (o.getD d) (u.getD d'):=by
 cases o with
 | none=>cases u with
  | none=>exact rd
  | some _=>exact(show False from r).elim
 | some _=>cases u with
  | none=>exact(show False from r).elim
  | some _=>exact r
def KV.val{ai:List (κ×V)}{vs:List (κ×Value)}(r:KV ai vs)(k:κ):kQ (fK ai k) (valueAt vs k):=by
 unfold KV at r
 induction r with
 | nil=>exact True.intro
 | @cons p q ps qs h t ih=>
  obtain⟨h1,h2⟩:=h
  by_cases e:p.1=k
  ·have e':q.1=k:=h1.symm.trans e
   have b:valueAt (q::qs) k=some q.2:=by simp[valueAt,JD,e']
   rw[vh e,b];exact h2
  ·have e':¬ q.1=k:=fun z=>e (h1.trans z)
   have b:valueAt (q::qs) k=valueAt qs k:=by simp[valueAt,JD,e']
   rw[vi e,b];exact ih
def KV.any{ai:List (κ×V)}{vs:List (κ×Value)}(r:KV ai vs)(k:κ):(ai.any fun kv=>decide (kv.1=k))=vs.any fun kv=>decide (kv.1=k):=by
 unfold KV at r
 induction r with
 | nil=>rfl
 | cons h t ih=>rw[JG,JG,ih,h.1]
def KV.rH{ai:List (κ×V)}{vs:List (κ×Value)}(r:KV ai vs)(k:κ){y:V}(ry:bC y u) :
  KV (ai.map fun kv=>if kv.1=k then(kv.1,y)else kv) (vs.map fun kv=>if kv.1=k then(kv.1,u)else kv):=by
 unfold KV at r ⊢
 induction r with
 | nil=>exact .nil
 | @cons p q ps qs h t ih=>
  rw[QI,QI]
  refine .cons ?_ ih
  obtain⟨h1,h2⟩:=h
  by_cases e:p.1=k
  ·rw[Qf e,Qf (h1.symm.trans e)];exact⟨h1,ry⟩
  ·rw[Qi e,Qi (fun z=>e (h1.trans z))];exact⟨h1,h2⟩
def KV.put{ai:List (κ×V)}{vs:List (κ×Value)}(r:KV ai vs)(k:κ){y:V}(ry:bC y u):KV (fm ai k y) (stored vs k u):=by
 unfold fm stored
 rw[r.any k]
 by_cases e:(vs.any fun kv=>decide (kv.1=k))=true
 ·rw[Qf e,Qf e];exact r.rH k ry
 ·rw[Qi e,Qi e];exact Paired.snoc r ⟨rfl,ry⟩
def KV.length{ai:List (κ×V)}{vs:List (κ×Value)}(r:KV ai vs):ai.length=vs.length:=Jm r
end
def rJ{k:Key}(r:bC (kV k) u):(gM P w).is k u=true:=by
 cases k with
 | inl i=>obtain⟨t,e⟩:=(show ∃ t,u=Value.int i t from r);subst e;exact LF P w i t
 | inr x=>obtain⟨t,e⟩:=(show ∃ t,u=Value.str x t from r);subst e;exact LG P w x t
theorem Ff:∀ {ks:List Key} {us:List Value},bq (ks.map kV) us->ItemsAre (gM P w) ks us
 | [],_,r=>by rw[V9]at r;cases r;exact .nil
 | k::ks,_,r=>by
  rw[QI]at r
  cases r with
  | cons h t=>exact .cons (rJ h) (Ff t)
abbrev KT (H:Hp):List (List Key×V)->List (List Key×Addr×Value)->Prop:=Paired fun p q=>p.1=q.1/\H q.2.1=some (.tup (p.1.map kV))/\bC p.2 q.2.2
def KT.val(r:KT H ai xs)(k:List Key):kQ (fK ai k) ((atKey xs k).map (·.2)):=by
 induction r with
 | nil=>exact True.intro
 | @cons p q ps qs h t ih=>
  obtain⟨h1,_,h2⟩:=h
  by_cases e:p.1=k
  ·have e':q.1=k:=h1.symm.trans e
   have b:atKey (q::qs) k=some q.2:=by simp[atKey,JD,e']
   rw[vh e,b];exact h2
  ·have e':¬ q.1=k:=fun z=>e (h1.trans z)
   have b:atKey (q::qs) k=atKey qs k:=by simp[atKey,JD,e']
   rw[vi e,b];exact ih
def KT.rH(r:KT H ai xs)(k:List Key){y:V}(ry:bC y u) :
  KT H (ai.map fun kv=>if kv.1=k then(kv.1,y)else kv) (xs.map (putAt k u)):=by
 induction r with
 | nil=>exact .nil
 | @cons p q ps qs h t ih=>
  rw[QI,QI]
  refine .cons ?_ ih
  obtain⟨h1,h2,h3⟩:=h
  unfold putAt
  by_cases e:p.1=k
  ·rw[Qf e,Qf (h1.symm.trans e)];exact⟨h1,h2,ry⟩
  ·rw[Qi e,Qi (fun z=>e (h1.trans z))];exact⟨h1,h2,h3⟩
def KT.put(r:KT H ai xs)(k:List Key){y:V}(hb:H b=some (.tup (k.map kV)))(ry:bC y u) :
  KT H (fm ai k y) (storedH xs k b u):=by
 have e:(ai.any fun kv=>decide (kv.1=k))=(atKey xs k).isSome:=by
  rw[Bh,(r.val k).fq,Option.isSome_map]
 unfold fm storedH
 rw[e]
 by_cases q:(atKey xs k).isSome=true
 ·rw[Qf q,Qf q];exact r.rH k ry
 ·rw[Qi q,Qi q];exact Paired.snoc r ⟨rfl,hb,ry⟩
def KT.keeps(r:KT H ai xs)(ht:∀ b ys,H b=some (.tup ys)->H' b=some (.tup ys)):KT H' ai xs:=
 Paired.rh r fun _ _ z=>⟨z.1,ht _ _ z.2.1,z.2.2⟩
section
variable {P:Program}{w:World}{H:Hp}{h:Heap}{a:Addr}
def Fg{u:HO}(ok:cV P w H h)(e:Rd H a u):cU P w H h a u:=e.ok ok
def rK{ai:List (Key×V)}(ok:cV P w H h)(e:Rd H a (.dK ai)):ai.length<=sizeLine/\(a==sysModules)=false/\∃ vs,KV ai vs/\h.DictOf (gM P w) a vs:=
 show cU P w H h a (.dK ai)from Fg ok e
def Fh{ai:List (Key×V)}(ok:cV P w H h)(e:H a=some (.dK ai)):ai.length<=sizeLine/\(a==sysModules)=false/\∃ vs,KV ai vs/\h.DictOf (gM P w) a vs:=rK ok (.inl e)
def rL{ks:List Key}(ok:cV P w H h)(e:H a=some (.tup (ks.map kV))):(tupleKind (gM P w)).is h ks a:=by
 obtain⟨_,aq,r,o,h1,h2,⟨n,h3⟩,_⟩:=(show cU P w H h a (.tup (ks.map kV))from ok a _ e)
 exact⟨o,aq.toArray,n,h1,h2,h3,by simpa using Ff r⟩
def rM(ok:cV P w H h)(e:Rd H a (.dT ai)):ai.length<=sizeLine/\(a==sysModules)=false /\
  ∃ xs,KT H ai xs/\h.DictOfH (tupleKind (gM P w)) a xs:=by
 obtain⟨z,y,xs,r,o,es,ep,h1,h2,h3,h4,h5⟩:=(show cU P w H h a (.dT ai)from Fg ok e)
 refine⟨z,y,xs,r,o,es,ep,h1,h2,h3,h4,fun x hx=>?_,h5⟩
 have all:∀ {l:List (List Key×V)} {m:List (List Key×Addr×Value)},KT H l m->∀ x∈m,(tupleKind (gM P w)).is h x.1 x.2.1:=by
  intro l m q
  induction q with
  | nil=>intro x hx;exact nomatch hx
  | @cons p q ps qs hq t ih=>
   intro x hx
   rcases Qs.mp hx with e|hx
   ·subst e
    exact rL ok (by rw[<- hq.1];exact hq.2.1)
   ·exact ih x hx
 exact all r x hx
def vj(ok:cV P w H h)(e:H a=some (.dT ai)):ai.length<=sizeLine/\(a==sysModules)=false /\
  ∃ xs,KT H ai xs/\h.DictOfH (tupleKind (gM P w)) a xs:=rM ok (.inl e)
end
def iY (H:Hp)(a:Addr)(y:V)(r:Option V):Prop:=
 (∃ ai k,Rd H a (.dK ai)/\y=kV k/\r=fK ai k)\/∃ ai k b,Rd H a (.dT ai)/\y=.ref b/\H b=some (.tup (k.map kV))/\r=fK ai k
def oD (H:Hp)(a:Addr)(y v:V)(H':Hp):Prop:=
 (∃ ai k,H a=some (.dK ai)/\y=kV k/\ai.length<sizeLine/\H'=upd H a (.dK (fm ai k v))) \/
 ∃ ai k b,H a=some (.dT ai)/\y=.ref b/\H b=some (.tup (k.map kV))/\ai.length<sizeLine/\H'=upd H a (.dT (fm ai k v))
def iY.k{ai:List (Key×V)}{k:Key}(e:H a=some (.dK ai)):iY H a (kV k) (fK ai k):=.inl ⟨ai,k,.inl e,rfl,rfl⟩
def iY.t{k:List Key}(e:H a=some (.dT ai))(eb:H b=some (.tup (k.map kV))):iY H a (.ref b) (fK ai k):=.inr ⟨ai,k,b,.inl e,rfl,eb,rfl⟩
def oD.k{ai:List (Key×V)}{k:Key}(e:H a=some (.dK ai))(hl:ai.length<sizeLine):oD H a (kV k) v (upd H a (.dK (fm ai k v))):=.inl ⟨ai,k,e,rfl,hl,rfl⟩
def oD.t{k:List Key}(e:H a=some (.dT ai))(eb:H b=some (.tup (k.map kV)))(hl:ai.length<sizeLine) :
  oD H a (.ref b) v (upd H a (.dT (fm ai k v))):=.inr ⟨ai,k,b,e,rfl,eb,hl,rfl⟩
section
variable {X:Cx}{pins:List (Addr×Obj)}{σ:St}{H:Hp}{s:Shared}{a:Addr}{y v:V}{u r:Value}{o:Option V}{A:Around}{E:Value->Shared->Prop}
def Inv.Fi(I:Inv X pins σ H s):sysModules<s.heap.objs.size:=by
 have h:mainGlobals<s.heap.objs.size:=(I.mod.glob.keeps I.bk).lt
 exact YW (by decide) h
def NO(hu:A.units+1<cLine)(I:Inv X pins σ H s)(g:iY H a y (some v))(ry:bC y u)(h:∀ w' s',Inv X pins σ H s'->bC v w'->Q w' s') :
  wpAny (model X.prog X.w) A (getItem (.ref a) u) Q E s:=by
 rcases g with⟨ai,k,e,ey,l⟩|⟨ai,k,b,e,ey,eb,l⟩
 ·subst ey
  obtain⟨z,hd,vs,rel,dd⟩:=rK I.az e
  obtain⟨w',hw,jR⟩:=kQ.some_of (v:=v) (o:=valueAt vs k) (by rw[l];exact rel.val k)
  exact wpAny_getItem_of (rJ ry) dd.mapOf hw (h w' _ (I.tok _) jR)
 ·subst ey
  cases (show u=Value.ref b from ry)
  obtain⟨z,hd,xs,rel,dd⟩:=rM I.az e
  obtain⟨w',hw,jR⟩:=kQ.some_of (v:=v) (o:=(atKey xs k).map (·.2)) (by rw[l];exact rel.val k)
  obtain⟨p,hp,NP⟩:=Qx.mp hw
  refine wpAny_getItem_heap (ZT hu) (rL I.az eb) dd hp ?_
  rw[NP]
  exact h w' _ (I.tok _) jR
def NQ(hu:A.units+1<cLine)(I:Inv X pins σ H s)(g:iY H a y o)(ry:bC y u)(h:∀ s',Inv X pins σ H s'->Q (.bool (!o.isSome)) s') :
  wpAny (model X.prog X.w) A (compareOp .NotIn u (.ref a)) Q E s:=by
 rcases g with⟨ai,k,e,ey,l⟩|⟨ai,k,b,e,ey,eb,l⟩
 ·subst ey
  obtain⟨z,hd,vs,rel,dd⟩:=rK I.az e
  refine wpAny_notIn_of (rJ ry) hd dd.mapOf ?_
  rw[<- (rel.val k).fq,<- l]
  exact h _ (I.tok _)
 ·subst ey
  cases (show u=Value.ref b from ry)
  obtain⟨z,hd,xs,rel,dd⟩:=rM I.az e
  refine wpAny_notIn_heap (ZT hu) (rL I.az eb) hd dd ?_
  have q:=(rel.val k).fq
  rw[Option.isSome_map]at q
  rw[<- q,<- l]
  exact h _ (I.tok _)
def vk{t':Nat}{ob:HO}(I:Inv X pins σ H s)(mu:uX (H a))(hs:Heap.SameBut a s.heap h')(he:∃ q,h'.get? a=some q)(new:cU X.prog X.w (upd H a ob) h' a ob) :
  Inv X pins σ (upd H a ob) { s with heap:=h',toks:=t' }:=
 I.write (x:=a) (e:=a) mu (.inl rfl) (fun b q hb z=>(hs.2 b hb).trans z) he new
def Fj{ai:List (Key×V)}{vs:List (Key×Value)}(z:ai.length<=sizeLine)(hd:(a==sysModules)=false)(rel:KV ai vs)(dd:h'.DictOf (gM P w) a vs) :
  cU P w H' h' a (.dK ai):=⟨z,hd,vs,rel,dd⟩
def NR{Q:Unit->Shared->Prop}(hu:A.units+1<cLine)(I:Inv X pins σ H s)(g:oD H a y v H')(ry:bC y u)(rv:bC v r)(h:∀ s',Inv X pins σ H' s'->Q () s') :
  wpAny (model X.prog X.w) A (setItem (.ref a) u r) Q E s:=by
 rcases g with⟨ai,k,e,ey,l,eH⟩|⟨ai,k,b,e,ey,eb,l,eH⟩
 ·subst ey eH
  obtain⟨z,hd,vs,rel,dd⟩:=Fh I.az e
  have hz:vs.length<=sizeLine:=by rw[<- rel.length];exact z
  have hl:(fm ai k v).length<=sizeLine:=by have:=yu ai k v;omega
  refine wpAny_setItem_pairs (hsz:=hz) (rJ ry) dd fun h' mv hs=>h _ ?_
  have he:∃ q,h'.get? a=some q:=let ⟨q,_,_,hq,_⟩:=mv;⟨q,hq⟩
  exact vk I (by rw[e];exact True.intro) hs he (Fj hl hd (rel.put k rv) mv)
 ·subst ey eH
  cases (show u=Value.ref b from ry)
  obtain⟨z,hd,xs,rel,dd⟩:=vj I.az e
  have hz:xs.length<=sizeLine:=by rw[<- Jm rel];exact z
  have hl:(fm ai k v).length<=sizeLine:=by have:=yu ai k v;omega
  refine wpAny_setItem_heap (hsz:=hz) (ZT hu) (rL I.az eb) dd fun h' mv hs=>h _ ?_
  obtain⟨q,es,ep,hq,h2,h3,h4,_,h5⟩:=mv
  refine vk I (by rw[e];exact True.intro) hs ⟨q,hq⟩ ⟨hl,hd,_,(rel.put k eb rv).keeps fun c ys ec=>?_,q,es,ep,hq,h2,h3,h4,h5⟩
  rw[bc (Aq ec e (fun z=>nomatch z))]
  exact ec
end
def Bi (i:Expr):Prop:=∀ ov iv,subscripted i false ov iv=operate [ov,iv] (getItem ov iv)
def NS{E:Value->Shared->Prop}{value slice:Expr}{T id:String}
  (hl:typeLookup (.type T) "__getitem__" = pure (some (.builtin id))) (hs:Bi slice)
  (h:wpAny (model prog w) A (eval value env) (fun o aT=>wpAny (model prog w) A (eval slice env) (fun i fj=>fj.TypeIs o T/\wpAny (model prog w) A (getItem o i) Q E fj) E aT) E s) :
  wpAny (model prog w) A (eval (.Subscript value slice pos) env) Q E s:=by
 refine Subscript_ (Zs h (fun o aT oE=>Zs oE (fun i fj mx=>?_) fun _ _ x=>x) fun _ _ x=>x)
 obtain⟨hT,mx⟩:=mx
 unfold subscriptTail
 refine Qa ?_
 rw[getitemInPython_of_ne hT.not_modules]
 refine Qa (YI hT hl ?_)
 have fin:wpAny (model prog w) A (subscripted slice false o i) (fun r gV=>wpAny (model prog w) A (letTemporaryGo value o r >>= fun _=>pure r) Q E gV) E fj:=by
  rw[hs o i]
  exact wpAny_operating (Zs mx (fun r gV oF=>Qa (wpAny_letTemporaryGo (Qd oF))) fun _ _ x=>x)
 first
  | exact Qd (Qa fin)
  | exact Qa (Qd (Qa fin))
  | exact Qa fin
def NT{y:V}(I:Inv X pins σ H s)(g:iY H a y o):s.TypeIs (.ref a) "dict":=by
 rcases g with⟨ai,k,e,_,_⟩|⟨ai,k,b,e,_,_,_⟩
 ·obtain⟨_,_,vs,_,dd⟩:=rK I.az e
  exact dd.typeIs
 ·obtain⟨_,_,xs,_,dd⟩:=rM I.az e
  exact dd.typeIs
def NU (td ty:TE):TE:=fun σ H Q=>td σ H fun x H1=>ty σ H1 fun y H2=>∃ a v,x=.ref a/\iY H2 a y (some v)/\Q v H2
def NV (ty td:TE):TE:=fun σ H Q=>ty σ H fun y H1=>td σ H1 fun x H2=>∃ a o,x=.ref a/\iY H2 a y o/\Q (.bl (!o.isSome)) H2
def NW (td ty tv:TE):TS:=fun D σ H=>tv σ H fun v H1=>td σ H1 fun x H2=>ty σ H2 fun y H3=>∃ a H4,x=.ref a/\oD H3 a y v H4/\D.nx σ H4
section
variable {X:Cx}{o i e value:Expr}{pos pos' my:Pos}{td ty tv:TE}
def NX(hu:X.A.units+1<cLine)(ho:PE X o td)(hi:PE X i ty)(hs:Bi i):PE X (.Subscript o i pos) (NU td ty):=by
 intro pins s σ H Q I h
 refine NS PySem.F.slot_dict_getitem.lookup hs (aV (ho pins s σ H _ I h) fun u s1 ⟨x,H1,I1,rx,q1⟩=>aV (hi pins s1 σ H1 _ I1 q1) fun iv s2 ah=>?_)
 obtain⟨y,H2,I2,ry,a,v,ex,g,q2⟩:=ah
 subst ex
 obtain rfl:u=Value.ref a:=rx
 exact⟨NT I2 g,NO hu I2 g ry fun w' s3 I3 jR=>⟨v,H2,I3,jR,q2⟩⟩
def NY(hu:X.A.units+1<cLine)(hi:PE X i ty)(ho:PE X o td):PC X .NotIn i o (NV ty td):=by
 intro pins s σ H Q I h
 refine aV (hi pins s σ H _ I h) fun iv s1 ⟨y,H1,I1,ry,q1⟩=>aV (ho pins s1 σ H1 _ I1 q1) fun u s2 ah=>?_
 obtain⟨x,H2,I2,rx,a,ov,ex,g,q2⟩:=ah
 subst ex
 obtain rfl:u=Value.ref a:=rx
 exact NQ hu I2 g ry fun s3 I3=>⟨.bl (!ov.isSome),H2,I3,rfl,q2⟩
def NZ(hu:X.A.units+1<cLine)(ho:PE X o td)(hi:PE X i ty)(hv:PE X value tv)(hs:swapsWith value (some (.Subscript o i pos')) pos.line X.env=pure false) :
  PS X (.Assign [.Subscript o i pos'] value pos) (NW td ty tv):=by
 intro pins s σ H D I h
 refine wpAny_Assign_Subscript (aV (hv pins s σ H _ I h) fun r s1 ⟨v,H1,I1,rv,q1⟩=>aV (ho pins s1 σ H1 _ I1 q1) fun u s2 ⟨x,H2,I2,rx,q2⟩=>aV (hi pins s2 σ H2 _ I2 q2) fun iv s3 ⟨y,H3,I3,ry,a,H4,ex,g,q3⟩=>?_) hs
 subst ex
 obtain rfl:u=Value.ref a:=rx
 exact NR hu I3 g ry rv fun s4 I4=>⟨σ,H4,I4,q3⟩
end
def N0(h:Heap)(hb:sysModules<h.objs.size):cU P w H (h.push { cls:=.type "dict",data:=.dict #[] }) h.objs.size (.dK []):=
 ⟨QL _,ZM.mpr (Jr (QM hb)),[],.nil,Heap.DictOf.new h⟩
def N1(h:Heap)(hb:sysModules<h.objs.size):cU P w H (h.push { cls:=.type "dict",data:=.dict #[] }) h.objs.size (.dT []):=
 ⟨QL _,ZM.mpr (Jr (QM hb)),[],.nil,_,#[],0,Qv _ rfl,⟨rfl,rfl,rfl⟩,rfl,rfl,JL⟩
def N2:TE:=fun _ H Q=>∀ p,H p=none->Q (.ref p) (upd H p (.dT []))
section
variable {X:Cx}{pos:Pos}
def N3:PE X (.Dict [] [] pos) N2:=fun pins s σ H Q I h=>
 wpAny_Dict_empty ⟨.ref s.heap.objs.size,_,I.laid (a:=s.heap.objs.size) (o:=.dT []) (t':=s.toks) (fun _ _ q=>Qe _ q) (Qh _) (N1 s.heap I.Fi),rfl,h _ (I.az.fresh (Qh _))⟩
end
def Bj:List (TE×TE)->St->Hp->(List (V×V)->Hp->Prop)->Prop
 | [],_,H,Q=>Q [] H
 | (tk,tv)::r,σ,H,Q=>tk σ H fun x H1=>tv σ H1 fun y H2=>Bj r σ H2 fun ps H3=>Q ((x,y)::ps) H3
abbrev VV:List (V×V)->List (Value×Value)->Prop:=Paired fun p q=>bC p.1 q.1/\bC p.2 q.2
def yv (X:Cx)(pos:Pos)(keys:List (Option Expr))(values:List Expr)(pW:List (TE×TE)):Prop:=
 ∀ (pins:List (Addr×Obj)) (s:Shared) (σ:St) (H:Hp) (Q:List (V×V)->Hp->Prop),Inv X pins σ H s->Bj pW σ H Q->
  wpAny (model X.prog X.w) X.A (evalPairs (pairTrees keys values X.env pos)) (fun vs s'=>∃ ps H',Inv X pins σ H' s'/\VV ps vs/\Q ps H') X.xe s
def N4:yv X pos [] [] []:=fun pins s σ H Q I h=>pairTrees_nil_walk ⟨[],H,I,.nil,h⟩
def Fl{k v:Expr}{ks:List (Option Expr)}{vs:List Expr}{tk tv:TE}(hk:PE X k tk)(hv:PE X v tv)(hr:yv X pos ks vs pW) :
  yv X pos (some k::ks) (v::vs) ((tk,tv)::pW):=fun pins s σ H Q I h=>
 pairTrees_cons_walk (aV (hk pins s σ H _ I h) fun u s1 ⟨x,H1,I1,rx,q1⟩=>aV (hv pins s1 σ H1 _ I1 q1) fun w2 s2 ⟨y,H2,I2,ry,q2⟩=>
  aV (hr pins s2 σ H2 _ I2 q2) fun ws s3 ⟨ps,H3,I3,rel,q3⟩=>⟨(x,y)::ps,H3,I3,.cons ⟨rx,ry⟩ rel,q3⟩)
def rN (ai more:List (Key×V)):List (Key×V):=more.foldl (fun acc kv=>fm acc kv.1 kv.2) ai
def KV.merge:∀ {more:List (Key×V)} {rs:List (Key×Value)} {ai:List (Key×V)} {vs:List (Key×Value)},KV more rs->KV ai vs->KV (rN ai more) (merged vs rs):=by
 intro more rs ai vs r
 unfold KV at r
 induction r generalizing ai vs with
 | nil=>intro q;exact q
 | @cons p q ps qs h t ih=>
  intro r0
  have e:KV (fm ai p.1 p.2) (stored vs q.1 q.2):=by
   have:=r0.put p.1 h.2
   rw[<- h.1];exact this
  exact ih e
theorem Fm:∀ (more ai:List (Key×V)),(rN ai more).length<=ai.length+more.length
 | [],ai=>by show ai.length<=ai.length+0;omega
 | p::r,ai=>by
  have h1:=Fm r (fm ai p.1 p.2)
  have h2:=yu ai p.1 p.2
  show(rN (fm ai p.1 p.2) r).length<=_
  rw[Zb];omega
def Fn{P:Program}{w:World}:∀ {ai:List (Key×V)} {ws:List (Value×Value)},VV (ai.map fun kv=>(kV kv.1,kv.2)) ws->∃ rs,Carries (gM P w) ws rs/\KV ai rs
 | [],_,r=>by rw[V9]at r;cases r;exact⟨[],True.intro,.nil⟩
 | p::ai,_,r=>by
  rw[QI]at r
  cases r with
  | @cons a b as bs h t=>
   obtain⟨rs,c,q⟩:=Fn (P:=P) (w:=w) t
   obtain⟨b1,b2⟩:=b
   exact⟨(p.1,b2)::rs,⟨rJ h.1,rfl,c⟩,.cons ⟨rfl,h.2⟩ q⟩
def N5 (pW:List (TE×TE)):TE:=fun σ H Q=>∀ p,H p=none->Bj pW σ (upd H p (.dK [])) fun ps H2=>H2 p=some (.dK [])/\∃ ai:List (Key×V),ps=ai.map (fun kv=>(kV kv.1,kv.2))/\ai.length<=15/\Q (.ref p) (upd H2 p (.dK (rN [] ai)))
def N6{keys:List (Option Expr)}{values:List Expr}(h:yv X pos keys values pW)(df:keys.all (·.isSome)=true)(hl:keys.length=values.length)(h0:keys ≠ [])
  (N7:keys.length<=15):PE X (.Dict keys values pos) (N5 pW):=by
 intro pins s σ H Q I q
 have hn:=I.az.fresh (Qh s.heap.objs.size)
 have I1:=I.laid (a:=s.heap.objs.size) (o:=.dK []) (h':=s.heap.push { cls:=.type "dict",data:=.dict #[] }) (t':=s.toks) (fun _ _ q=>Qe _ q) (Qh _) (N0 s.heap I.Fi)
 refine wpAny_Dict_walk (knd:=gM X.prog X.w) df hl h0 N7 (aV (h pins _ σ _ _ I1 (q _ hn)) fun ws s2 ah=>?_)
 obtain⟨ps,H2,I2,rel,e,ai,ep,lk,q2⟩:=ah
 subst ep
 obtain⟨rs,c,rk⟩:=Fn (P:=X.prog) (w:=X.w) rel
 obtain⟨z,hd,N8,r0,dd⟩:=Fh I2.az e
 cases r0
 refine⟨rs,c,dd,fun h' mv hs=>⟨.ref s.heap.objs.size,_,?_,rfl,q2⟩⟩
 have hz:(rN [] ai).length<=sizeLine:=by
  have h1:=Fm ai []
  rw[Jg]at h1
  rw[ZP];omega
 have he:∃ q,h'.get? s.heap.objs.size=some q:=let ⟨q,_,_,hq,_⟩:=mv;⟨q,hq⟩
 exact vk I2 (by rw[e];exact True.intro) hs he (Fj hz hd (rk.merge .nil) mv)
structure M1 (X:Cx) (o:Expr) (m:Str) (apos:Pos) (e:Expr) (ak:Pos):Prop where
 base:attributeBase o m X.env (eval o X.env)=eval o X.env
 di:((backTo ak (starEach [e] X.env)).all (fun x=>!x.1)&&(backToKw ak (keywordEach [] X.env)).all (fun x=>x.1.isSome)
  && decide (([e]:List Expr).length+([]:List Keyword).length+(if([]:List Keyword).isEmpty then 0 else 1)<30))=true
 line:(apos.endLine==ak.line)=true
 trees:backTo ak (starEach [e] X.env)=[(false,eval e X.env)]
structure M2 (X:Cx) (o:Expr) (m:Str) (apos:Pos) (e f:Expr) (ak:Pos):Prop where
 base:attributeBase o m X.env (eval o X.env)=eval o X.env
 di:((backTo ak (starEach [e,f] X.env)).all (fun x=>!x.1)&&(backToKw ak (keywordEach [] X.env)).all (fun x=>x.1.isSome)
  && decide (([e,f]:List Expr).length+([]:List Keyword).length+(if([]:List Keyword).isEmpty then 0 else 1)<30))=true
 line:(apos.endLine==ak.line)=true
 trees:backTo ak (starEach [e,f] X.env)=[(false,eval e X.env),(false,eval f X.env)]
def rO (H:Hp)(a:Addr):Prop:=(∃ ai,Rd H a (.dK ai))\/∃ ai,Rd H a (.dT ai)
def yw(I:Inv X pins σ H s)(d:rO H a) :
  s.TypeIs (.ref a) "dict" /\ (∀ b,Value.ref a=.ref b->∃ ob,s.heap.get? b=some ob/\ob.dict=none)/\(a==sysModules)=false:=by
 rcases d with⟨ai,e⟩|⟨ai,e⟩
 ·obtain⟨_,hd,vs,_,dd⟩:=rK I.az e
  refine⟨dd.typeIs,fun b q=>?_,hd⟩
  cases q
  obtain⟨ob,_,_,h1,h2,_⟩:=dd
  exact⟨ob,h1,h2.2.1⟩
 ·obtain⟨_,hd,xs,_,dd⟩:=rM I.az e
  refine⟨dd.typeIs,fun b q=>?_,hd⟩
  cases q
  obtain⟨ob,_,_,h1,h2,_⟩:=dd
  exact⟨ob,h1,h2.2.1⟩
section
variable {X:Cx}{pins:List (Addr×Obj)}{σ:St}{H:Hp}{s:Shared}{a:Addr}{y d:V}{u r:Value}{o:Option V}{A:Around}{E:Value->Shared->Prop}
def N9(hu:A.units+1<cLine)(I:Inv X pins σ H s)(g:iY H a y o)(ry:bC y u)(h:∀ w' s',Inv X pins σ H s'->bC (o.getD .aK) w'->Q w' s') :
  wpAny (model X.prog X.w) A (call (.builtin "dict.get") [.ref a,u]) Q E s:=by
 rcases g with⟨ai,k,e,ey,l⟩|⟨ai,k,b,e,ey,eb,l⟩
 ·subst ey
  obtain⟨z,hd,vs,rel,dd⟩:=rK I.az e
  refine Yi ZR dd.typeIs Jx (Vs _ _) (meets_dict_get (gM X.prog X.w) a (rJ ry) hd) ⟨_,dd.mapOf,h _ _ (I.tok _) ?_⟩
  rw[l]
  exact(rel.val k).getD rfl
 ·subst ey
  cases (show u=Value.ref b from ry)
  obtain⟨z,hd,xs,rel,dd⟩:=rM I.az e
  refine Yi ZR dd.typeIs Jx (Vs _ _) (meetsH_dict_get (tupleKind (gM X.prog X.w)) a b hd) ⟨ZT hu,k,xs,rL I.az eb,dd,h _ _ (I.tok _) ?_⟩
  rw[l]
  exact(rel.val k).getD rfl
def N_(hu:A.units+1<cLine)(I:Inv X pins σ H s)(g:iY H a y o)(ry:bC y u)(rd:bC d r)(h:∀ w' s',Inv X pins σ H s'->bC (o.getD d) w'->Q w' s') :
  wpAny (model X.prog X.w) A (call (.builtin "dict.get") [.ref a,u,r]) Q E s:=by
 rcases g with⟨ai,k,e,ey,l⟩|⟨ai,k,b,e,ey,eb,l⟩
 ·subst ey
  obtain⟨z,hd,vs,rel,dd⟩:=rK I.az e
  refine Yi ZR dd.typeIs Jx (Vt _ _ _) (meets_dict_get_default (gM X.prog X.w) a (rJ ry) hd r) ⟨_,dd.mapOf,h _ _ (I.tok _) ?_⟩
  rw[l]
  exact(rel.val k).getD rd
 ·subst ey
  cases (show u=Value.ref b from ry)
  obtain⟨z,hd,xs,rel,dd⟩:=rM I.az e
  refine Yi ZR dd.typeIs Jx (Vt _ _ _) (meetsH_dict_get_default (tupleKind (gM X.prog X.w)) a b hd r) ⟨ZT hu,k,xs,rL I.az eb,dd,h _ _ (I.tok _) ?_⟩
  rw[l]
  exact(rel.val k).getD rd
end
def Oa (td ty:TE):TE:=fun σ H Q=>td σ H fun x H1=>∃ a,x=.ref a/\rO H1 a/\ty σ H1 fun y H2=>∃ o,iY H2 a y o/\Q (o.getD .aK) H2
def Ob (td ty tx:TE):TE:=fun σ H Q=>td σ H fun x H1=>∃ a,x=.ref a/\rO H1 a/\ty σ H1 fun y H2=>tx σ H2 fun z H3=>∃ o,iY H3 a y o/\Q (o.getD z) H3
section
variable {X:Cx}{o e f:Expr}{apos ak:Pos}{td ty tx:TE}
def Oc(hu:X.A.units+1<cLine)(ho:PE X o td)(he:PE X e ty)(m:M1 X o "get" apos e ak):PE X (.Call (.Attribute o "get" apos) [e] [] ak) (Oa td ty):=by
 intro pins s σ H Q I h
 refine Yj m.base m.di m.line Js ZR VP (aV (ho pins s σ H _ I h) fun u s1 ah=>?_)
 obtain⟨x,H1,I1,rx,a,ex,d,q1⟩:=ah
 subst ex
 obtain rfl:u=Value.ref a:=rx
 obtain⟨t1,t2,_⟩:=yw I1 d
 refine⟨t1,t2,?_⟩
 rw[m.trees]
 refine Z8 rfl (ZY (ZC (aV (he pins s1 σ H1 _ I1 q1) fun iv s2 ⟨y,H2,I2,ry,ov,g,q2⟩=>Jh ?_)))
 exact N9 hu I2 g ry fun w' s3 I3 jR=>⟨_,H2,I3,jR,q2⟩
def Od(hu:X.A.units+1<cLine)(ho:PE X o td)(he:PE X e ty)(hf:PE X f tx)(m:M2 X o "get" apos e f ak):PE X (.Call (.Attribute o "get" apos) [e,f] [] ak) (Ob td ty tx):=by
 intro pins s σ H Q I h
 refine Yj m.base m.di m.line Js ZR VP (aV (ho pins s σ H _ I h) fun u s1 ah=>?_)
 obtain⟨x,H1,I1,rx,a,ex,d,q1⟩:=ah
 subst ex
 obtain rfl:u=Value.ref a:=rx
 obtain⟨t1,t2,_⟩:=yw I1 d
 refine⟨t1,t2,?_⟩
 rw[m.trees]
 refine Z8 rfl (ZY (ZC (aV (he pins s1 σ H1 _ I1 q1) fun iv s2 ⟨y,H2,I2,ry,q2⟩=>
  ZC (aV (hf pins s2 σ H2 _ I2 q2) fun fv s3 ⟨z,H3,I3,rz,ov,g,q3⟩=>Jh ?_))))
 exact N_ hu I3 g ry rz fun w' s4 I4 jR=>⟨_,H3,I4,jR,q3⟩
end
def Oe{R:Result->Shared->Prop}{target:Expr}{it acc:Value}(I:Nat->Shared->Prop)
  (lM:∀ n s,I n s->wpAny (model prog w) A (pyNext it) (fun r aT=>match r with
    | none=>R (.ok .next) aT
    | some v=>wpAny (model prog w) A (letOwnedTupleGo target it v) (fun _ pY=>wpAny (model prog w) A (assign target env v) (fun _ fj=>
      wpAny (model prog w) A (forIn ifs true fun c r=>if r=true then do let ok <- isTrue c env (eval c env);pure (ForInStep.yield ok)else pure (ForInStep.yield r)) (fun ok gV=>
       if ok=true then wpAny (model prog w) A (eval elt env) (fun x oG=>
        wpAny (model prog w) A (call (.builtin "list.append") [acc,x]) (fun _ vm=>∃ m,m<n/\I m vm) (fun _ _=>False) oG) (fun _ _=>False) gV
       else ∃ m,m<n/\I m gV) (fun _ _=>False) fj) (fun _ _=>False) pY) (fun _ _=>False) aT) (fun _ _=>False) s)
  (n:Nat) (h:I n s):codeAny (model prog w) A (.compLoop (.ListComp elt [⟨target,iter,ifs,0⟩] scope pos) 0 it acc env) R s:=by
 refine codeAny_loop rfl I (fun n s hI=>?_) n h
 show wpAny _ A ((compTurn (.ListComp elt [⟨target,iter,ifs,0⟩] scope pos) 0 it acc env).onRaise (fun x=>do noteFrame x env;theTreesLotGoes x)) _ _ s
 refine wpAny_noted ?_
 rw[compTurn_list]
 refine Qa (wpAny_standAt (Qa (Zs (lM n s hI) (fun r aT oE=>?_) fun _ _ h'=>h'.elim)))
 cases r with
 | none=>exact Qd oE
 | some v=>
  refine Qa (Zs oE (fun _ pY vn=>?_) fun _ _ h'=>h'.elim)
  refine Qa (Zs vn (fun _ fj mx=>Qa (Zs mx (fun ok gV oF=>?_) fun _ _ h'=>h'.elim)) fun _ _ h'=>h'.elim)
  cases ok with
  | false=>exact Qd ⟨rfl,oF⟩
  | true=>
   exact Qa (Qa (Zs oF (fun x oG vo=>Qa (Zs vo (fun _ vm vq=>Qd (Qd ⟨rfl,vq⟩)) fun _ _ h'=>h'.elim)) fun _ _ h'=>h'.elim))
def Of{M:Model}{A:Around}{E:Value->Shared->Prop}{globals:Addr}{cl:List (Str×Addr)}{outer:Env}{Q:Env->Shared->Prop}
  (hQ:Q (newEnv scope s.heap.objs.size globals (cellsFrom (s.heap.objs.size+1) scope.names cl) qual none .none (some outer) builtinsNs)
    { s with heap:=pushCells (s.heap.push { cls:=.type "dict",data:=.dict #[] }) scope.names }) :
  wpAny M A (newFunctionEnv scope globals cl [] qual none .none (some outer)) Q E s:=by
 simp only[newFunctionEnv,Option.isSome_some,Zv]
 refine Qa (wpAny_alloc ?_)
 refine Qa (wpAny_layCells _ (fun name kind cells=>by cases Og:kind==NameKind.cell<;>simp[Og]) _ _ _ _ ?_)
 rw[show({ s with heap:=s.heap.push { cls:=.type "dict",data:=.dict #[] } }:Shared).heap.objs.size=s.heap.objs.size+1 from ZJ ..]
 refine Qa ?_
 rw[List.forIn_nil]
 exact Qd (Qd hQ)
def il (cells:List (Str×Addr)):List (Str×NameKind)->List (Str×Addr)->List (Str×Addr)
 | [],acc=>acc
 | (n,k)::r,acc=>if k == .free then(match cells.lookup n with
   | some c=>il cells r ((n,c)::acc)
   | none=>il cells r acc)else il cells r acc
def Fp(h:∀ y∈scope.names,y.2=.free->∃ c,env.cells.lookup y.1=some c):closureFor scope env=pure (il env.cells scope.names []):=by
 unfold closureFor
 have key:∀ (names:List (Str×NameKind)) (acc:List (Str×Addr)),(∀ y∈names,y.2=.free->∃ c,env.cells.lookup y.1=some c)->
   (forIn names acc (fun(x:Str×NameKind) (r:List (Str×Addr))=>(match x with
     | (name,kind)=>if(kind==NameKind.free)=true then do
       let c <- cellOf env name
       pure (ForInStep.yield ((name,c)::r))
      else pure (ForInStep.yield r):Sem (ForInStep (List (Str×Addr))))))=(pure (il env.cells names acc):Sem (List (Str×Addr))):=by
  intro names
  induction names with
  | nil=>intro acc _;rfl
  | cons y r ih=>
   intro acc hh
   obtain⟨n,kd⟩:=y
   rw[List.forIn_cons]
   unfold il
   by_cases hk:(kd==NameKind.free)=true
   ·obtain⟨c,hc⟩:=hh (n,kd) Ql (by simpa using hk)
    have nJ:env.cells.lookup n=some c:=hc
    simp only[hk,Zv,nJ]
    have e:cellOf env n=pure c:=by unfold cellOf;rw[nJ]
    rw[e]
    exact ih ((n,c)::acc) fun z hz=>hh z (Qj _ hz)
   ·simp only[hk]
    exact ih acc fun z hz=>hh z (Qj _ hz)
 exact(Jb (fun m=>m >>= fun cs=>(pure cs:Sem (List (Str×Addr)))) (key scope.names [] h)).trans rfl
theorem yx:∀ {names:List (Str×NameKind)} {acc:List (Str×Addr)},(∀ y c,(y,c)∈acc->cells.lookup y=some c)->∀ y c,(y,c)∈il cells names acc->cells.lookup y=some c
 | [],_,h,y,c,m=>h y c m
 | (n,k)::r,acc,h,y,c,m=>by
  unfold il at m
  split at m
  ·split at m
   next c' e=>
    refine yx (acc:=(n,c')::acc) (fun z d hz=>?_) y c m
    rcases Qs.mp hz with q|q
    ·cases q;exact e
    ·exact h z d q
   ·exact yx h y c m
  ·exact yx h y c m
theorem yz:∀ {names:List (Str×NameKind)} {acc:List (Str×Addr)} {y:Str},(acc.lookup y).isSome=true->((il cells names acc).lookup y).isSome=true
 | [],_,_,h=>h
 | (n,k)::r,acc,y,h=>by
  unfold il
  split
  ·split
   ·refine yz ?_
    rw[Zn]
    split
    ·rfl
    ·exact h
   ·exact yz h
  ·exact yz h
theorem vt(hc:cells.lookup y=some c):∀ {names:List (Str×NameKind)} {acc:List (Str×Addr)},(y,NameKind.free)∈names->((il cells names acc).lookup y).isSome=true
 | (n,k)::r,acc,h=>by
  unfold il
  rcases Qs.mp h with q|q
  ·cases q
   simp only[hc]
   rw[Qf (by rfl)]
   refine yz ?_
   rw[Zn,Ja]
   rfl
  ·split
   ·split
    ·exact vt hc q
    ·exact vt hc q
   ·exact vt hc q
theorem Bk:∀ {names:List (Str×NameKind)} {h:Heap} {acc:List (Str×Addr)} {y:Str} {c:Addr},(y,c)∈cellsFrom h.objs.size names acc->(y,c)∈acc\/(h.objs.size<=c/\(pushCells h names).IsCell c none)
 | [],_,_,_,_,m=>.inl m
 | (n,k)::r,h,acc,y,c,m=>by
  unfold cellsFrom at m
  unfold pushCells
  split at m
  next hk=>
   rw[Qf hk]
   have m':(y,c)∈cellsFrom (h.push { cls:=.type "cell",data:=.cell none }).objs.size r ((n,h.objs.size)::acc):=by rw[ZJ];exact m
   rcases Bk m' with q|⟨q1,q2⟩
   ·rcases Qs.mp q with e|q
    ·cases e
     refine .inr ⟨Qh _,_,J6 _ _ _ _ (Qv _ rfl),rfl⟩
    ·exact .inl q
   ·rw[ZJ]at q1
    exact .inr ⟨by omega,q2⟩
  next hk=>
   rw[Qi hk]
   exact Bk m
theorem Bl:∀ {names:List (Str×NameKind)} {n:Nat} {acc:List (Str×Addr)},(∀ y c,(y,c)∈acc->c<n)->(∀ x y c,(x,c)∈acc->(y,c)∈acc->x=y)->∀ x y c,(x,c)∈cellsFrom n names acc->(y,c)∈cellsFrom n names acc->x=y
 | [],_,_,_,h=>h
 | (nm,k)::r,n,acc,bY,h=>by
  unfold cellsFrom
  split
  ·refine Bl (n:=n+1) (acc:=(nm,n)::acc) (fun y c m=>?_) (fun x y c m1 m2=>?_)
   ·rcases Qs.mp m with e|m
    ·cases e;exact Zq _
    ·exact Zc (bY y c m)
   ·rcases Qs.mp m1 with e1|m1<;>rcases Qs.mp m2 with e2|m2
    ·cases e1;cases e2;rfl
    ·cases e1;exact absurd (bY y _ m2) (Q2 _)
    ·cases e2;exact absurd (bY x _ m1) (Q2 _)
    ·exact h x y c m1 m2
  ·exact Bl bY h
theorem Bm:∀ {names:List (Str×NameKind)} {n:Nat} {acc:List (Str×Addr)},lo<=n->(∀ c,acc.lookup y=some c->lo<=c)->∀ c,(cellsFrom n names acc).lookup y=some c->lo<=c
 | [],_,_,_,h=>h
 | (nm,k)::r,n,acc,hn,h=>by
  unfold cellsFrom
  split
  ·refine Bm (n:=n+1) (by omega) fun c e=>?_
   rw[Zn]at e
   split at e
   ·cases e;exact hn
   ·exact h c e
  ·exact Bm hn h
theorem Bn:∀ {names:List (Str×NameKind)} {n:Nat} {acc:List (Str×Addr)},lo<=n->(y,NameKind.cell)∈names->∀ c,(cellsFrom n names acc).lookup y=some c->lo<=c
 | (nm,k)::r,n,acc,hn,h=>by
  unfold cellsFrom
  rcases Qs.mp h with q|q
  ·cases q
   rw[Qf (by rfl)]
   refine Bm (n:=n+1) (by omega) fun c e=>?_
   rw[Zn,Ja]at e
   cases e;exact hn
  ·split
   ·exact Bn (n:=n+1) (by omega) q
   ·exact Bn hn q
theorem Bo:∀ {names:List (Str×NameKind)} {n:Nat} {acc:List (Str×Addr)},(y,NameKind.cell) ∉ names->(cellsFrom n names acc).lookup y=acc.lookup y
 | [],_,_,_=>rfl
 | (nm,k)::r,n,acc,h=>by
  unfold cellsFrom
  split
  next hk=>
   rw[Bo (fun z=>h (Qj _ z)),Zn]
   have bK:(y==nm)=false:=by
    cases e:y==nm with
    | false=>rfl
    | true=>
     have e1:y=nm:=Zy.mp e
     have e2:k=NameKind.cell:=by simpa using hk
     exact absurd (by rw[e1,<- e2];exact Ql) h
   rw[bK]
  ·exact Bo fun z=>h (Qj _ z)
def pZ (env:Env)(y:Str)(k:NameKind):NameKind:=if(k==NameKind.free&&env.scope.kind == .function&&env.kindOf y==some .cell)then .cell else k
def Bp{env:Env}{y:Str}:∀ (names:List (Str×NameKind)),(names.map fun(n,k)=>if(k==NameKind.free&&env.scope.kind == .function&&env.kindOf n==some .cell)then(n,NameKind.cell)else(n,k)).lookup y=(names.lookup y).map (pZ env y)
 | []=>rfl
 | (n,k)::r=>by
  have ih:=Bp (env:=env) (y:=y) r
  show List.lookup y ((if(k==NameKind.free&&env.scope.kind == .function&&env.kindOf n==some .cell)=true then(n,NameKind.cell)else(n,k))::_)=_
  cases hx:y==n with
  | true=>
   have e:=Zy.mp hx
   subst e
   rw[Zn,Zn]
   by_cases hc:(k==NameKind.free&&env.scope.kind == .function&&env.kindOf y==some .cell)=true
   ·simp only[pZ,hc,Zv,Ja,JE]
   ·simp only[pZ,hc,Ja,JE]
    simp
  | false=>
   by_cases hc:(k==NameKind.free&&env.scope.kind == .function&&env.kindOf n==some .cell)=true
   ·rw[Qf hc,Zn,Zn];simp only[hx];exact ih
   ·rw[Qi hc,Zn,Zn];simp only[hx];exact ih
def Fq{l:List (Str×NameKind)}(hn:(l.map (·.1)).Nodup){k:NameKind}(h:(y,k)∈l):l.lookup y=some k:=by
 induction l with
 | nil=>cases h
 | cons p r ih=>
  rw[Zn]
  rcases Qs.mp h with e|h
  ·rw[<- e,Ja]
  ·have bK:y≠p.1:=fun e=>by
    have:=(Q4.mp hn).1
    exact this (by show p.1∈_;rw[<- e];exact Qy.mpr ⟨(y,k),h,rfl⟩)
   have:(y==p.1)=false:=by simpa using bK
   rw[this]
   exact ih (Q4.mp hn).2 h
def Ft (scope:Scope)(env:Env)(C:Addr):Env:=
 { newEnv scope C env.globals (cellsFrom (C+1) scope.names (il env.cells scope.names [])) env.qual none .none (some env) builtinsNs with scope:=relabel scope env }
def gq (X:Cx)(N':List Str)(scope:Scope)(C:Addr)(s:Shared)(H:Hp)(fp:List Addr):Cx where
 prog:=X.prog
 w:=X.w
 K:=X.K
 mg:=X.mg
 base:=X.base
 A:=X.A
 N:=N'
 aP:=s
 cy:=H
 env:=Ft scope X.env C
 outer:=X.stack
 stack:=X.stack
 ex:=fp
 fn:=fun y=>scope.names.lookup y==some .cell
 calm:=X.calm
 pn:=[]
 xe:=fun _ _=>False
structure cf (X:Cx) (k:Nat) (N':List Str) (scope:Scope):Prop where
 kind:scope.kind=.function
 names:(scope.names.map (·.1)).Nodup
 len:N'.length=X.N.length+k
 frees:(scope.names.all fun y=>y.2 != .free||X.env.kindOf y.1==some .cell||X.env.kindOf y.1==some .free)=true
 outs:((N'.zip X.N).all fun p=>(p.1==p.2&&scope.names.lookup p.1==some .free)||scope.names.lookup p.1==none||scope.names.lookup p.1==some .globalImplicit)=true
def cf.free{k:Nat}(S:cf X k N' scope)(h:(y,NameKind.free)∈scope.names):X.env.kindOf y=some .cell\/X.env.kindOf y=some .free:=by
 have:=Yu.mp S.frees (y,NameKind.free) h
 simp only[Bool.or_eq_true,bne_iff_ne,ne_eq,Zy]at this
 rcases this with(h1|h1)|h1
 ·exact absurd trivial h1
 ·exact .inl h1
 ·exact .inr h1
def cf.out{k:Nat}(S:cf X k N' scope)(cT:i<X.N.length)(h:N'[i]? = some y)(hv:tO (relabel scope X.env) y):X.N[i]? = some y/\scope.names.lookup y=some .free:=by
 have e2:X.N[i]? = some X.N[i]:=by simp[cT]
 have m:(y,X.N[i])∈N'.zip X.N:=QK (i:=i) (by rw[List.getElem?_zip_eq_some];exact⟨h,e2⟩)
 have:=Yu.mp S.outs _ m
 simp only[Bool.or_eq_true,Jt,Zy]at this
 have hl:(relabel scope X.env).names.lookup y=(scope.names.lookup y).map (pZ X.env y):=Bp _
 rcases this with(⟨h1,h2⟩|h1)|h1
 ·exact⟨by rw[e2,<- h1],h2⟩
 ·rw[h1]at hl
  rcases hv with z|z|z<;>(rw[hl]at z;cases z)
 ·rw[h1]at hl
  have hr:pZ X.env y .globalImplicit=.globalImplicit:=rfl
  rw[JE,hr]at hl
  rcases hv with z|z|z<;>(rw[hl]at z;cases z)
def Un.rP{fs ex:List Addr}{D:Addr}{o:HO}(u:Un fs ex H H' h h')(az:cV P w H h)(hD:h.objs.size<=D):Un fs ex H (upd H' D o) h h':=by
 have ne:∀ b ob,h.get? b=some ob->b≠D:=fun b ob e z=>absurd (Qw (Qo e) hD) (by rw[z];exact Q2 _)
 have ne':∀ b x,H b=some x->b≠D:=fun b x e z=>absurd (Qw (az.lt e) hD) (by rw[z];exact Q2 _)
 refine⟨u.keep,u.slot,fun b ob e n hx=>?_,u.there,fun b xs e=>?_,fun b ob x e=>?_,fun b ps e=>?_⟩
 ·rw[bc (ne b ob e)];exact u.free b ob e n hx
 ·rw[bc (ne' b _ e)];exact u.e_ b xs e
 ·rw[bc (ne' b _ e)];exact u.eF b ob x e
 ·rw[bc (ne' b _ e)];exact u.fg b ps e
def cV.add{D:Addr}{o:HO}(x:cV P w H h)(hn:H D=none)(new:cU P w (upd H D o) h D o):cV P w (upd H D o) h:=fun b u e=>by
 by_cases hb:b=D
 ·subst hb;rw[fX]at e;cases e;exact new
 ·rw[bc hb]at e
  exact(x b u e).fS (fun c v _ q=>q) (fun c q=>by rw[bc (ib q hn)];exact q) fun c xs q=>by rw[bc (ib q hn)];exact q
def t5 (X:Cx)(ifs:List Expr)(t:TT):Prop:=
 ∀ (pins:List (Addr×Obj)) (s:Shared) (σ:St) (H:Hp) (Q:Bool->Hp->Prop),Inv X pins σ H s->t σ H Q->
  wpAny (model X.prog X.w) X.A (forIn ifs true fun c r=>if r=true then do let ok <- isTrue c X.env (eval c X.env);pure (ForInStep.yield ok)else pure (ForInStep.yield r)) (TP X pins σ Q) X.xe s
def Oh:TT:=fun _ H Q=>Q true H
def Oi:t5 X [] Oh:=fun pins s σ H Q I h=>wpAny_tests_nil ⟨H,I,h⟩
def Oj{c:Expr}{t:TT}(h:PT X c t):t5 X [c] t:=fun pins s σ H Q I q=>wpAny_tests_one (h pins s σ H Q I q)
def Fu (k:Nat)(g:TG)(tt:TT)(te:TE)(σ:St)(J:It)(H:Hp)(Fin:List V->Hp->Prop):Prop:=
 ∃ W:Nat->Nat->List V->Hp->Prop,(∃ m,W 0 m [] H)/\∀ i m ys H2,W i m ys H2->ys.length<=sizeLine /\
  ((J.stop i H2/\Fin ys H2)\/(J.go i H2/\ys.length<sizeLine/\∀ x H3,J.pM i H2 x H3->g x (σ++List.replicate k none) H3 fun p6 H4=>(∃ τ,p6=σ++τ/\τ.length=k) /\
    tt p6 H4 fun b H5=>if b=true then te p6 H5 fun v H6=>∃ m',m'<m/\W (i+1) m' (ys++[v]) H6 else ∃ m',m'<m/\W (i+1) m' ys H5))
def yA (k:Nat)(wi:TI)(g:TG)(tt:TT)(te:TE):TE:=fun σ H Q=>wi σ H fun J H1=>Fu k g tt te σ J H1 fun ys H2=>∀ p,H2 p=none->Q (.ref p) (upd H2 p (.lst ys))
def gW (us:List Value)(n:Nat):Obj:={ cls:=.type "list",data:=.seq us.toArray n }
def Fv{τ:St}(I:Inv X pins (σ++τ) H s):Inv X pins (σ++List.replicate τ.length none) H s:=
 I.weak (by simp) fun i v e=>by
  by_cases hi:i<σ.length
  ·rw[QW hi]at e ⊢
   exact e
  ·rw[Zm (by omega),Z0]at e
   split at e<;>cases e
section
variable {X:Cx}{k:Nat}{N':List Str}{scope:Scope}{pins:List (Addr×Obj)}{σ:St}{H2:Hp}{s2:Shared}{fp:List Addr}
abbrev vw (scope:Scope)(s2:Shared):Heap:=pushCells ((s2.heap.push (gW [] 0)).push { cls:=.type "dict",data:=.dict #[] }) scope.names
def Ol(S:cf X k N' scope)(I2:Inv X pins σ H2 s2)(f2:∀ b∈fp,mf X pins H2 b)(rQ:∀ b∈fp,b<s2.heap.objs.size) :
  Inv (gq X N' scope (s2.heap.objs.size+1) s2 H2 fp) [(s2.heap.objs.size,gW [] 0)] (σ++List.replicate k none) H2 { s2 with heap:=vw scope s2 }:=by
 have e1:(s2.heap.push (gW [] 0)).objs.size=s2.heap.objs.size+1:=ZJ ..
 have e2:((s2.heap.push (gW [] 0)).push { cls:=.type "dict",data:=.dict #[] }).objs.size=s2.heap.objs.size+1+1:=by rw[ZJ,e1]
 have keep:∀ b o,s2.heap.get? b=some o->(vw scope s2).get? b=some o:=fun b o e=>J6 _ _ b o (Qe _ (Qe _ e))
 have cz:∀ y c,(y,c)∈il X.env.cells scope.names []->X.env.cells.lookup y=some c:=yx (fun _ _ m=>nomatch m)
 have rR:∀ y c,(y,c)∈cellsFrom (s2.heap.objs.size+1+1) scope.names (il X.env.cells scope.names [])->X.env.cells.lookup y=some c\/(s2.heap.objs.size+1+1<=c/\(vw scope s2).IsCell c none):=fun y c m=>by
  have m':(y,c)∈cellsFrom ((s2.heap.push (gW [] 0)).push { cls:=.type "dict",data:=.dict #[] }).objs.size scope.names (il X.env.cells scope.names []):=by rw[e2];exact m
  rcases Bk m' with q|⟨q1,q2⟩
  ·exact .inl (cz y c q)
  ·rw[e2]at q1;exact .inr ⟨q1,q2⟩
 have Om:∀ y c,X.env.cells.lookup y=some c->c<s2.heap.objs.size:=fun y c e=>by obtain⟨v,z⟩:=I2.cell y c e;exact z.lt
 have hl:∀ y,(relabel scope X.env).names.lookup y=(scope.names.lookup y).map (pZ X.env y):=fun y=>Bp _
 have ok:(gq X N' scope (s2.heap.objs.size+1) s2 H2 fp).Ok:=by
  refine⟨I2.ok.mod,S.kind,I2.ok.glob,I2.ok.blt,JK _,fun x y c h1 h2=>?_,fun x hx=>?_,fun x c hf h=>?_,I2.ok.hd,I2.ok.frames,.inl rfl,fun b hb=>⟨?_,fun x c h z=>?_⟩,I2.bs,QO I2.ok.l9 I2.sz,fun b o e hb=>?_,fun b hb z=>?_,I2.stack,I2.fY⟩
  ·refine Bl (n:=s2.heap.objs.size+1+1) (names:=scope.names) (acc:=il X.env.cells scope.names []) (fun y c m=>?_) (fun x y c m1 m2=>?_) x y c (QV h1) (QV h2)
   ·exact Qw (Om y c (cz y c m)) (by omega)
   ·exact I2.ok.inj x y c (cz x c m1) (cz y c m2)
  ·have vx:(relabel scope X.env).names.lookup x=some .cell\/(relabel scope X.env).names.lookup x=some .free:=hx
   rw[hl x]at vx
   have:scope.names.lookup x=some .cell\/scope.names.lookup x=some .free:=by
    cases e:scope.names.lookup x with
    | none=>rw[e]at vx;rcases vx with z|z<;>cases z
    | some kd=>
     rw[e,JE]at vx
     cases kd<;>first
      | exact .inl rfl
      | exact .inr rfl
      | (rcases vx with z|z<;>(have z':=QF z;unfold pZ at z';simp at z'))
   rcases this with q|q
   ·exact Jn.mp (Jv scope.names (s2.heap.objs.size+1+1) _ (.inl q))
   ·have qm:=QV q
    have hk:=S.free qm
    obtain⟨c,hc⟩:=I2.ok.has x hk
    exact Jn.mp (Jv scope.names (s2.heap.objs.size+1+1) _ (.inr (vt hc qm)))
  ·have Oo:(scope.names.lookup x==some .cell)=true:=hf
   have:=Bn (lo:=s2.heap.objs.size) (n:=s2.heap.objs.size+1+1) (acc:=il X.env.cells scope.names []) (by omega) (QV (Zy.mp Oo)) c h
   exact this
  ·have:=rQ b hb
   show b≠s2.heap.objs.size+1
   exact QM (Qw this (JK _))
  ·have q:=rQ b hb
   rcases rR x c (QV h)with w|⟨w,_⟩
   ·exact(f2 b hb).2.2.2.2.1 x c w z
   ·subst z;exact absurd (Qw q (QO (by omega) w)) (Q2 _)
  ·rcases(f2 b hb).2.2.2.1 with z|z
   ·exact I2.ok.kR b o e z
   ·have:=Qo e
    have:=I2.ok.l9
    exact absurd (Qw (Qo e) (QO I2.ok.l9 z)) (Q2 _)
  ·rcases Qs.mp (I2.ix b z)with q|q
   ·exact(f2 b hb).2.1 q
   ·exact(f2 b hb).2.2.1 q
 obtain⟨m,hn,Bq⟩:=id I2.loc
 refine⟨ok,rfl,I2.bare,Un.kept keep,⟨fun _=>none,?_,fun i y v h1 h2 h3=>?_⟩,fun y c h=>?_,I2.az.fresh (JK _),fun y c h=>?_,fun p hp=>?_,I2.az.kept keep,?_⟩
 ·have:=(Heap.Ns.new (s2.heap.push (gW [] 0)) (.type "dict")).keeps (J6 scope.names _)
  rw[e1]at this
  exact this
 ·by_cases hi:i<σ.length
  ·have Oq:tO (relabel scope X.env) y:=h3
   obtain⟨o1,o2⟩:=S.out (by rw[<- I2.len];exact hi) h1 Oq
   have hk:=S.free (QV o2)
   have hs:σ[i]? = some (some v):=by
    rw[QW hi]at h2
    exact h2
   obtain⟨u,r,l⟩:=Bq i y v o1 hs (.inr hk)
   refine⟨u,r,?_⟩
   rcases l with⟨l,_⟩|⟨_,c,hc,j_⟩
   ·rcases hk with z|z<;>(rw[l]at z;cases z)
   ·refine .inr ⟨?_,c,?_,j_.keeps keep⟩
    ·show(relabel scope X.env).names.lookup y=some .cell\/(relabel scope X.env).names.lookup y=some .free
     rw[hl y,o2,JE]
     unfold pZ
     split
     ·exact .inl rfl
     ·exact .inr rfl
    ·show(cellsFrom (s2.heap.objs.size+1+1) scope.names (il X.env.cells scope.names [])).lookup y=some c
     rw[Bo (fun z=>by have:=Fq S.names z;rw[o2]at this;cases this)]
     obtain⟨c',nJ⟩:=Jn.mp (vt (acc:=[]) hc (QV o2))
     have:=cz y c' (QV nJ)
     rw[hc]at this;cases this
     exact nJ
  ·rw[Zm (by omega),Z0]at h2
   split at h2<;>cases h2
 ·rcases rR y c (QV h)with w|⟨_,w⟩
  ·obtain⟨v,z⟩:=I2.cell y c w
   exact⟨v,z.keeps keep⟩
  ·exact⟨_,w⟩
 ·rcases rR y c (QV h)with w|⟨w,_⟩
  ·exact I2.cH y c w
  ·exact I2.az.fresh (by omega)
 ·have e:p=(s2.heap.objs.size,gW [] 0):=by
   have:p ∈ [(s2.heap.objs.size,gW [] 0)]:=hp
   simpa using this
  subst e
  refine⟨J6 _ _ _ _ (Qe _ (Qv _ rfl)),I2.az.fresh (Qh _),?_,fun z=>?_,fun v z=>nomatch z⟩
  ·show s2.heap.objs.size≠s2.heap.objs.size+1
   omega
  ·have z':s2.heap.objs.size∈dP X.stack:=z
   rcases Qs.mp (I2.ix _ z')with q|q
   ·exact absurd I2.lt (by rw[<- q];exact Q2 _)
   ·exact I2.u4 (Qh _) q
 ·rw[Qm,ZB,I2.len]
  exact S.len.symm
def Ot{us:List Value}{ys:List V}{s':Shared}{aM:St}(I2:Inv X pins σ H2 s2)(f2:∀ b∈fp,mf X pins H2 b)
  (I3:Inv (gq X N' scope C s2 H2 fp) [(s2.heap.objs.size,gW us n)] aM H' s') (r:bq ys us) (hz:ys.length<=sizeLine):Inv X pins σ (upd H' s2.heap.objs.size (.lst ys)) s':=by
 obtain⟨e,hn,_⟩:=I3.pin (s2.heap.objs.size,gW us n) (Qp _ (Qr.mpr rfl))
 have u:Un (dP X.stack) fp H2 H' s2.heap s'.heap:=I3.base
 exact I2.ma (ch:=fp) I3.os (u.rP I2.az (Qh _)) (I3.az.add hn ⟨hz,us,n,r,e⟩) I3.bare fun b hb=>⟨(f2 b hb).2.2.2.1,(f2 b hb).2.1,(f2 b hb).2.2.2.2⟩
end
def Fy{k:Nat}{H2:Hp}{s2:Shared}{fp:List Addr}{tg:Expr}{it:Addr}{tn:Nat->Heap->Prop}{J:It}{g:TG}{tt:TT}{te:TE}{Fin:List V->Hp->Prop}{E:Value->Shared->Prop}{RR:Value->Addr->Result->Shared->Prop}
  (hc:X.calm=true) (S:cf X k N' scope) (hg:∀ C s H fp,PG (gq X N' scope C s H fp) tg g) (ht:∀ C s H fp,t5 (gq X N' scope C s H fp) ifs tt) (he:∀ C s H fp,PE (gq X N' scope C s H fp) elt te)
  (I2:Inv X pins σ H2 s2) (T:Turn X.prog X.w X.K tg J fp it tn) (pO:tn 0 s2.heap) (f2:∀ b∈fp,mf X pins H2 b) (R:Fu k g tt te σ J H2 Fin)
  (Ou:∀ C ys H' s' m',Inv X pins σ (upd H' s2.heap.objs.size (.lst ys)) s'->s'.heap.Ns C m'->H' s2.heap.objs.size=none->upd H' s2.heap.objs.size (.lst ys) C=none->C≠X.env.locals->X.aP.heap.objs.size<=C->s2.heap.objs.size<C->
    Fin ys H'->RR (.ref s2.heap.objs.size) C (.ok .next) s') :
  wpAny (model X.prog X.w) X.A (newList []) (fun acc gV=>wpAny (model X.prog X.w) X.A (newFunctionEnv scope X.env.globals (il X.env.cells scope.names []) [] X.env.qual none .none (some X.env)) (fun vy oG=>
   codeAny (model X.prog X.w) X.A (.compStart (.ListComp elt [⟨tg,iter,ifs,0⟩] scope pos) 0 (.ref it) acc { vy with scope:=relabel scope X.env }) (RR acc vy.locals) oG) E gV) E s2:=by
 refine Zo (Of ?_)
 have e1:(s2.heap.push (gW [] 0)).objs.size=s2.heap.objs.size+1:=ZJ ..
 have rQ:∀ b∈fp,b<s2.heap.objs.size:=fun b hb=>by obtain⟨o,e,_⟩:=T.obj _ _ pO b hb;exact Qo e
 obtain⟨W,⟨m0,w0⟩,lM⟩:=R
 have I3:=Ol S I2 f2 rQ
 have u9:tn 0 (vw scope s2):=T.keep _ _ _ pO fun b hb o e=>J6 _ _ b o (Qe _ (Qe _ e))
 have Ov:s2.heap.objs.size≠s2.heap.objs.size+1:=by omega
 have jL:∀ {H':Hp} {us:List Value} {n:Nat},(∀ b∈fp,H' b=none)->∀ b∈fp,mf (gq X N' scope (s2.heap.objs.size+1) s2 H2 fp) [(s2.heap.objs.size,gW us n)] H' b:=fun {H' us n} hn b hb=>by
  have q:=I3.ok.yb b hb
  refine⟨hn b hb,q.1,I3.ok.kS b hb,.inl hb,q.2,fun p hp z=>?_⟩
  have lQ:p ∈ [(s2.heap.objs.size,gW us n)]:=hp
  have e:p=(s2.heap.objs.size,gW us n):=by simpa using lQ
  subst e
  have:=rQ b hb
  have z':s2.heap.objs.size=b:=z
  exact absurd this (by rw[z'];exact Q2 _)
 have loop:∀ Fz,Fz=Value.ref it->codeAny (model X.prog X.w) X.A (.compLoop (.ListComp elt [⟨tg,iter,ifs,0⟩] scope pos) 0 Fz (.ref s2.heap.objs.size) (Ft scope X.env (s2.heap.objs.size+1))) (RR (.ref s2.heap.objs.size) (s2.heap.objs.size+1)) { s2 with heap:=vw scope s2 }:=by
  rintro _ rfl
  refine Oe (fun n s'=>∃ i ys us cnt H',Inv (gq X N' scope (s2.heap.objs.size+1) s2 H2 fp) [(s2.heap.objs.size,gW us cnt)] (σ++List.replicate k none) H' s'/\tn i s'.heap/\(∀ b∈fp,H' b=none)/\bq ys us/\W i n ys H') ?_ m0
   ⟨0,[],[],0,H2,I3,u9,fun b hb=>(f2 b hb).1,.nil,w0⟩
  rintro n s3 ⟨i,ys,us,cnt,H3,J3,st,fr,r3,w3⟩
  obtain⟨hz,hw⟩:=lM i n ys H3 w3
  rcases hw with⟨stop,fin⟩|⟨go,bY,step⟩
  ·refine aV (T.done (gq X N' scope (s2.heap.objs.size+1) s2 H2 fp) rfl rfl rfl hc i _ s3 _ H3 _ J3 (jL fr) st stop) fun rr s4 ⟨hr,I4⟩=>?_
   subst hr
   obtain⟨m',oi,_⟩:=id I4.loc
   obtain⟨eD,nD,_⟩:=I4.pin (s2.heap.objs.size,gW us cnt) (Qp _ (Qr.mpr rfl))
   refine Ou (s2.heap.objs.size+1) ys H3 s4 m' (Ot I2 f2 I4 r3 hz) oi nD ?_ ?_ ?_ (Zq _) fin
   ·rw[bc (Jr Ov)];exact I4.free
   ·exact Jr (QM (Qw I2.lt (JK _)))
   ·have:=I2.sz;omega
  ·refine aV (T.item (gq X N' scope (s2.heap.objs.size+1) s2 H2 fp) rfl rfl rfl hc i _ s3 _ H3 _ J3 (jL fr) st go) fun rr s4 ⟨u,hr,h4⟩=>?_
   subst hr
   refine aV h4 fun _ s5 ah=>?_
   obtain⟨x,H5,I5,r5,y5,rq,AH⟩:=ah
   have AI:=I5.pinned (jL AH) (T.obj _ _ rq)
   refine aV (hg _ _ _ _ _ s5 _ H5 x u _ AI r5 (step x H5 y5)) fun _ s6 ⟨EL,H6,I6,⟨τ,e6,l6⟩,q6⟩=>?_
   subst e6
   refine aV (ht _ _ _ _ _ s6 _ H6 _ I6 q6) fun ok s7 ah=>?_
   obtain⟨H7,I7,q7⟩:=ah
   have kept:∀ {s':Shared} {H':Hp} {aM:St},Inv (gq X N' scope (s2.heap.objs.size+1) s2 H2 fp) ([(s2.heap.objs.size,gW us cnt)]++pN fp s5.heap) aM H' s'->tn (i+1) s'.heap/\∀ b∈fp,H' b=none:=fun {s' H' aM} I'=>by
    refine⟨T.keep _ _ _ rq fun b hb o e=>(I'.pin (b,o) (Qp _ (Qp _ (yi hb e)))).1,fun b hb=>?_⟩
    obtain⟨o,e,d⟩:=T.obj _ _ rq b hb
    exact(I'.pin (b,o) (Qp _ (Qp _ (yi hb e)))).2.1
   cases ok with
   | false=>
    rw[Qi (by decide)]at q7 ⊢
    obtain⟨m',hm,w7⟩:=q7
    have:=Fv I7.eG
    rw[l6]at this
    exact⟨m',hm,i+1,ys,us,cnt,H7,this,(kept I7).1,(kept I7).2,r3,w7⟩
   | true=>
    rw[Qf rfl]at q7 ⊢
    refine aV (he _ _ _ _ _ s7 _ H7 _ I7 q7) fun u8 s8 ah=>?_
    obtain⟨v,H8,I8,r8,m',hm,w8⟩:=ah
    obtain⟨eD,nD,FA,Ox,dD⟩:=I8.pin (s2.heap.objs.size,gW us cnt) (Qp _ (Qz _ (Qr.mpr rfl)))
    refine append_at eD (fun h9 FC Oy=>?_) (hsz:=by rw[Qn,<- r3.length];exact ZG bY)
    have Ia:=I8.fZ (pins':=pN fp s5.heap) fun p hp=>I8.pin p (Qp _ (Qp _ hp))
    have Oz:∀ p∈pN fp s5.heap,p.1≠s2.heap.objs.size:=fun p hp z=>by
     have:=rQ p.1 (EI hp).1
     exact absurd this (by rw[z];exact Q2 _)
    have Ib:=Ia.turned (h':=h9) (t':=s8.toks) (it:=s2.heap.objs.size) (fun b o hb e=>FC.extBut b o hb e) nD FA (.inr (Qh _)) (fun y c h z=>by
      obtain⟨vv,o,ho,hd⟩:=I8.cell y c h
      rw[z,eD]at ho
      cases ho
      cases hd) (fun p hp=>Oz p (by
      have lQ:p ∈ []++pN fp s5.heap:=hp
      simpa using lQ))
    have Ic:=Ib.fZ (pins':=[(s2.heap.objs.size,gW (us++[u8]) (cnt+1))]) fun p hp=>by
     have e:p=(s2.heap.objs.size,gW (us++[u8]) (cnt+1)):=by simpa using hp
     subst e
     refine⟨?_,nD,FA,Ox,fun v z=>nomatch z⟩
     show h9.get? s2.heap.objs.size=_
     rw[Oy]
     unfold gW
     simp
    have Id:=Fv Ic
    rw[l6]at Id
    have kp:=kept I8
    refine⟨m',hm,i+1,ys++[v],us++[u8],cnt+1,H8,Id,T.keep _ _ _ kp.1 fun b hb o e=>FC.extBut b o (fun z=>by
     have:=rQ b hb
     have z':b=s2.heap.objs.size:=z
     exact absurd this (by rw[z'];exact Q2 _)) e,kp.2,bq.append r3 (.cons r8 .nil),w8⟩
 have hC:(s2.heap.push { cls:=.type "list",dict:=none,data:=.seq ([]:List Value).toArray }).objs.size=s2.heap.objs.size+1:=ZJ ..
 have fin:=codeAny_compStart_list (loop _ rfl) (T.self X.A 0 _ _ _ u9 (loop _ rfl))
 dsimp only at fin ⊢
 rw[hC]
 exact fin
def cf.locs{k:Nat}(S:cf X k N' scope):∀ y∈scope.names,y.2=.local->scope.names.lookup y.1=some .local:=fun y hy e=>by
 obtain⟨n,kd⟩:=y
 have e':kd=.local:=e
 subst e'
 exact Fq S.names hy
def Br{m:Str->Option Value}{v:Option Value}(hn:h.Ns C m)(hc:h.IsCell c v):c≠C:=fun z=>by
 obtain⟨o,es,ep,ho,hd,_⟩:=hn
 obtain⟨o',fJ,ic⟩:=hc
 rw[z,ho]at fJ
 cases fJ
 rw[hd]at ic
 cases ic
section
variable {X:Cx}{k:Nat}{N':List Str}{scope:Scope}{elt tg iter:Expr}{ifs:List Expr}{pos:Pos}{wi:TI}{g:TG}{tt:TT}{te:TE}
def OA(hc:X.calm=true)(S:cf X k N' scope)(hi:PI X tg iter wi)(hg:∀ C s H fp,PG (gq X N' scope C s H fp) tg g)(ht:∀ C s H fp,t5 (gq X N' scope C s H fp) ifs tt)(he:∀ C s H fp,PE (gq X N' scope C s H fp) elt te)
  (hs:∀ x,foldedSetIterable iter X.env x=pure x:=by intro _;rfl):PE X (.ListComp elt [⟨tg,iter,ifs,0⟩] scope pos) (yA k wi g tt te):=by
 intro pins s σ H Q I h
 rw[eval_ListComp]
 refine wpAny_comprehension_free (use:=none) rfl hs (Fp fun y hy e=>?_) S.kind S.locs (aV (hi pins s σ H _ I h) fun v s1 h1=>aV h1 fun yg s2 h2=>?_)
 ·obtain⟨n,kd⟩:=y
  have e':kd=.free:=e
  subst e'
  exact I.ok.has n (S.free hy)
 ·obtain⟨it,fp,tn,J,H2,e,I2,T,pO,f2,R⟩:=h2
  subst e
  refine Fy hc S hg ht he I2 T pO f2 R ?_
  intro C ys H' s' m' I' hn hD Bs yB Bu Bv fin
  refine⟨m',hn,fun h' kg=>⟨.ref s2.heap.objs.size,_,I'.turned (h':=h') (t':=s'.toks) (it:=C) (fun b o hb e=>kg.extBut b o hb e) Bs yB (.inr Bu) (fun x c h=>?_) (fun p hp z=>?_),rfl,fin _ hD⟩⟩
  ·obtain⟨v,q⟩:=I'.cell x c h
   exact Br hn q
  ·have:=Qo (I2.pin p hp).1
   exact absurd (YW this Bv) (by rw[z];exact Q2 _)
def OB{py iZ:Pos}(hN:X.N.Nodup)(hy:X.N[i]? = some y)(hx:Loc X.env.scope y)(rS:swapsWith (.ListComp elt [⟨tg,iter,ifs,0⟩] scope pos) (some (.Name y py)) iZ.line X.env=pure true)
  (hc:X.calm=true) (S:cf X k N' scope) (hi:PI X tg iter wi) (hg:∀ C s H fp,PG (gq X N' scope C s H fp) tg g) (ht:∀ C s H fp,t5 (gq X N' scope C s H fp) ifs tt) (he:∀ C s H fp,PE (gq X N' scope C s H fp) elt te)
  (hs:∀ x,foldedSetIterable iter X.env x=pure x:=by intro _;rfl) (hf:X.fn y=true\/X.env.scope.names.lookup y=some .local:=by first|exact .inl rfl|exact .inr rfl|assumption) :
  PS X (.Assign [.Name y py] (.ListComp elt [⟨tg,iter,ifs,0⟩] scope pos) iZ) (AB (yA k wi g tt te) (AA i)):=by
 intro pins s σ H D I h
 rw[exec_Assign_Name_used _ _ _ _ rS]
 refine Qa (wpAny_standAt (Qa ?_))
 show wpAny _ X.A (do let _ <- comprehension (.ListComp elt [⟨tg,iter,ifs,0⟩] scope pos) scope X.env _ (newList []) false (eval iter X.env) (some (assign (.Name y py) X.env))) _ _ s
 refine Qa (Zs (wpAny_comprehension_free (use:=some (assign (.Name y py) X.env)) (Q:=fun _ s'=>SP X pins D .next s') rfl hs (Fp fun z hz e=>?_) S.kind S.locs
  (aV (hi pins s σ H _ I h) fun v s1 h1=>aV h1 fun yg s2 h2=>?_)) (fun _ s' hq=>Qd (Qd hq)) fun _ _ e=>e)
 ·obtain⟨n,kd⟩:=z
  have e':kd=.free:=e
  subst e'
  exact I.ok.has n (S.free hz)
 ·obtain⟨it,fp,tn,J,H2,e,I2,T,pO,f2,R⟩:=h2
  subst e
  refine Fy hc S hg ht he I2 T pO f2 R ?_
  intro C ys H' s' m' I' hn hD Bs yB Bu Bv fin
  show wpAny _ X.A (assign (.Name y py) X.env (.ref s2.heap.objs.size)) _ _ _
  refine wpAny_assign_Name (Ex I' hN hy hx (v:=.ref s2.heap.objs.size) rfl (fun pS FD ⟨a,sb,ha⟩=>?_) hf)
  have OC:C≠a:=fun z=>by
   rcases ha with q|q
   ·exact yB (z.trans q)
   ·obtain⟨v,w⟩:=I'.cell y a q
    exact Br hn w z.symm
  have yC:=hn.sameBut sb OC
  refine⟨m',yC,fun h' kg=>⟨_,_,FD.turned (h':=h') (t':=pS.toks) (it:=C) (fun b o hb e=>kg.extBut b o hb e) Bs yB (.inr Bu) (fun x c h=>?_) (fun p hp z=>?_),fin _ hD⟩⟩
  ·obtain⟨v,q⟩:=FD.cell x c h
   exact Br yC q
  ·have:=Qo (I2.pin p hp).1
   exact absurd (YW this Bv) (by rw[z];exact Q2 _)
end
end L2
namespace L3
open PySem PySem.Spec PyProof.Rows PySem.W L2
variable {M:Model}{Q:Value->Shared->Prop}{R:Result->Shared->Prop}{T:String}{h:Heap}
section
variable {prog:Program}{w:World}{A:Around}{E:Value->Shared->Prop}{s:Shared}{K:Frag}{x C:Addr}{ox:Obj}
structure jy (h:Heap) (x:Addr) (ox:Obj) (C:Addr):Prop where
 at_:h.get? x=some ox
 cls:ox.cls=.ref C
def jy.type(I:jy h x ox C):Looks M h (typeOf (.ref x)) (.ref C):=I.cls ▸ (Looks.ld I.at_).andThen .now
structure fu (K:Frag) (C:Addr):Prop where
 ci:(clsIn K C).isSome=true
 ga:findIn K (.ref C) "__getattribute__" = some (some (.builtin "BaseException.__getattribute__"))
 gt:findIn K (.ref C) "__getattr__" = some none
 cl:findIn K (.ref C) "__class__" = some (some (.builtin "object.__class__"))
 cg:specialIn K (.builtin "object.__class__") "__get__" = some (some (.builtin "getset_descriptor.__get__"))
 ct:takesIn K (.builtin "object.__class__")=some true
 mo:mroIn K C (.type "object")=some true
 mb:mroIn K C (.type "BaseException")=some true
def OE(X:K.In h)(I:jy h x ox C)(XC:fu K C):Looks M h (Builtin.ObjectAttr.find (.ref x) (.ref C) "__class__") (.bind (.builtin "getset_descriptor.__get__") (.builtin "object.__class__")):=by
 have L1:=looks_findIn (M:=M) X XC.cl
 have L2:Looks M h (Builtin.ObjectAttr.getOf (some (.builtin "object.__class__"))) _:=looks_specialIn (M:=M) X XC.cg
 have L3:=looks_takesIn (M:=M) X XC.ct
 exact L1.andThen (L2.andThen ((show Looks M h (Builtin.ObjectAttr.dataDescriptor? (some (.builtin "object.__class__")) (some (.builtin "getset_descriptor.__get__"))) (some ((.builtin "getset_descriptor.__get__"),(.builtin "object.__class__")))from L3.andThen .now).andThen (Looks.tag .now)))
def OF{tp:Value}(X:K.In s.heap)(I:jy s.heap x ox C)(hm:mroIn K C (.type "object")=some true)
  (h:R (.ok (.ret (.ref C))) s):codeAny (model prog w) A (.call (.builtin "getset_descriptor.__get__") ⟨[.builtin "object.__class__",.ref x,tp],[]⟩) R s:=by
 obtain⟨hh,g,dr,t,os⟩:=s
 have L0:=I.type (M:=model prog w)
 have L1:=looks_mroIn (M:=model prog w) X hm
 refine Jj KF.slot_gs.plain KF.entry_gs (KF.slot_gs.check _ _ _ _ _ _ _ _ KF.type_class (KF.args_gs _ _ _) ?_)
 unfold Builtin.«getset_descriptor.__get__» Builtin.Getset_descriptor.descrGet
 rw[dga_obj]
 refine Qa (Qd ?_)
 unfold Builtin.Getset_descriptor.descrGetter Builtin.Getset_descriptor.descrCheckInstance Builtin.Getset_descriptor.descrNameAndClass isInstance
 simp only[KF.owner_class]
 repeat lk
 refine⟨Y0 _ (by decide +kernel),Z4 KF.entry_class ?_⟩
 unfold Builtin.«object.__class__» shownTypeOf
 repeat lk
 exact h
def OG{p7:Value}{Q:Unit->Shared->Prop}(X:K.In s.heap)(I:jy s.heap x ox C)(XC:fu K C)(hq:Q () s):wpAny M A (checkBuiltinCall "BaseException.__getattribute__" ⟨[.ref x,p7],[]⟩) Q E s:=by
 obtain⟨hh,g,d,t,os⟩:=s
 have L0:=I.type (M:=M)
 have L1:=looks_mroIn (M:=M) X XC.mb
 have hk:builtinKind "BaseException.__getattribute__" = some .slot:=by decide +kernel
 have rT:splitId "BaseException.__getattribute__" = some ("BaseException","__getattribute__"):=by decide +kernel
 have ha:=PySem.F.args_bexc_ga (.ref x) p7
 simp only[checkBuiltinCall,hk,rT]
 unfold isInstance
 repeat lk
 exact hq
def OH{tk:Tok}(X:K.In s.heap)(I:jy s.heap x ox C)(XC:fu K C)(h:R (.ok (.ret (.ref C))) s) :
  codeAny (model prog w) A (.call (.builtin "BaseException.__getattribute__") ⟨[.ref x,.str "__class__" tk],[]⟩) R s:=by
 refine Jj Y1.ga.plain PySem.F.entry_bexc_ga (OG X I XC ?_)
 obtain⟨hh,g,d,t,os⟩:=s
 have L0:=I.type (M:=model prog w)
 have L1:=OE (M:=model prog w) X I XC
 show wpAny _ _ (Builtin.«object.__getattribute__» ⟨[.ref x,.str "__class__" tk],[]⟩) _ _ _
 refine Qa (Qd ?_)
 refine Qa (Qd ?_)
 refine Qa (L0.at (Qa (L1.at ?_)))
 show wpAny _ _ (holding [.builtin "object.__class__"] (call (.builtin "getset_descriptor.__get__") [.builtin "object.__class__",.ref x,.ref C]) >>= ret) _ _ _
 exact Qa (Q9 (VE (OF X I XC.mo (Qd h))))
def OI{Q:Option Value->Shared->Prop}(X:K.In s.heap)(I:jy s.heap x ox C)(XC:fu K C)(h:Q (some (.ref C)) { s with toks:=s.toks+1 }):wpAny (model prog w) A (getAttr? (.ref x) "__class__") Q E s:=by
 obtain⟨hh,g,d,t,os⟩:=s
 have L0:=I.type (M:=model prog w)
 have L1:=looks_findIn (M:=model prog w) X XC.ga
 have L2:=looks_findIn (M:=model prog w) X XC.gt
 have f3:=Y1.ga.bind (.ref x)
 unfold getAttr? getAttrBy? getAttrBy
 refine Qa (wpAny_mkText (Qa (JZ (Q9 (Qa (L0.at (Qa (L1.at ?_))))))))
 show wpAny _ _ (getAttrByItsOwn _ _ _ _ _ _) _ _ _
 unfold getAttrByItsOwn
 refine Qa (L2.at ?_)
 refine Qa (JZ (Q9 ?_))
 show wpAny _ _ (boundAndCalled _ _ _) _ _ _
 unfold boundAndCalled
 rw[f3]
 refine Qa (Qd ?_)
 show wpAny _ _ (call (.builtin "BaseException.__getattribute__") [.ref x,.str "__class__" t]) _ _ _
 refine VE (OH (s:=⟨hh,g,d,t+1,os⟩) X I XC ?_)
 exact handed_on rfl (Qd h)
def Bw{D:Addr}(X:K.In h)(e:(clsIn K D).isSome=true):Looks M h (isType (.ref D)) true:=by
 unfold clsIn at e
 split at e
 next c' d' cd' tR ho=>
  intro A' Q' E' s' k q
  unfold isType loadHead
  exact Qa (wpAny_loadPart (k _ _ (X _ _ ho)) (Qd q))
 ·cases e
def FE{c:Value}{i6:Int}{tk:Tok}{Q:Fin->Shared->Prop}(X:K.In s.heap)(I:jy s.heap x ox C)(XC:fu K C)(oB:Looks (model prog w) s.heap (typeOf c) (.type "type"))(gX:Looks (model prog w) s.heap (isType c) true)
  (bK:(Value.ref C==c)=false) (cz:Looks (model prog w) s.heap (isSubtype (.ref C) c) false) (h:Q (.done (.ret (.bool false))) { s with toks:=s.toks+1 }) :
  wpAny (model prog w) A (Builtin.«isinstance.nested» ⟨[.ref x,c,.int i6 tk],[]⟩) Q E s:=by
 have Bx:=Bw (M:=model prog w) X XC.ci
 obtain⟨h0,g,d,tt,os⟩:=s
 have L0:=I.type (M:=model prog w)
 have LI:Looks (model prog w) h0 (isInstance (.ref x) c) false:=L0.andThen cz
 unfold Builtin.«isinstance.nested»
 refine Qa (L0.at ?_)
 rw[Qi (fun q=>by rw[bK]at q;exact Bool.noConfusion q)]
 refine Qa (oB.at ?_)
 rw[Qf (by decide)]
 k_delta "plainIsInstance"
 refine Qa (Qa (gX.at ?_))
 simp only[ZX,Qu,Zj]
 refine Qa (LI.at ?_)
 simp only[Qu,Zj]
 refine Qa (OI X I XC ?_)
 refine Qa (Bx.at ?_)
 simp only[ZX,Qu,Zj]
 refine Qa (Y2 ?_)
 refine cz.at ?_
 first
  | exact Qd h
  | exact Qd (Qd h)
  | exact Qa (Qd (Qd h))
def OJ{D:Addr}(X:K.In s.heap)(I:jy s.heap x ox C)(XC:fu K C)(e:kin_not K C D=true)(h:Q (.bool false) { s with toks:=s.toks+1 }):wpAny (model prog w) A (call (.builtin "isinstance") [.ref x,.ref D]) Q E s:=by
 unfold kin_not at e
 rw[Jt,Jt,Jt]at e
 obtain⟨⟨⟨e0,e1⟩,e2⟩,e3⟩:=e
 have bK:(Value.ref C==Value.ref D)=false:=Bool.eq_false_iff.mpr fun q=>Q5 e0 (Value.ref.inj (Zy.mp q))
 exact VL (S:=fun _ R s=>(K.In s.heap/\jy s.heap x ox C)/\R (.ok (.ret (.bool false))) { s with toks:=s.toks+1 })
  (fun _ _ _ _ _ hs=>Vu (FE hs.1.1 hs.1.2 XC (looks_typeIn hs.1.1 (Zy.mp e2)) (Bw hs.1.1 e1) bK (VX hs.1.1 (Zy.mp e3)) hs.2) (by intro q;cases q)) ⟨⟨X,I⟩,h⟩
def OK{D:Addr}(X:K.In s.heap)(I:jy s.heap x ox C)(e:isIn K (.ref C) D=true)(h:Q (.bool true) s):wpAny (model prog w) A (call (.builtin "isinstance") [.ref x,.ref D]) Q E s:=
 isi_call X (fun M=>I.type) e (by intro q;cases q) h
def OL(X:K.In s.heap)(I:jy s.heap x ox C)(oB:typeOf (.type T)=pure (.type "type"))(e:subIn K (.ref C) (.type T)=some true)(h:Q (.bool true) s):wpAny (model prog w) A (call (.builtin "isinstance") [.ref x,.type T]) Q E s:=
 VL (S:=fun _ R s=>(K.In s.heap/\jy s.heap x ox C)/\R (.ok (.ret (.bool true))) s) (fun prog w A R s hs=>Vu (by
  obtain⟨⟨X,I⟩,h⟩:=hs
  obtain⟨h0,g,d,tt,os⟩:=s
  have L0:=I.type (M:=model prog w)
  have LI:Looks (model prog w) h0 (isInstance (.ref x) (.type T)) true:=L0.andThen (VX X e)
  have hT:Looks (model prog w) h0 (typeOf (.type T)) (.type "type"):=YA oB
  have hI:Looks (model prog w) h0 (isType (.type T)) true:=YA rfl
  unfold Builtin.«isinstance.nested»
  refine Qa (L0.at ?_)
  rw[Qi (fun q=>by cases Zy.mp q)]
  refine Qa (hT.at ?_)
  rw[Qf (by decide)]
  k_delta "plainIsInstance"
  refine Qa (Qa (hI.at ?_))
  simp only[ZX,Qu,Zj]
  refine Qa (LI.at ?_)
  simp only[Zv]
  exact Qd (Qd h)) (by intro q;cases q)) ⟨⟨X,I⟩,h⟩
def OM(X:K.In s.heap)(I:jy s.heap x ox C)(XC:fu K C)(oB:typeOf (.type T)=pure (.type "type"))(e:subIn K (.ref C) (.type T)=some false)(h:Q (.bool false) { s with toks:=s.toks+1 }):wpAny (model prog w) A (call (.builtin "isinstance") [.ref x,.type T]) Q E s:=
 VL (S:=fun _ R s=>(K.In s.heap/\jy s.heap x ox C)/\R (.ok (.ret (.bool false))) { s with toks:=s.toks+1 })
  (fun _ _ _ _ _ hs=>Vu (FE hs.1.1 hs.1.2 XC (YA oB) (YA rfl) (Bool.eq_false_iff.mpr fun q=>by cases Zy.mp q) (VX hs.1.1 e) hs.2) (by intro q;cases q)) ⟨⟨X,I⟩,h⟩
end
def By:List Value:=[.type "ValueError",.type "Exception",.type "BaseException",.type "object"]
structure i7 (K:Frag) (nm:Str) (C:Addr):Prop where
 ns:nsIn K mainGlobals nm=some (some (.ref C))
 xc:fu K C
 ex:excIn K C By "ValueError.__new__" = true
 ve:subIn K (.ref C) (.type "ValueError")=some true
 no:∀ T ∈ ["int","bool","tuple","list","str"],subIn K (.ref C) (.type T)=some false
def XO (K:Frag)(nm:Str)(ob:Obj):Prop:=∃ C,ob.cls=.ref C/\i7 K nm C
end L3
namespace L3
open PySem PySem.Spec PyProof.Rows L2
variable {A:Around}{E:XK}{F:List Addr}{H H' H1 H2:Hp}{K:PySem.W.Frag}{N ps:List Str}{X:Cx}{a p:Addr}{b c:Int}{deep:Bool}{e tg:Expr}{es:List Expr}{fd:FuncData}{h:Int->Int->V}{i n t':Nat}{op:CmpOp}{r:R2}{te:TE}{u:Tok}{v:V}{vs xs:List V}{x:HO}{y:Option HO}
def yD:Slot "function" "__getattribute__" "object.__getattribute__" :=
 .of (owner:="object") (n:="__getattribute__") (by rw[YJ,JH];kernel_rfl) (by decide +kernel) (by decide +kernel) (by decide +kernel)
  (by first|exact .inl (by decide +kernel)|exact .inr (by decide +kernel)) (by rw[Yk];kernel_rfl)
def ON:typeLookup (.type "function") "__class__" = pure (some (.builtin "object.__class__")):=by rw[YJ,JH];kernel_rfl
def OO:isSubtype (.type "function") (.type (".".intercalate ("object.__class__".cutAt '.').dropLast))=pure true:=by
 rw[PySem.F.owner_object_class,Yk];kernel_rfl
def OP:entryFor table "object.__getattribute__" = some Builtin.«object.__getattribute__»:=entryFor_of_tree (by kernel_rfl)
def OQ(a b:Value):argsOk "object.__getattribute__" ⟨[a,b],[]⟩:=by unfold argsOk;kernel_rfl
section
variable {prog:Program}{w:World}{A:Around}{E:Value->Shared->Prop}{s:Shared}{a:Addr}
def OR{R:Result->Shared->Prop}(hT:s.TypeIs (.ref a) "function")(hq:R (.ok (.ret (.type "function"))) s) :
  codeAny (model prog w) A (.call (.builtin "getset_descriptor.__get__") ⟨[.builtin "object.__class__",.ref a,.type "function"],[]⟩) R s:=by
 obtain⟨h,g,d,t,os⟩:=s
 have h5:(⟨h,g,d,t,os⟩:Shared).TypeIs (.builtin "object.__class__") "getset_descriptor":=JI
 have f8:=OO
 refine Jj YR.plain PySem.F.entry_gs_get (YR.check _ _ _ _ _ _ _ _ h5 (PySem.F.args_gs_get _ _ _) ?_)
 repeat (any_goals (first|assumption|wp_step))
 refine⟨Y0 _ (by decide +kernel),Z4 PySem.F.entry_object_class ?_⟩
 repeat (any_goals (first|assumption|wp_step))
def OS{Q:Option Value->Shared->Prop}(hT:s.TypeIs (.ref a) "function")(hq:Q (some (.type "function")) { s with toks:=s.toks+1 }):wpAny (model prog w) A (getAttr? (.ref a) "__class__") Q E s:=by
 obtain⟨h,g,d,t,os⟩:=s
 have FF:∀ t',(⟨h,g,d,t',os⟩:Shared).TypeIs (.ref a) "function":=fun _=>hT
 have en:∀ {tk:Tok} {t':Nat} {Q:Fin->Shared->Prop} {E:Value->Shared->Prop} {A:Around},Q (.done (.ret (.type "function"))) ⟨h,g,d,t',os⟩->
   wpAny (model prog w) A (Builtin.«object.__getattribute__» ⟨[.ref a,.str "__class__" tk],[]⟩) Q E ⟨h,g,d,t',os⟩:=by
  intro tk t' Q E A hq
  have hT:=FF t'
  have h5:(⟨h,g,d,t',os⟩:Shared).TypeIs (.builtin "object.__class__") "getset_descriptor":=JI
  have f4:=ON
  have f5:=JI
  have f6:=YR.lookup
  have f7:=PySem.F.slot_gs_set.lookup
  repeat (any_goals (first|assumption|wp_step))
  refine OR hT ?_
  repeat (any_goals (first|assumption|wp_step))
 have OT:∀ {tk:Tok} {t':Nat} {Q:Value->Shared->Prop} {E:Value->Shared->Prop} {A:Around},Q (.type "function") ⟨h,g,d,t',os⟩->wpAny (model prog w) A (getAttrBy (.ref a) (.str "__class__" tk) false) Q E ⟨h,g,d,t',os⟩:=by
  intro tk t' Q E A hq
  have hT:=FF t'
  have f2:=yD.lookup
  have f3:=yD.bind (.ref a)
  repeat (any_goals (first|assumption|wp_step))
  refine Jj yD.plain OP (yD.check _ _ _ _ _ _ _ _ hT (OQ _ _) (en ?_))
  repeat (any_goals (first|assumption|wp_step))
 unfold getAttr? getAttrBy?
 repeat (any_goals (first|assumption|with_reducible apply OT | wp_step))
def OU:PySem.W.KitX K (.ref a) (.type "function") (PySem.W.KitAt a "function"):=PySem.W.kitx_of PySem.W.kitAt_ty (fun {_ _ _ _ _ s} p k=>OS (by obtain⟨o,h1,h2⟩:=p;exact⟨o,h1,h2⟩) k)
end
def nM{α:Type}{P:α->Prop}(a:α)(z:a∈([]:List α)):P a:=nomatch z
inductive MK where
 | t (ks:List (List Key))
 | k (ks:List Key)
 | i (C:Addr) (fs:List Str)
def MK.len:MK->Nat
 | .t ks=>ks.length
 | .k ks=>ks.length
 | .i _ fs=>fs.length
inductive D where
 | aK|bl (b:Bool)|int (i:Int)|str (x:Str)|tup (ds:List D)|lst (ds:List D)
 | gr (ks:List Str) (ds:List D)
 | exc (nm:Str)
 | ob (f:Addr) (fo:Obj) (vs:List V) (ds:List D)
 | mp (k:MK) (ds:List D)
abbrev St:=L2.St
inductive Ow where
 | s (i:Nat)|t (i:Nat)|f
 deriving DecidableEq
abbrev Wn:=Addr->Option Ow
def KL (K:PySem.W.Frag)(a:Addr)(xs:List V):Prop:=
 ∃ (o:Obj) (aq:Array Value) (n:Nat),K.lookup a=some o/\o.cls=.type "list" /\ o.dict=none/\o.data=.seq aq n/\aq.size<=sizeLine/\bq xs aq.toList
def cE.cases(h:cE K H a xs):Rd H a (.lst xs)\/KL K a xs:=h
def KL.sq(h:KL K a xs):cE K H a xs:=.inr h
def mz (ks:List Str)(vs:List V):List (Key×V):=(ks.map fun x=>(Sum.inr x:Key)).zip vs
def OV (fo:Obj)(c:Addr)(oc:Obj):Prop:=fo.cls=.type "function" /\ (∃ fd,fo.data=.func fd/\fd.code=.ref c)/\∃ fs q t,oc.data=.fields fs/\fs[1]? = some (.str q t)
structure Bz (K:PySem.W.Frag) (C:Addr):Prop where
 cl:L2.yk K C
 ha:PySem.W.findIn K (.ref C) "__class__" = some (some (.builtin "object.__class__"))
 hn:PySem.W.specialIn K (.builtin "object.__class__") "__get__" = some (some (.builtin "getset_descriptor.__get__"))
 u_:PySem.W.takesIn K (.builtin "object.__class__")=some true
 hm:PySem.W.mroIn K C (.type "object")=some true
 no:∀ t∈(["bool","int","tuple","list","str"]:List String),PySem.W.kitOne K (.ref C) (.type t)=some false
def MK.Is (K:PySem.W.Frag):MK->List V->HO->Prop
 | .t ks,vs,x=>x=.dT (ks.zip vs)
 | .k ks,vs,x=>x=.dK (ks.zip vs)
 | .i C fs,vs,x=>∃ dx,x=.ins C dx (fs.zip vs)/\Bz K C
mutual
inductive Rep (K:PySem.W.Frag) (H:Hp) (w:Wn) (o:Ow):Nat->D->V->List Addr->Prop
 | aK {q}:Rep K H w o q .aK .aK []
 | bl {q} (b:Bool):Rep K H w o q (.bl b) (.bl b) []
 | int {q} (i:Int):Rep K H w o q (.int i) (.int i) []
 | str {q} (x:Str):Rep K H w o q (.str x) (.str x) []
 | tup {q} {a:Addr} {vs:List V} {ds:List D}:H a=some (.tup vs)->af K H w o 0 ds vs []->Rep K H w o q (.tup ds) (.ref a) []
 | gr {q} {a:Addr} {ks:List Str} {vs:List V} {ds:List D}:H a=some (.dK (mz ks vs))->w a=none->af K H w o 0 ds vs []->Rep K H w o q (.gr ks ds) (.ref a) []
 | exc {q} {a:Addr} {nm:Str} {ob:Obj} {u:HO}:H a=some (.eE ob u)->XO K nm ob->(∀ xs,u ≠ .lst xs)->Rep K H w o q (.exc nm) (.ref a) []
 | ob {q} {f c:Addr} {fo oc:Obj} {u u':HO} {vs:List V} {ds:List D}:H f=some (.eE fo u)->H c=some (.eE oc u')->OV fo c oc->af K H w o 0 ds vs []->Rep K H w o q (.ob f fo vs ds) (.ref f) []
 | kl {a:Addr} {vs:List V} {ds:List D}:KL K a vs->af K H w o 0 ds vs []->Rep K H w o 0 (.lst ds) (.ref a) []
 | shr {a:Addr} {vs:List V} {ds:List D}:Rd H a (.lst vs)->w a=none->af K H w o 0 ds vs []->Rep K H w o 0 (.lst ds) (.ref a) []
 | own {q} {a:Addr} {vs:List V} {ds:List D} {F:List Addr}:H a=some (.lst vs)->w a=some o->af K H w o q ds vs F->a ∉ F->Rep K H w o (q+1) (.lst ds) (.ref a) (a::F)
 | nO {a:Addr} {vs:List V} {ds:List D} {k:MK} {x:HO}:H a=some x->k.Is K vs x->w a=none->k.len=ds.length->af K H w o 0 ds vs []->Rep K H w o 0 (.mp k ds) (.ref a) []
 | kW {q} {a:Addr} {vs:List V} {ds:List D} {k:MK} {x:HO}:H a=some x->k.Is K vs x->w a=some o->k.len=ds.length->af K H w o 0 ds vs []->Rep K H w o (q+1) (.mp k ds) (.ref a) [a]
inductive af (K:PySem.W.Frag) (H:Hp) (w:Wn) (o:Ow):Nat->List D->List V->List Addr->Prop
 | nil {q}:af K H w o q [] [] []
 | cons {q} {d:D} {v:V} {ds:List D} {vs:List V} {F G:List Addr}:Rep K H w o q d v F->af K H w o q ds vs G->(∀ a∈F,a ∉ G)->af K H w o q (d::ds) (v::vs) (F++G)
end
def BA:HO->Bool
 | .lst _=>true
 | .dK _=>true
 | .dT _=>true
 | .ins _ _ _=>true
 | _=>false
inductive OX where
 | l (vs:List V)|t (ai:List (List Key×V))|k (ai:List (Key×V))|i (C dx:Addr) (fs:List (Str×V))
def OX.ho:OX->HO
 | .l vs=>.lst vs
 | .t ai=>.dT ai
 | .k ai=>.dK ai
 | .i C dx fs=>.ins C dx fs
def OX.is(v:OX):BA v.ho=true:=by cases v<;>rfl
def MK.ox{k:MK}(h:k.Is K vs x):∃ v:OX,x=v.ho:=by
 cases k with
 | t ks=>exact⟨.t _,h⟩
 | k ks=>exact⟨.k _,h⟩
 | i C fs=>obtain⟨dx,h,_⟩:=h;exact⟨.i _ _ _,h⟩
def oH:HO->Bool
 | .jt _=>true
 | _=>false
def Sm (x:HO)(y:Option HO):Prop:=match x with
 | .jt _=>∃ ps,y=some (.jt ps)
 | x=>y=some x
def sm(h:y=some x):Sm x y:=by cases x<;>first|exact h|exact⟨_,h⟩
def Sm.is(h:Sm x y):∃ z,y=some z/\oH z=oH x:=by
 cases x<;>first|exact⟨_,h,rfl⟩|(obtain⟨ps,e⟩:=h;exact⟨_,e,rfl⟩)
def Sm.eq(h:Sm x y)(n:oH x=false):y=some x:=by cases x<;>first|exact h|cases n
def t6:List Str:=["turned","chain_ladder","flat_ladder","paired","height_of","_law_high"]
structure TB (K:PySem.W.Frag) (H:Hp):Prop where
 tr:∀ P ps,H P=some (.jt ps)->PySem.TriplesOk ps.toList
 cd:∀ P ps,H P=some (.jt ps)->∀ pos cv,PySem.codeAmong pos ps.toList=some cv->∃ c oc u vs q t,cv=.ref c/\H c=some (.eE oc u)/\oc.data=.fields vs/\vs[1]? = some (.str q t)/\∀ xs,u ≠ .lst xs
 is:∀ x∈t6,∀ c P,PySem.W.tabIn K x=some (c,P)->∃ ps,H P=some (.jt ps)
structure WL (K:PySem.W.Frag) (w:Wn) (H:Hp):Prop where
 own:∀ a o,w a=some o->∃ vs:OX,H a=some vs.ho
 tb:TB K H
instance {K:PySem.W.Frag} {w:Wn} {H:Hp}:CoeFun (WL K w H) (fun _=>∀ a o,w a=some o->∃ vs:OX,H a=some vs.ho):=⟨WL.own⟩
def TB.upd(t:TB K H)(hx:oH x=false)(hp:H p=none\/∃ vs:OX,H p=some vs.ho):TB K (L2.upd H p x):=by
 have ne:∀ a y,H a=some y->BA y=false->a≠p:=fun a y e h z=>by
  subst z
  rcases hp with q|⟨vs,q⟩
  ·rw[e]at q;cases q
  ·rw[e]at q
   rw[QF q,vs.is]at h
   cases h
 refine⟨fun P ps e=>?_,fun P ps e pos cv hc=>?_,fun x hx c P hP=>by
  obtain⟨ps,e⟩:=t.is x hx c P hP
  exact⟨ps,by rw[bc (ne P _ e rfl)];exact e⟩⟩
 ·by_cases hP:P=p
  ·subst hP;rw[fX]at e;cases e;cases hx
  ·rw[bc hP]at e;exact t.tr P ps e
 ·by_cases hP:P=p
  ·subst hP;rw[fX]at e;cases e;cases hx
  ·rw[bc hP]at e
   obtain⟨c,oc,u,vs,q,tt,h1,h2,h3,h4,h5⟩:=t.cd P ps e pos cv hc
   exact⟨c,oc,u,vs,q,tt,h1,by rw[bc (ne c _ h2 rfl)];exact h2,h3,h4,h5⟩
def de (H:Hp)(w:Wn)(H':Hp)(w':Wn):Prop:=∀ a x,H a=some x->w a=none->Sm x (H' a)/\w' a=none
def de.trans{w w1 w2:Wn}(a:de H w H1 w1)(b:de H1 w1 H2 w2):de H w H2 w2:=fun c x h n=>by
 obtain⟨s1,n1⟩:=a c x h n
 cases ht:oH x with
 | false=>exact b c x (s1.eq ht) n1
 | true=>
  obtain⟨y,e,hy⟩:=s1.is
  obtain⟨s2,n2⟩:=b c y e n1
  refine⟨?_,n2⟩
  rw[ht]at hy
  cases x with
  | jt ps=>
   cases y with
   | jt ps'=>exact s2
   | _=>cases hy
  | _=>cases ht
def WL.t7{w:Wn}(wl:WL K w H)(e:H a=some x)(h:BA x=false):w a=none:=by
 cases q:w a with
 | none=>rfl
 | some o=>
  obtain⟨vs,e'⟩:=wl a o q
  rw[e]at e'
  rw[QF e',vs.is]at h
  cases h
def du.go{w w':Wn}(wl:WL K w H)(st:de H w H' w')(h:du K H a vs):du K H' a vs:=by
 rcases h with(h|⟨o,h⟩)|h
 ·exact .inl (.inl (st a _ h (wl.t7 h rfl)).1)
 ·exact .inl (.inr ⟨o,(st a _ h (wl.t7 h rfl)).1⟩)
 ·exact .inr h
def yE.go{w w':Wn}(st:de H w H' w')(n:w a=none)(h:Rd H a (.lst vs)):Rd H' a (.lst vs)/\w' a=none:=by
 rcases h with h|⟨o,h⟩
 ·exact⟨.inl (st a _ h n).1,(st a _ h n).2⟩
 ·exact⟨.inr ⟨o,(st a _ h n).1⟩,(st a _ h n).2⟩
def Rep.go{w w':Wn}{o o':Ow}(wl:WL K w H)(st:de H w H' w'):∀ {q:Nat} {d:D} {v:V} {F:List Addr},Rep K H w o q d v F->(∀ a∈F,H' a=H a/\w' a=some o')->Rep K H' w' o' q d v F:=by
 intro q d v F r
 refine Rep.rec (motive_1:=fun q d v F _=>(∀ a∈F,H' a=H a/\w' a=some o')->Rep K H' w' o' q d v F) (motive_2:=fun q ds vs F _=>(∀ a∈F,H' a=H a/\w' a=some o')->af K H' w' o' q ds vs F) ?_ ?_ ?_ ?_ ?_ ?_ ?_ ?_ ?_ ?_ ?_ ?_ ?_ ?_ ?_ r
 ·intro q _;exact .aK
 ·intro q b _;exact .bl b
 ·intro q i _;exact .int i
 ·intro q x _;exact .str x
 ·intro q a vs ds h r ih _;exact .tup (st _ _ h (wl.t7 h rfl)).1 (ih nM)
 ·intro q a ks vs ds h n r ih _;exact .gr (st _ _ h n).1 (st _ _ h n).2 (ih nM)
 ·intro q a nm ob u h x n _;exact .exc (st _ _ h (wl.t7 h rfl)).1 x n
 ·intro q f c fo oc u u' vs ds h1 h2 x r ih _;exact .ob (st _ _ h1 (wl.t7 h1 rfl)).1 (st _ _ h2 (wl.t7 h2 rfl)).1 x (ih nM)
 ·intro a vs ds h r ih _;exact .kl h (ih nM)
 ·intro a vs ds h n r ih _;exact .shr (yE.go st n h).1 (yE.go st n h).2 (ih nM)
 ·intro q a vs ds F h e r ne ih k;exact .own ((k _ Ql).1.trans h) (k _ Ql).2 (ih fun a m=>k a (Qj _ m)) ne
 ·intro a vs ds k x h i n l r ih _
  have nt:oH x=false:=by
   obtain⟨v,rfl⟩:=MK.ox i
   cases v<;>rfl
  exact .nO ((st _ _ h n).1.eq nt) i (st _ _ h n).2 l (ih nM)
 ·intro q a vs ds k x h i e l r ih kk;exact .kW ((kk _ Ql).1.trans h) i (kk _ Ql).2 l (ih nM)
 ·intro q _;exact .nil
 ·intro q d v ds vs F G r s ne kX kY k;exact .cons (kX fun a m=>k a (Qz _ m)) (kY fun a m=>k a (Qp _ m)) ne
theorem af.go{w w':Wn}{o o':Ow}(wl:WL K w H)(st:de H w H' w'):∀ {q:Nat} {ds:List D} {vs:List V} {F:List Addr},af K H w o q ds vs F->(∀ a∈F,H' a=H a/\w' a=some o')->af K H' w' o' q ds vs F
 | _,_,_,_,.nil,_=>.nil
 | _,_,_,_,.cons r s ne,k=>.cons (Rep.go wl st r fun a m=>k a (Qz _ m)) (af.go wl st s fun a m=>k a (Qp _ m)) ne
def Rep.freeze{w w':Wn}{o o':Ow}(n:∀ a,w a=none->w' a=none):∀ {q:Nat} {d:D} {v:V} {F:List Addr},Rep K H w o q d v F->(∀ a∈F,w' a=none)->Rep K H w' o' 0 d v []:=by
 intro q d v F r
 refine Rep.rec (motive_1:=fun q d v F _=>(∀ a∈F,w' a=none)->Rep K H w' o' 0 d v []) (motive_2:=fun q ds vs F _=>(∀ a∈F,w' a=none)->af K H w' o' 0 ds vs []) ?_ ?_ ?_ ?_ ?_ ?_ ?_ ?_ ?_ ?_ ?_ ?_ ?_ ?_ ?_ r
 ·intro q _;exact .aK
 ·intro q b _;exact .bl b
 ·intro q i _;exact .int i
 ·intro q x _;exact .str x
 ·intro q a vs ds h r ih _;exact .tup h (ih nM)
 ·intro q a ks vs ds h e r ih _;exact .gr h (n _ e) (ih nM)
 ·intro q a nm ob u h x n _;exact .exc h x n
 ·intro q f c fo oc u u' vs ds h1 h2 x r ih _;exact .ob h1 h2 x (ih nM)
 ·intro a vs ds h r ih _;exact .kl h (ih nM)
 ·intro a vs ds h e r ih _;exact .shr h (n _ e) (ih nM)
 ·intro q a vs ds F h e r ne ih k;exact .shr (Rd.of h) (k _ Ql) (ih fun a m=>k a (Qj _ m))
 ·intro a vs ds k x h i e l r ih _;exact .nO h i (n _ e) l (ih nM)
 ·intro q a vs ds k x h i e l r ih kk;exact .nO h i (kk _ Ql) l (ih nM)
 ·intro q _;exact .nil
 ·intro q d v ds vs F G r s ne kX kY k;exact .cons (F:=[]) (G:=[]) (kX fun a m=>k a (Qz _ m)) (kY fun a m=>k a (Qp _ m)) nM
theorem af.freeze{w w':Wn}{o o':Ow}(n:∀ a,w a=none->w' a=none):∀ {q:Nat} {ds:List D} {vs:List V} {F:List Addr},af K H w o q ds vs F->(∀ a∈F,w' a=none)->af K H w' o' 0 ds vs []
 | _,_,_,_,.nil,_=>.nil
 | _,_,_,_,.cons r s ne,k=>.cons (F:=[]) (G:=[]) (Rep.freeze n r fun a m=>k a (Qz _ m)) (af.freeze n s fun a m=>k a (Qp _ m)) nM
def Rep.aC{w:Wn}{o:Ow}:∀ {q:Nat} {d:D} {v:V} {F:List Addr},Rep K H w o q d v F->∀ a∈F,w a=some o:=by
 intro q d v F r
 refine Rep.rec (motive_1:=fun q d v F _=>∀ a∈F,w a=some o) (motive_2:=fun q ds vs F _=>∀ a∈F,w a=some o) ?_ ?_ ?_ ?_ ?_ ?_ ?_ ?_ ?_ ?_ ?_ ?_ ?_ ?_ ?_ r
 ·intro q a m;exact(QJ m).elim
 ·intro q b a m;exact(QJ m).elim
 ·intro q i a m;exact(QJ m).elim
 ·intro q x a m;exact(QJ m).elim
 ·intro q a vs ds h r ih b m;exact(QJ m).elim
 ·intro q a ks vs ds h e r ih b m;exact(QJ m).elim
 ·intro q a nm ob u h x n b m;exact(QJ m).elim
 ·intro q f c fo oc u u' vs ds h1 h2 x r ih b m;exact(QJ m).elim
 ·intro a vs ds h r ih b m;exact(QJ m).elim
 ·intro a vs ds h e r ih b m;exact(QJ m).elim
 ·intro q a vs ds F h e r ne ih b m
  rcases Qs.mp m with z|z
  ·rw[z];exact e
  ·exact ih b z
 ·intro a vs ds k x h i e l r ih b m;exact(QJ m).elim
 ·intro q a vs ds k x h i e l r ih b m
  rw[Qr.mp m];exact e
 ·intro q a m;exact(QJ m).elim
 ·intro q d v ds vs F G r s ne kX kY a m
  rcases QG.mp m with z|z
  ·exact kX a z
  ·exact kY a z
theorem af.aC{w:Wn}{o:Ow}:∀ {q:Nat} {ds:List D} {vs:List V} {F:List Addr},af K H w o q ds vs F->∀ a∈F,w a=some o
 | _,_,_,_,.nil,a,m=>(QJ m).elim
 | _,_,_,_,.cons r s ne,a,m=>(QG.mp m).elim (r.aC a) (s.aC a)
def D.cK:D->Bool
 | .lst _=>true
 | .mp _ _=>true
 | _=>false
@[simp] theorem D.yF:D.cK .aK=false:=rfl
@[simp] theorem D.BB(b:Bool):D.cK (.bl b)=false:=rfl
@[simp] theorem D.yG(i:Int):D.cK (.int i)=false:=rfl
@[simp] theorem D.yH(x:Str):D.cK (.str x)=false:=rfl
@[simp] theorem D.yI(ds:List D):D.cK (.tup ds)=false:=rfl
@[simp] theorem D.yJ(ks:List Str)(ds:List D):D.cK (.gr ks ds)=false:=rfl
@[simp] theorem D.yK(nm:Str):D.cK (.exc nm)=false:=rfl
@[simp] theorem D.BC(f:Addr)(fo:Obj)(vs:List V)(ds:List D):D.cK (.ob f fo vs ds)=false:=rfl
@[simp] theorem D.BD(k:MK)(ds:List D):D.cK (.mp k ds)=true:=rfl
@[simp] theorem D.yL(ds:List D):D.cK (.lst ds)=true:=rfl
def Rep.fx{w:Wn}{o:Ow}{q:Nat}{d:D}(r:Rep K H w o q d v F)(h:d.cK=false):F=[]/\∀ q',Rep K H w o q' d v []:=by
 cases r with
 | aK=>exact⟨rfl,fun _=>.aK⟩
 | bl b=>exact⟨rfl,fun _=>.bl b⟩
 | int i=>exact⟨rfl,fun _=>.int i⟩
 | str x=>exact⟨rfl,fun _=>.str x⟩
 | tup h' r'=>exact⟨rfl,fun _=>.tup h' r'⟩
 | gr h' e' r'=>exact⟨rfl,fun _=>.gr h' e' r'⟩
 | exc h' x n=>exact⟨rfl,fun _=>.exc h' x n⟩
 | ob h1 h2 x r=>exact⟨rfl,fun _=>.ob h1 h2 x r⟩
 | kl=>cases h
 | shr=>cases h
 | own=>cases h
 | nO=>cases h
 | kW=>cases h
def Rep.zero{w:Wn}{o:Ow}{d:D}(r:Rep K H w o 0 d v F):F=[]:=by
 cases r<;>rfl
theorem af.zero{w:Wn}{o:Ow}:∀ {ds:List D} {vs:List V} {F:List Addr},af K H w o 0 ds vs F->F=[]
 | _,_,_,.nil=>rfl
 | _,_,_,.cons r s _=>by rw[r.zero,s.zero];rfl
theorem af.length{w:Wn}{o:Ow}{q:Nat}:∀ {ds:List D} {vs:List V} {F:List Addr},af K H w o q ds vs F->ds.length=vs.length
 | _,_,_,.nil=>rfl
 | _,_,_,.cons _ s _=>by simp[s.length]
def Rep.any{w:Wn}{o o':Ow}{q:Nat}{d:D}(r:Rep K H w o q d v [])(wl:WL K w H):Rep K H w o' q d v []:=
 Rep.go wl (fun a x h n=>⟨sm h,n⟩) r nM
def af.any{w:Wn}{o o':Ow}{q:Nat}{d:List D}{v:List V}(r:af K H w o q d v [])(wl:WL K w H):af K H w o' q d v []:=
 af.go wl (fun a x h n=>⟨sm h,n⟩) r nM
theorem af.get{w:Wn}{o:Ow}:∀ {ds:List D} {vs:List V} {i:Nat} {d:D},af K H w o 0 ds vs []->ds[i]? = some d->∃ v,vs[i]? = some v/\Rep K H w o 0 d v []
 | ds,vs,i,d,r,e=>by
  generalize hF:([]:List Addr)=F at r
  cases r with
  | nil=>simp at e
  | @cons _ d' v' cx eS F' G' r s _=>
   have h1:F'=[]:=r.zero
   have h2:G'=[]:=s.zero
   subst h1 h2
   cases i with
   | zero=>simp at e;subst e;exact⟨v',rfl,r⟩
   | succ j=>
    obtain⟨v,h1,h2⟩:=af.get (i:=j) (d:=d) s (by simpa using e)
    exact⟨v,by simpa using h1,h2⟩
theorem af.snoc{w:Wn}{o:Ow}{q:Nat}{d:D}{G:List Addr}(r':Rep K H w o q d v G):∀ {ds:List D} {vs:List V} {F:List Addr},af K H w o q ds vs F->(∀ a∈F,a ∉ G)->af K H w o q (ds++[d]) (vs++[v]) (F++G)
 | _,_,_,.nil,_=>by
  have:af K H w o q [d] [v] (G++[]):=.cons r' .nil (fun a _ z=>nomatch z)
  simpa using this
 | _,_,_,.cons (F:=F) (G:=F') r s ne,k=>by
  rw[Zz]
  refine .cons r (af.snoc r' s fun a m=>k a (Qp _ m)) fun a m z=>?_
  rcases QG.mp z with z|z
  ·exact ne a m z
  ·exact k a (Qz _ m) z
abbrev OD:=Option (D×Nat)
abbrev aW:=List (OD)
structure Good (K:PySem.W.Frag) (ρ:aW) (σ:St) (H:Hp) (w:Wn) (t:Nat):Prop where
 wl:WL K w H
 ws:∀ a i,w a=some (.s i)->i<σ.length
 wt:∀ a i,w a=some (.t i)->i<t
 len:ρ.length=σ.length
 slot:∀ (i:Nat) d q,ρ[i]? = some (some (d,q))->∃ v F,σ[i]? = some (some v)/\Rep K H w (.s i) q d v F
structure Go (H:Hp) (w:Wn) (H':Hp) (w':Wn):Prop where
 bA:de H w H' w'
 keep:∀ a o,w a=some o->(∀ i,o ≠ .s i)->H' a=H a/\w' a=some o
def Go.refl{w:Wn}:Go H w H w:=⟨fun a x h n=>⟨sm h,n⟩,fun a o e _=>⟨rfl,e⟩⟩
def Go.trans{w w1 w2:Wn}(a:Go H w H1 w1)(b:Go H1 w1 H2 w2):Go H w H2 w2:=
 ⟨a.bA.trans b.bA,fun c o e h=>by
   obtain⟨h1,w1⟩:=a.keep c o e h
   obtain⟨h2,w2⟩:=b.keep c o w1 h
   exact⟨h2.trans h1,w2⟩⟩
def Rep.gone{w w':Wn}{q:Nat}{d:D}(r:Rep K H w (.t i) q d v F)(wl:WL K w H)(g:Go H w H' w'):Rep K H' w' (.t i) q d v F:=
 Rep.go wl g.bA r fun a m=>g.keep a _ (r.aC a m) (fun _ z=>nomatch z)
def af.gone{w w':Wn}{q:Nat}{d:List D}{v:List V}(r:af K H w (.t i) q d v F)(wl:WL K w H)(g:Go H w H' w'):af K H' w' (.t i) q d v F:=
 af.go wl g.bA r fun a m=>g.keep a _ (r.aC a m) (fun _ z=>nomatch z)
def bG (t:Nat)(w:Wn):Wn:=fun a=>match w a with
 | some (.t i)=>if t<=i then none else some (.t i)
 | x=>x
def yM{t:Nat}{w:Wn}(h:w a=none):bG t w a=none:=by unfold bG;rw[h]
def OW{t:Nat}{w:Wn}(h:w a=some (.s i)):bG t w a=some (.s i):=by unfold bG;rw[h]
def OY{t:Nat}{w:Wn}(h:w a=some .f):bG t w a=some .f:=by unfold bG;rw[h]
def OZ{t:Nat}{w:Wn}(h:w a=some (.t i))(hi:i<t):bG t w a=some (.t i):=by unfold bG;rw[h];exact Qi (by omega)
def O0{t:Nat}{w:Wn}(h:w a=some (.t i))(hi:t<=i):bG t w a=none:=by unfold bG;rw[h];exact Qf hi
def BE{t:Nat}{w:Wn}{o:Ow}(h:bG t w a=some o):w a=some o/\∀ i,o=.t i->i<t:=by
 unfold bG at h
 cases e:w a with
 | none=>rw[e]at h;cases h
 | some o'=>
  rw[e]at h
  cases o' with
  | s i=>cases h;exact⟨rfl,fun i z=>nomatch z⟩
  | f=>cases h;exact⟨rfl,fun i z=>nomatch z⟩
  | t i=>
   dsimp only at h
   split at h
   ·cases h
   ·cases h;exact⟨rfl,fun j z=>by cases z;omega⟩
def Good.drop{ρ:aW}{σ:St}{w:Wn}{t:Nat}(g:Good K ρ σ H w t):Good K ρ σ H (bG t' w) t':=by
 refine⟨⟨fun a o e=>g.wl a o (BE e).1,g.wl.tb⟩,fun a i e=>g.ws a i (BE e).1,fun a i e=>(BE e).2 i rfl,g.len,fun i d q e=>?_⟩
 obtain⟨v,F,h1,h2⟩:=g.slot i d q e
 exact⟨v,F,h1,Rep.go g.wl (fun a x h n=>⟨sm h,yM n⟩) h2 fun a m=>⟨rfl,OW (h2.aC a m)⟩⟩
def Go.drop{w w':Wn}{t:Nat}(g:Go H w H' w')(wt:∀ a i,w a=some (.t i)->i<t):Go H w H' (bG t w'):=
 ⟨fun a x h n=>⟨(g.bA a x h n).1,yM (g.bA a x h n).2⟩,fun a o e h=>by
   obtain⟨h1,h2⟩:=g.keep a o e h
   refine⟨h1,?_⟩
   cases o with
   | s i=>exact absurd rfl (h i)
   | f=>exact OY h2
   | t i=>exact OZ h2 (wt a i e)⟩
def Rep.drop{w:Wn}{q:Nat}{d:D}{t:Nat}{o:Ow}(r:Rep K H w (.t t) q d v F)(h:t'<=t):Rep K H (bG t' w) o 0 d v []:=
 Rep.freeze (fun a n=>yM n) r fun a m=>O0 (r.aC a m) h
abbrev aB:=aW->Option (D×Nat×aW)
def tD (K:PySem.W.Frag)(f:aB):TE:=fun σ H Q=>∃ ρ w t r q ρ',Good K ρ σ H w t/\f ρ=some (r,q,ρ')/\∀ v H' w' F,Good K ρ' σ H' w' (t+1)->Go H w H' w'->Rep K H' w' (.t t) q r v F->Q v H'
def PE.imp{t t':TE}(h:PE X e t)(i:∀ σ H Q,t' σ H Q->t σ H Q):PE X e t':=fun pins s σ H Q I q=>h pins s σ H Q I (i σ H Q q)
abbrev PD (X:Cx)(e:Expr)(f:aB):Prop:=PE X e (tD X.K f)
structure QD (X:Cx) (e:Expr) (f:aB):Prop where mk::o:PD X e f
def Good.up{ρ:aW}{σ:St}{w:Wn}{t:Nat}(g:Good K ρ σ H w t):Good K ρ σ H w (t+1):=⟨g.wl,g.ws,fun a i e=>Zc (g.wt a i e),g.len,g.slot⟩
@[simp] def gY (d:D):Nat:=if d.cK then 0 else 9
def Rep.i6{w:Wn}{o:Ow}{d:D}(r:Rep K H w o 0 d v []):Rep K H w o (gY d) d v []:=by
 unfold gY
 cases e:d.cK with
 | true=>exact r
 | false=>exact(r.fx e).2 9
section
variable {K:PySem.W.Frag}{σ:St}{H:Hp}{ρ ρ' ρ1 ρ2:aW}{w:Wn}{t:Nat}{Q:VK}
def rU{fa fb:aB}{R:V->V->Hp->Prop}(g:Good K ρ σ H w t){d1 d2:D}{q1 q2:Nat}(e1:fa ρ=some (d1,q1,ρ1))(e2:fb ρ1=some (d2,q2,ρ2))
  (k:∀ x y H2 w2 F1 F2,Good K ρ2 σ H2 w2 (t+2)->Go H w H2 w2->Rep K H2 w2 (.t t) q1 d1 x F1->Rep K H2 w2 (.t (t+1)) q2 d2 y F2->R x y H2) :
  tD K fa σ H fun x H1=>tD K fb σ H1 fun y H2=>R x y H2:=
 ⟨ρ,w,t,d1,q1,ρ1,g,e1,fun x H1 w1 F1 g1 aF r1=>⟨ρ1,w1,t+1,d2,q2,ρ2,g1,e2,fun y H2 w2 F2 g2 bj r2=>k x y H2 w2 F1 F2 g2 (aF.trans bj) (r1.gone g1.wl bj) r2⟩⟩
def kZ{r:D}{q:Nat}{w2:Wn}{t2:Nat}(k:∀ v H' w' F,Good K ρ' σ H' w' (t+1)->Go H w H' w'->Rep K H' w' (.t t) q r v F->Q v H')(g:Good K ρ σ H w t)(g2:Good K ρ' σ H2 w2 t2)(go:Go H w H2 w2)
  (rr:Rep K H2 (bG t w2) (.t t) q r v []):Q v H2:=k v H2 (bG t w2) [] g2.drop.up (go.drop g.wt) rr
def kh (p:Addr)(o:Ow)(w:Wn):Wn:=fun a=>if a=p then some o else w a
def oI{o:Ow}{w:Wn}:kh p o w p=some o:=Qf rfl
def iy{o:Ow}{w:Wn}(h:a≠p):kh p o w a=w a:=Qi h
def oJ{ds:List D}{w1:Wn}(g:Good K ρ σ H1 w1 t)(hp:H1 p=none)(r:af K H1 w1 .f 0 ds vs []) :
  Good K ρ σ (upd H1 p (.lst vs)) (kh p (.t t) w1) (t+1)/\Go H1 w1 (upd H1 p (.lst vs)) (kh p (.t t) w1)/\Rep K (upd H1 p (.lst vs)) (kh p (.t t) w1) (.t t) 1 (.lst ds) (.ref p) [p]:=by
 have ne:∀ a x,H1 a=some x->a≠p:=fun a x e=>ib e hp
 have nw:∀ a o,w1 a=some o->a≠p:=fun a o e=>by obtain⟨vs,q⟩:=g.wl a o e;exact ne a _ q
 have st:de H1 w1 (upd H1 p (.lst vs)) (kh p (.t t) w1):=fun a x e n=>⟨sm (by rw[bc (ne a x e)];exact e),by rw[iy (ne a x e)];exact n⟩
 refine⟨⟨⟨fun a o e=>?_,g.wl.tb.upd rfl (.inl hp)⟩,fun a i e=>?_,fun a i e=>?_,g.len,fun i d q e=>?_⟩,⟨st,fun a o e _=>⟨bc (nw a o e),(iy (nw a o e)).trans e⟩⟩,?_⟩
 ·by_cases h:a=p
  ·subst h;exact⟨.l vs,fX⟩
  ·rw[iy h]at e
   obtain⟨us,q⟩:=g.wl a o e
   exact⟨us,by rw[bc h];exact q⟩
 ·by_cases h:a=p
  ·subst h;rw[oI]at e;cases e
  ·rw[iy h]at e;exact g.ws a i e
 ·by_cases h:a=p
  ·subst h;rw[oI]at e;cases e;exact Zq _
  ·rw[iy h]at e;exact Zc (g.wt a i e)
 ·obtain⟨v,F,h1,h2⟩:=g.slot i d q e
  exact⟨v,F,h1,Rep.go g.wl st h2 fun a m=>⟨bc (nw a _ (h2.aC a m)),(iy (nw a _ (h2.aC a m))).trans (h2.aC a m)⟩⟩
 ·exact .own fX oI (af.go g.wl st r nM) (fun z=>nomatch z)
def yN{ds:List D}{w1:Wn}(g:Good K ρ σ H1 w1 t)(hp:H1 p=none)(r:af K H1 w1 .f 0 ds vs []) :
  Good K ρ σ (upd H1 p (.tup vs)) w1 (t+1)/\Go H1 w1 (upd H1 p (.tup vs)) w1/\Rep K (upd H1 p (.tup vs)) w1 (.t t) 9 (.tup ds) (.ref p) []:=by
 have ne:∀ a x,H1 a=some x->a≠p:=fun a x e=>ib e hp
 have nw:∀ a o,w1 a=some o->a≠p:=fun a o e=>by obtain⟨vs,q⟩:=g.wl a o e;exact ne a _ q
 have st:de H1 w1 (upd H1 p (.tup vs)) w1:=fun a x e n=>⟨sm (by rw[bc (ne a x e)];exact e),n⟩
 refine⟨⟨⟨fun a o e=>?_,g.wl.tb.upd rfl (.inl hp)⟩,g.ws,fun a i e=>Zc (g.wt a i e),g.len,fun i d q e=>?_⟩,⟨st,fun a o e _=>⟨bc (nw a o e),e⟩⟩,?_⟩
 ·obtain⟨us,q⟩:=g.wl a o e
  exact⟨us,by rw[bc (nw a o e)];exact q⟩
 ·obtain⟨v,F,h1,h2⟩:=g.slot i d q e
  exact⟨v,F,h1,Rep.go g.wl st h2 fun a m=>⟨bc (nw a _ (h2.aC a m)),h2.aC a m⟩⟩
 ·exact .tup fX (af.go g.wl st r nM)
end
@[simp] def eC (d:D):aB:=fun ρ=>some (d,9,ρ)
@[simp] def ae (i:Nat):aB:=fun ρ=>match ρ[i]? with
 | some (some (d,q))=>if d.cK=false then some (d,9,ρ)else if q=0 then some (d,0,ρ)else some (d,0,ρ.set i (some (d,0)))
 | _=>none
section
variable {X:Cx}{a b c e:Expr}{fa fb fc f:aB}{pos:Pos}
def yO{d:D}(h:PE X e (tC v))(r:∀ K H w o q,Rep K H w o q d v []):PD X e (eC d):=PE.imp h fun σ H Q ah=>by
 obtain⟨ρ,w,t,r',q,ρ',g,ee,k⟩:=ah
 cases ee
 exact k v H w [] g.up Go.refl (r _ _ _ _ _)
def aQ{i j}:QD X (.Constant (.int i) j pos) (eC (.int i)):=⟨yO Ay fun _ _ _ _ _=>.int i⟩
def oK{i j}:QD X (.Constant (.bool i) j pos) (eC (.bl i)):=⟨yO LQ fun _ _ _ _ _=>.bl i⟩
def t8{j}:QD X (.Constant .none j pos) (eC .aK):=⟨yO LR fun _ _ _ _ _=>.aK⟩
def iQ{x j}:QD X (.Constant (.str x) j pos) (eC (.str x)):=⟨yO ye fun _ _ _ _ _=>.str x⟩
def iz (i:Nat)(w:Wn):Wn:=fun a=>if w a=some (.s i)then none else w a
def vz{w:Wn}{a:Addr}(h:w a=none):iz i w a=none:=by unfold iz;rw[h];rfl
def FG{w:Wn}{a:Addr}(h:w a=some (.s i)):iz i w a=none:=by unfold iz;rw[Qf h]
def t_{w:Wn}{a:Addr}{o:Ow}(h:w a=some o)(n:o ≠ .s i):iz i w a=some o:=by unfold iz;rw[Qi (by rw[h];exact fun z=>n (QF z))];exact h
def oM{w:Wn}{a:Addr}{o:Ow}(h:iz i w a=some o):w a=some o/\o ≠ .s i:=by
 unfold iz at h
 split at h
 ·cases h
 ·rename_i n;exact⟨h,fun z=>n (by rw[h,z])⟩
def Good.give{ρ:aW}{σ:St}{w:Wn}{t:Nat}{d:D}{q:Nat}(g:Good K ρ σ H w t)(e:ρ[i]? = some (some (d,q))):Good K (ρ.set i (some (d,0))) σ H (iz i w) t/\Go H w H (iz i w):=by
 have st:de H w H (iz i w):=fun a x h n=>⟨sm h,vz n⟩
 refine⟨⟨⟨fun a o h=>g.wl a o (oM h).1,g.wl.tb⟩,fun a j h=>g.ws a j (oM h).1,fun a j h=>g.wt a j (oM h).1,by rw[QS];exact g.len,fun j d' q' e'=>?_⟩,⟨st,fun a o h n=>⟨rfl,t_ h (n i)⟩⟩⟩
 by_cases hj:i=j
 ·subst hj
  rw[QP (Qq.mp e).1]at e'
  cases e'
  obtain⟨v,F,h1,h2⟩:=g.slot i d q e
  exact⟨v,[],h1,Rep.freeze (fun a n=>vz n) h2 fun a m=>FG (h2.aC a m)⟩
 ·rw[QR hj]at e'
  obtain⟨v,F,h1,h2⟩:=g.slot j d' q' e'
  exact⟨v,F,h1,Rep.go g.wl st h2 fun a m=>⟨rfl,t_ (h2.aC a m) (fun z=>hj (by cases z;rfl))⟩⟩
def cj{x:Str}(h:QE X (.Name x pos) (eR i)):QD X (.Name x pos) (ae i):=⟨have h:=h.o;PE.imp h fun σ H Q ah=>by
 obtain⟨ρ,w,t,r',q,ρ',g,ee,k⟩:=ah
 unfold ae at ee
 split at ee
 next d q0 e0=>
  obtain⟨v,F,h1,h2⟩:=g.slot i d q0 e0
  refine⟨v,h1,?_⟩
  split at ee
  next hl=>
   cases ee
   obtain⟨hF,hr⟩:=h2.fx hl
   exact k v H w [] g.up Go.refl ((hr 9).any g.wl)
  ·split at ee
   next hq=>
    subst hq
    cases ee
    have:=h2.zero
    subst this
    exact k v H w [] g.up Go.refl (h2.any g.wl)
   ·cases ee
    obtain⟨g',fU⟩:=g.give e0
    refine k v H (iz i w) [] g'.up fU ?_
    exact Rep.freeze (fun a n=>vz n) h2 fun a m=>FG (h2.aC a m)
 ·cases ee⟩
def k4:D->Option V
 | .aK=>some .aK
 | .bl b=>some (.bl b)
 | .int i=>some (.int i)
 | .str x=>some (.str x)
 | _=>none
def yP{w:Wn}{o:Ow}{q:Nat}{d:D}(h:k4 d=some v):Rep K H w o q d v []:=by
 cases d<;>cases h
 ·exact .aK
 ·exact .bl _
 ·exact .int _
 ·exact .str _
@[simp] def e2 (g:D->D->Option D)(fa fb:aB):aB:=fun ρ=>match fa ρ with
 | some (x,_,ρ1)=>match fb ρ1 with
  | some (y,_,ρ2)=>match g x y with
   | some d=>some (d,9,ρ2)
   | none=>none
  | none=>none
 | none=>none
def O1{g:D->D->Option D}{ρ ρ':aW}{r:D}{q:Nat}(h:e2 g fa fb ρ=some (r,q,ρ')):∃ x q1 ρ1 y q2,fa ρ=some (x,q1,ρ1)/\fb ρ1=some (y,q2,ρ')/\g x y=some r/\q=9:=by
 unfold e2 at h
 split at h
 next x q1 ρ1 h1=>
  split at h
  next y q2 ρ2 h2=>
   split at h
   next d hd=>
    cases h
    exact⟨x,q1,ρ1,y,q2,h1,h2,hd,rfl⟩
   ·cases h
  ·cases h
 ·cases h
def p_{g:D->D->Option D}(hg:∀ x y d,g x y=some d->∃ v,k4 d=some v/\∀ H w o o' q q' u u' F F',Rep K H w o q x u F->Rep K H w o' q' y u' F'->WL K w H->∀ Q:VK,Q v H->r u u' H Q) :
  ∀ σ H Q,tD K (e2 g fa fb) σ H Q->iO r (tD K fa) (tD K fb) σ H Q:=fun σ H Q ah=>by
 obtain⟨ρ,w,t,r',q,ρ',gd,ee,k⟩:=ah
 obtain⟨x,q1,ρ1,y,q2,h1,h2,h3,rfl⟩:=O1 ee
 obtain⟨v,hv,hr⟩:=hg x y r' h3
 exact rU gd h1 h2 fun u u' H2 w2 F1 F2 g2 go r1 r2=>hr H2 w2 _ _ _ _ u u' F1 F2 r1 r2 g2.wl Q (kZ k gd g2 go (yP hv))
@[simp] def gI (f:Int->Int->Option D):D->D->Option D
 | .int i,.int j=>f i j
 | _,_=>none
def qc{f:Int->Int->Option D}{x y d:D}(h:gI f x y=some d):∃ i j,x=.int i/\y=.int j/\f i j=some d:=by
 unfold gI at h
 split at h
 ·exact⟨_,_,rfl,rfl,h⟩
 ·cases h
def d7{w:Wn}{o:Ow}{q:Nat}{i:Int}(r:Rep K H w o q (.int i) v F):v=.int i:=by cases r;rfl
def BF{f:Int->Int->Option D}{C:Int->Int->Prop}(hf:∀ i j d,f i j=some d->C i j/\k4 d=some (h i j)) :
  ∀ σ H Q,tD K (e2 (gI f) fa fb) σ H Q->iO (rI C h) (tD K fa) (tD K fb) σ H Q:=
 p_ fun x y d e=>by
  obtain⟨i,j,rfl,rfl,e⟩:=qc e
  obtain⟨c,s⟩:=hf i j d e
  exact⟨_,s,fun H w o o' q q' u u' F F' r1 r2 _ Q hq=>⟨i,j,d7 r1,d7 r2,c,hq⟩⟩
def yQ{f:Int->Int->Option D}(hf:∀ i j d,f i j=some d->k4 d=some (h i j)) :
  ∀ σ H Q,tD K (e2 (gI f) fa fb) σ H Q->iO (kc h) (tD K fa) (tD K fb) σ H Q:=
 p_ fun x y d e=>by
  obtain⟨i,j,rfl,rfl,e⟩:=qc e
  exact⟨_,hf i j d e,fun H w o o' q q' u u' F F' r1 r2 _ Q hq=>⟨i,j,d7 r1,d7 r2,hq⟩⟩
@[simp] def bQ:D->D->Option D:=gI fun i j=>some (.int (i+j))
@[simp] def BG:D->D->Option D:=gI fun i j=>some (.int (i-j))
@[simp] def jz:D->D->Option D:=gI fun i j=>if(-(2 ^ 64)<i/\i<2 ^ 64)\/(-(2 ^ 64)<j/\j<2 ^ 64)then some (.int (i*j))else none
@[simp] def yR:D->D->Option D:=gI fun i j=>if 0<j/\j<1073741824 then some (.int (i / j))else none
@[simp] def rV:D->D->Option D:=gI fun i j=>if 0<j then some (.int (i % j))else none
def dk(ha:QD X a fa)(hb:QD X b fb):QD X (.BinOp a .Add b pos) (e2 bQ fa fb):=⟨have ha:=ha.o;have hb:=hb.o;PE.imp (pP MO ha hb) (yQ fun i j d h=>by cases h;rfl)⟩
def O2(ha:QD X a fa)(hb:QD X b fb):QD X (.BinOp a .Sub b pos) (e2 BG fa fb):=⟨have ha:=ha.o;have hb:=hb.o;PE.imp (pP MP ha hb) (yQ fun i j d h=>by cases h;rfl)⟩
def mB(ha:QD X a fa)(hb:QD X b fb):QD X (.BinOp a .Mult b pos) (e2 jz fa fb):=⟨have ha:=ha.o;have hb:=hb.o;PE.imp (pP MQ ha hb) (BF fun i j d h=>by
 split at h
 ·cases h;exact⟨by assumption,rfl⟩
 ·cases h)⟩
def BH(ha:QD X a fa)(hb:QD X b fb):QD X (.BinOp a .FloorDiv b pos) (e2 yR fa fb):=⟨have ha:=ha.o;have hb:=hb.o;PE.imp (pP MR ha hb) (BF fun i j d h=>by
 split at h
 ·cases h;exact⟨by assumption,rfl⟩
 ·cases h)⟩
def ua(ha:QD X a fa)(hb:QD X b fb):QD X (.BinOp a .Mod b pos) (e2 rV fa fb):=⟨have ha:=ha.o;have hb:=hb.o;PE.imp (pP MS ha hb) (BF fun i j d h=>by
 split at h
 ·cases h;exact⟨by assumption,rfl⟩
 ·cases h)⟩
def dw:D->Int->Option D
 | .lst ds,i=>dF ds i
 | .tup ds,i=>dF ds i
 | _,_=>none
@[simp] def cA (fa fb:aB):aB:=fun ρ=>match fa ρ with
 | some (x,_,ρ1)=>match fb ρ1 with
  | some (.int i,_,ρ2)=>match dw x i with
   | some d=>some (d,gY d,ρ2)
   | none=>none
  | _=>none
 | none=>none
def Rep.oN{w:Wn}{o:Ow}{q:Nat}{ds:List D}(r:Rep K H w o q (.lst ds) v F):∃ a vs q' G,v=.ref a/\cE K H a vs/\af K H w o q' ds vs G:=by
 cases r with
 | kl h r=>exact⟨_,_,_,_,rfl,h.sq,r⟩
 | shr h n r=>exact⟨_,_,_,_,rfl,.inl h,r⟩
 | own h n r _=>exact⟨_,_,_,_,rfl,cE.of h,r⟩
def Rep.ip{w:Wn}{o:Ow}{ds:List D}(r:Rep K H w o 0 (.lst ds) v F):∃ a vs,v=.ref a/\cE K H a vs/\af K H w o 0 ds vs []:=by
 cases r with
 | kl h r=>exact⟨_,_,rfl,h.sq,r⟩
 | shr h n r=>exact⟨_,_,rfl,.inl h,r⟩
def Rep.gZ{w:Wn}{o:Ow}{q:Nat}{ds:List D}(r:Rep K H w o q (.tup ds) v F):∃ a vs,v=.ref a/\du K H a vs/\af K H w o 0 ds vs []:=by
 cases r with
 | tup h r=>exact⟨_,_,rfl,du.of h,r⟩
def Rep.qd{w:Wn}{o:Ow}{q:Nat}{ds:List D}(r:Rep K H w o q (.tup ds) v F):∃ a vs,v=.ref a/\H a=some (.tup vs)/\af K H w o 0 ds vs []:=by
 cases r with
 | tup h r=>exact⟨_,_,rfl,h,r⟩
def af.dF{w:Wn}{o:Ow}{ds:List D}{i:Int}{d:D}(r:af K H w o 0 ds vs [])(h:L2.dF ds i=some d):∃ v,L2.dF vs i=some v/\Rep K H w o 0 d v []:=by
 unfold L2.dF at h ⊢
 rw[<- r.length]
 cases e:iP ds.length i with
 | none=>rw[e]at h;cases h
 | some j=>
  rw[e]at h
  exact r.get h
def fL(ha:QD X a fa)(hb:QD X b fb)(hs:pU b:=by exact fun _ _=>rfl):QD X (.Subscript a b pos) (cA fa fb):=⟨have ha:=ha.o;have hb:=hb.o;PE.imp (tW tY ha hb hs) fun σ H Q ah=>by
 obtain⟨ρ,w,t,r',q,ρ',gd,ee,k⟩:=ah
 unfold cA at ee
 split at ee
 next x q1 ρ1 h1=>
  split at ee
  next i q2 ρ2 h2=>
   split at ee
   next d hd=>
    cases ee
    refine rU gd h1 h2 fun u u' H2 w2 F1 F2 g2 go r1 r2=>?_
    have rW:=d7 r2
    subst rW
    have r0:=r1.drop (o:=.t t) (Qh t)
    cases x with
    | lst ds=>
     obtain⟨p,vs,rfl,hq,rs⟩:=r0.ip
     obtain⟨v,hv,rv⟩:=rs.dF hd
     exact .inl ⟨p,vs,i,v,rfl,rfl,hq,hv,kZ k gd g2 go rv.i6⟩
    | tup ds=>
     obtain⟨p,vs,rfl,hq,rs⟩:=r0.gZ
     obtain⟨v,hv,rv⟩:=rs.dF hd
     exact .inr (.inl ⟨p,vs,i,v,rfl,rfl,hq,hv,kZ k gd g2 go rv.i6⟩)
    | _=>cases hd
   ·cases ee
  ·cases ee
 ·cases ee⟩
abbrev b_:=aW->Option (List D×aW)
def BI (K:PySem.W.Frag)(f:b_):TA:=fun σ H Q=>∃ ρ w t ds ρ',Good K ρ σ H w t/\f ρ=some (ds,ρ')/\∀ vs H' w',Good K ρ' σ H' w' t->Go H w H' w'->af K H' w' .f 0 ds vs []->Q vs H'
abbrev FH (X:Cx)(es:List Expr)(f:b_):Prop:=PA X es (BI X.K f)
structure f9 (X:Cx) (e:List Expr) (f:b_):Prop where mk::o:FH X e f
def PA.imp{X:Cx}{e:List Expr}{t t':TA}(h:PA X e t)(i:∀ σ H Q,t' σ H Q->t σ H Q):PA X e t':=fun pos pins s σ H Q I q=>h pos pins s σ H Q I (i σ H Q q)
@[simp] def ag:b_:=fun ρ=>some ([],ρ)
@[simp] def aa (f:aB)(g:b_):b_:=fun ρ=>match f ρ with
 | some (d,_,ρ1)=>match g ρ1 with
  | some (ds,ρ2)=>some (d::ds,ρ2)
  | none=>none
 | none=>none
def ao:f9 X [] ag:=⟨PA.imp jO fun σ H Q ah=>by
 obtain⟨ρ,w,t,ds,ρ',gd,ee,k⟩:=ah
 cases ee
 exact k [] H w gd Go.refl .nil⟩
def au{g:b_}(ha:QD X e f)(hr:f9 X es g)(hs:starEach (e::es) X.env=(false,eval e X.env)::starEach es X.env:=by rfl):f9 X (e::es) (aa f g):=⟨have ha:=ha.o;have hr:=hr.o;PA.imp (gp ha hr hs) fun σ H Q ah=>by
 obtain⟨ρ,w,t,ds,ρ',gd,ee,k⟩:=ah
 unfold aa at ee
 split at ee
 next d q ρ1 h1=>
  split at ee
  next cx ρ2 h2=>
   cases ee
   refine⟨ρ,w,t,d,q,ρ1,gd,h1,fun x H1 w1 F1 g1 aF r1=>⟨ρ1,bG t w1,t,cx,_,g1.drop,h2,fun vs H2 w2 g2 bj r2=>?_⟩⟩
   have gl:=(g1.drop (t':=t)).wl
   have r0:Rep X.K H2 w2 .f 0 d x []:=Rep.go gl bj.bA (r1.drop (o:=.f) (Qh t)) nM
   exact k (x::vs) H2 w2 g2 ((aF.drop gd.wt).trans bj) (.cons (F:=[]) (G:=[]) r0 r2 nM)
  ·cases ee
 ·cases ee⟩
@[simp] def cW (g:b_):aB:=fun ρ=>match g ρ with
 | some (ds,ρ1)=>if ds.length<=1000 then some (.lst ds,1,ρ1)else none
 | none=>none
@[simp] def cX (g:b_):aB:=fun ρ=>match g ρ with
 | some (ds,ρ1)=>if ds.length<=1000 then some (.tup ds,9,ρ1)else none
 | none=>none
def rX(h:n<=1000):n<=sizeLine:=ZG (lP h)
def eT{g:b_}(h:f9 X es g):QD X (.List es pos) (cW g):=⟨have h:=h.o;PE.imp (M8 h) fun σ H Q ah=>by
 obtain⟨ρ,w,t,r',q,ρ',gd,ee,k⟩:=ah
 unfold cW at ee
 split at ee
 next ds ρ1 h1=>
  split at ee
  next hl=>
   cases ee
   refine⟨ρ,w,t,ds,_,gd,h1,fun vs H1 w1 g1 aF r1=>⟨by rw[<- r1.length];exact rX hl,fun p hp=>?_⟩⟩
   obtain⟨a1,a2,a3⟩:=oJ g1 hp r1
   exact k _ _ _ _ a1 (aF.trans a2) a3
  ·cases ee
 ·cases ee⟩
def gu{g:b_}{x1}(h:f9 X es g):QD X (.Tuple es x1 pos) (cX g):=⟨have h:=h.o;PE.imp (M7 h) fun σ H Q ah=>by
 obtain⟨ρ,w,t,r',q,ρ',gd,ee,k⟩:=ah
 unfold cX at ee
 split at ee
 next ds ρ1 h1=>
  split at ee
  next hl=>
   cases ee
   refine⟨ρ,w,t,ds,_,gd,h1,fun vs H1 w1 g1 aF r1=>⟨by rw[<- r1.length];exact rX hl,fun p hp=>?_⟩⟩
   obtain⟨a1,a2,a3⟩:=yN g1 hp r1
   exact k _ _ _ _ a1 (aF.trans a2) a3
  ·cases ee
 ·cases ee⟩
def k6 (K:PySem.W.Frag)(n:Nat)(F:List D->OD):Sp:=fun vs H Q _=>vs.length=n/\∃ ds w r q,(∀ a o,w a=some o->o=.f)/\WL K w H/\af K H w .f 0 ds vs []/\F ds=some (r,q) /\
 ∀ v H' w' Fo,Go H w H' w'->WL K w' H'->Rep K H' w' (.t 0) q r v Fo->Q v H'
@[simp] def aE (F:List D->OD)(n:Nat)(g:b_):aB:=fun ρ=>match g ρ with
 | some (ds,ρ1)=>if ds.length=n then match F ds with
  | some (r,q)=>some (r,q,ρ1)
  | none=>none
  else none
 | none=>none
def back{ρ:aW}{σ:St}{w w':Wn}{t q:Nat}{d:D}{Fo:List Addr}(g:Good K ρ σ H w t)
  (go:Go H (fun a=>(w a).map fun _=>Ow.f) H' w') (nP:WL K w' H') (r:Rep K H' w' (.t 0) q d v Fo) :
  Good K ρ σ H' (fun a=>if a∈Fo then some (.t t)else w a) (t+1)/\Go H w H' (fun a=>if a∈Fo then some (.t t)else w a)/\Rep K H' (fun a=>if a∈Fo then some (.t t)else w a) (.t t) q d v Fo:=by
 have kf:∀ a o,w a=some o->H' a=H a/\w' a=some .f:=fun a o e=>go.keep a .f (by show(w a).map _=_;rw[e];rfl) (fun _ z=>nomatch z)
 have nf:∀ a x,H a=some x->a ∉ Fo:=fun a x e m=>by
  have h1:=r.aC a m
  cases ew:w a with
  | none=>
   have:=(go.bA a x e (by show(w a).map _=_;rw[ew];rfl)).2
   rw[h1]at this;cases this
  | some o=>rw[(kf a o ew).2]at h1;cases h1
 have nw:∀ a o,w a=some o->a ∉ Fo:=fun a o e=>by obtain⟨vs,q⟩:=g.wl a o e;exact nf a _ q
 have st:de H w H' (fun a=>if a∈Fo then some (.t t)else w a):=fun a x e n=>⟨(go.bA a x e (by show(w a).map _=_;rw[n];rfl)).1,by show(if a∈Fo then _ else _)=_;rw[Qi (nf a x e)];exact n⟩
 have wv:∀ a o,(if a∈Fo then some (Ow.t t)else w a)=some o->(a∈Fo/\o=.t t)\/w a=some o:=fun a o e=>by
  split at e
  ·cases e;exact .inl ⟨by assumption,rfl⟩
  ·exact .inr e
 refine⟨⟨⟨fun a o e=>?_,nP.tb⟩,fun a i e=>?_,fun a i e=>?_,g.len,fun i d q e=>?_⟩,⟨st,fun a o e _=>⟨(kf a o e).1,by show(if a∈Fo then _ else _)=_;rw[Qi (nw a o e)];exact e⟩⟩,?_⟩
 ·rcases wv a o e with⟨m,_⟩|z
  ·exact nP a _ (r.aC a m)
  ·obtain⟨vs,h⟩:=g.wl a o z
   exact⟨vs,(kf a o z).1.trans h⟩
 ·rcases wv a _ e with⟨_,z⟩|z
  ·cases z
  ·exact g.ws a i z
 ·rcases wv a _ e with⟨_,z⟩|z
  ·cases z;exact Zq _
  ·exact Zc (g.wt a i z)
 ·obtain⟨v,F,h1,h2⟩:=g.slot i d q e
  refine⟨v,F,h1,Rep.go g.wl st h2 fun a m=>⟨(kf a _ (h2.aC a m)).1,?_⟩⟩
  show(if a∈Fo then _ else _)=_
  rw[Qi (nw a _ (h2.aC a m))]
  exact h2.aC a m
 ·refine Rep.go nP (fun a x e n=>⟨sm e,?_⟩) r fun a m=>⟨rfl,Qf m⟩
  show(if a∈Fo then _ else _)=_
  rw[Qi (fun m=>by have:=r.aC a m;rw[n]at this;cases this)]
  cases ew:w a with
  | none=>rfl
  | some o=>have:=(kf a o ew).2;rw[n]at this;cases this
def O3{CX:mi}{k:Nat}{fn:Addr}{x:Str}{p:Pos}{F:List D->OD}{g:b_}(Fk:dS X.prog X.w X.K X.mg X.base CX k fn fd ps (k6 X.K n F))(hr:aS k X.A)(hm:X.mg x=some (.ref fn))(hk:PySem.W.keepIn X.K (.ref fn)=true)(hb:oy X.K fd ps [])
  (hx:yl CX X E) (ha:FH X (e::es) g) (hg:Gl X x:=by rfl) (gU:(x==("__debug__":Str))=false:=by decide) (he:starEach (e::es) X.env=(false,eval e X.env)::starEach es X.env:=by rfl) (cu:(backTo pos (starEach es X.env)).any (·.1)=false:=by rfl) :
  PD X (.Call (.Name x p) (e::es) [] pos) (aE F n g):=PE.imp (AU Fk hr hg hm hk hb .nil hx ha gU he cu) fun σ H Q ah=>by
 obtain⟨ρ,w,t,r',q,ρ',gd,ee,k⟩:=ah
 unfold aE at ee
 split at ee
 next ds ρ1 h1=>
  split at ee
  next hn=>
   split at ee
   next r0 q0 h2=>
    cases ee
    refine⟨ρ,w,t,ds,_,gd,h1,fun vs H1 w1 g1 aF r1=>?_⟩
    show k6 X.K n F (vs++[]) H1 Q E
    rw[ZQ]
    refine⟨by rw[<- r1.length];exact hn,ds,fun a=>(w1 a).map fun _=>Ow.f,r',q,fun a o e=>?_,⟨fun a o e=>?_,g1.wl.tb⟩,?_,h2,fun v H2 w2 Fo bj BJ rr=>?_⟩
    ·dsimp only at e
     cases ew:w1 a with
     | none=>rw[ew]at e;cases e
     | some o'=>rw[ew]at e;cases e;rfl
    ·try dsimp only at e
     cases ew:w1 a with
     | none=>rw[ew]at e;cases e
     | some o'=>exact g1.wl a o' ew
    ·exact af.freeze (fun a n=>by show(w1 a).map _=_;rw[n];rfl) r1 nM
    ·obtain⟨b1,b2,b3⟩:=back g1 bj BJ rr
     exact k _ _ _ _ b1 (aF.trans b2) b3
   ·cases ee
  ·cases ee
 ·cases ee
end
abbrev cF:=aW->Option (Bool×aW)
def rY (K:PySem.W.Frag)(f:cF):TT:=fun σ H Q=>∃ ρ w t b ρ',Good K ρ σ H w t/\f ρ=some (b,ρ')/\∀ H' w',Good K ρ' σ H' w' t->Go H w H' w'->Q b H'
def PT.imp{t t':TT}(h:PT X e t)(i:∀ σ H Q,t' σ H Q->t σ H Q):PT X e t':=fun pins s σ H Q I q=>h pins s σ H Q I (i σ H Q q)
def PW.imp{t t':TT}(h:PW X e t)(i:∀ σ H Q,t' σ H Q->t σ H Q):PW X e t':=fun whole pins s σ H Q I q=>h whole pins s σ H Q I (i σ H Q q)
abbrev BK (X:Cx)(e:Expr)(f:cF):Prop:=PT X e (rY X.K f)
structure f_ (X:Cx) (e:Expr) (f:cF):Prop where mk::o:BK X e f
abbrev O4 (X:Cx)(e:Expr)(f:cF):Prop:=PW X e (rY X.K f)
structure rZ (X:Cx) (e:Expr) (f:cF):Prop where mk::o:O4 X e f
@[simp] def FI:D->Option Bool
 | .aK=>some false
 | .bl b=>some b
 | .int i=>some (i != 0)
 | .tup ds=>some (!ds.isEmpty)
 | .lst ds=>some (!ds.isEmpty)
 | .str _=>none
 | .gr _ _=>none
 | .exc _=>none
 | .ob _ _ _ _=>none
 | .mp _ _=>none
@[simp] def iA (f:aB):cF:=fun ρ=>match f ρ with
 | some (d,_,ρ1)=>match FI d with
  | some b=>some (b,ρ1)
  | none=>none
 | none=>none
section
variable {X:Cx}{a b c e:Expr}{fa fb fc f:aB}{ga gb gc:cF}{pos:Pos}
def yS{α β:Type}{l:List α}{l':List β}(h:l.length=l'.length):(!l.isEmpty) = !l'.isEmpty:=by
 cases l<;>cases l'<;>first|rfl|cases h
def oO(ha:QD X a fa)(he:∀ whole,isTrue a X.env whole=(do let v <- whole;standAt a.pos;holding [v] (truthy v)):=by exact fun _=>rfl):f_ X a (iA fa):=⟨have ha:=ha.o;PT.imp (M0 ha he) fun σ H Q ah=>by
 obtain⟨ρ,w,t,b,ρ',gd,ee,k⟩:=ah
 unfold iA at ee
 split at ee
 next d q ρ1 h1=>
  split at ee
  next b' hb=>
   cases ee
   refine⟨ρ,w,t,d,q,_,gd,h1,fun v H1 w1 F g1 aF r1=>⟨b,?_,k H1 (bG t w1) g1.drop (aF.drop gd.wt)⟩⟩
   cases r1 with
   | aK=>cases hb;rfl
   | bl x=>cases hb;rfl
   | int i=>cases hb;rfl
   | str x=>cases hb
   | tup h r=>cases hb;exact .inr (.inl ⟨_,du.of h,yS r.length⟩)
   | gr h e r=>cases hb
   | exc h x n=>cases hb
   | ob h1 h2 x r=>cases hb
   | kl h r=>cases hb;exact .inl ⟨_,h.sq,yS r.length⟩
   | shr h _ r=>cases hb;exact .inl ⟨_,.inl h,yS r.length⟩
   | own h _ r _=>cases hb;exact .inl ⟨_,cE.of h,yS r.length⟩
   | nO h _ _ _ _=>cases hb
   | kW h _ _ _ _=>cases hb
  ·cases ee
 ·cases ee⟩
@[simp] def a_ (f:aB):cF:=fun ρ=>match f ρ with
 | some (.bl b,_,ρ1)=>some (b,ρ1)
 | _=>none
def BL(h:∀ σ H Q,tD K f σ H Q->te σ H Q):∀ σ H Q,rY K (a_ f) σ H Q->AQ te σ H Q:=fun σ H Q ah=>by
 obtain⟨ρ,w,t,b,ρ',gd,ee,k⟩:=ah
 unfold a_ at ee
 split at ee
 next b' q ρ1 h1=>
  cases ee
  refine h σ H _ ⟨ρ,w,t,.bl b,q,_,gd,h1,fun v H1 w1 F g1 aF r1=>?_⟩
  cases r1
  exact⟨b,rfl,k H1 (bG t w1) g1.drop (aF.drop gd.wt)⟩
 ·cases ee
def qe{g:D->D->Option D}(ho:dC X (compareOp op) r)(hr:∀ σ H Q,tD X.K (e2 g fa fb) σ H Q->iO r (tD X.K fa) (tD X.K fb) σ H Q)(ha:PD X a fa)(hb:PD X b fb)(hm:behindInMarks op b=false) :
  BK X (.Compare a [op] [b] pos) (a_ (e2 g fa fb)):=PT.imp (ER ho ha hb hm) (BL hr)
def BM{g:D->D->Option D}(ho:dC X (compareOp op) r)(hr:∀ σ H Q,tD X.K (e2 g fa fb) σ H Q->iO r (tD X.K fa) (tD X.K fb) σ H Q)(ha:PD X a fa)(hb:PD X b fb)(hm:behindInMarks op b=false) :
  PD X (.Compare a [op] [b] pos) (e2 g fa fb):=PE.imp (MV ho ha hb hm) hr
@[simp] def ki:D->D->Option D:=gI fun i j=>some (.bl (decide (i<j)))
@[simp] def vA:D->D->Option D:=gI fun i j=>some (.bl (decide (i<=j)))
@[simp] def yT:D->D->Option D:=gI fun i j=>some (.bl (decide (j<i)))
def O5:∀ σ H Q,tD K (e2 ki fa fb) σ H Q->iO (kc fun i j=>.bl (decide (i<j))) (tD K fa) (tD K fb) σ H Q:=yQ fun i j d h=>by cases h;rfl
def O6:∀ σ H Q,tD K (e2 yT fa fb) σ H Q->iO (kc fun i j=>.bl (decide (j<i))) (tD K fa) (tD K fb) σ H Q:=yQ fun i j d h=>by cases h;rfl
def vB(ha:QD X a fa)(hb:QD X b fb):f_ X (.Compare a [.Lt] [b] pos) (a_ (e2 ki fa fb)):=⟨have ha:=ha.o;have hb:=hb.o;qe AN O5 ha hb (pQ _)⟩
def O7(ha:QD X a fa)(hb:QD X b fb):f_ X (.Compare a [.Gt] [b] pos) (a_ (e2 yT fa fb)):=⟨have ha:=ha.o;have hb:=hb.o;qe MT O6 ha hb (pQ _)⟩
@[simp] def i8 (g:cF):cF:=fun ρ=>match g ρ with
 | some (b,ρ1)=>some (!b,ρ1)
 | none=>none
def r_(ha:f_ X a ga):f_ X (.UnaryOp .Not a pos) (i8 ga):=⟨have ha:=ha.o;PT.imp (L9 ha) fun σ H Q ah=>by
 obtain⟨ρ,w,t,b,ρ',gd,ee,k⟩:=ah
 unfold i8 at ee
 split at ee
 next b' ρ1 h1=>
  cases ee
  exact⟨ρ,w,t,b',_,gd,h1,fun H1 w1 g1 aF=>k H1 w1 g1 aF⟩
 ·cases ee⟩
@[simp] def qf (g h:cF):cF:=fun ρ=>match g ρ with
 | some (b,ρ1)=>if b=true then h ρ1 else some (false,ρ1)
 | none=>none
@[simp] def nQ (g h:cF):cF:=fun ρ=>match g ρ with
 | some (b,ρ1)=>if b=true then some (true,ρ1)else h ρ1
 | none=>none
variable {bh:List Expr}
def FJ(ha:f_ X a ga):rZ X (.BoolOp .And [a] pos) ga:=⟨have ha:=ha.o;LZ ha⟩
def yU(ha:f_ X a ga):rZ X (.BoolOp .Or [a] pos) ga:=⟨have ha:=ha.o;L6 ha⟩
def FK(ha:f_ X a ga)(hb:rZ X (.BoolOp .And (b::bh) pos) gb):rZ X (.BoolOp .And (a::b::bh) pos) (qf ga gb):=⟨have ha:=ha.o;have hb:=hb.o;PW.imp (L7 ha hb) fun σ H Q ah=>by
 obtain⟨ρ,w,t,b,ρ',gd,ee,k⟩:=ah
 unfold qf at ee
 split at ee
 next b' ρ1 h1=>
  refine⟨ρ,w,t,b',ρ1,gd,h1,fun H1 w1 g1 aF=>?_⟩
  split at ee
  ·rename_i hb;rw[Qf hb]
   exact⟨ρ1,w1,t,b,ρ',g1,ee,fun H2 w2 g2 bj=>k H2 w2 g2 (aF.trans bj)⟩
  ·rename_i hb;rw[Qi hb]
   cases ee
   exact k H1 w1 g1 aF
 ·cases ee⟩
def vC(ha:f_ X a ga)(hb:rZ X (.BoolOp .Or (b::bh) pos) gb):rZ X (.BoolOp .Or (a::b::bh) pos) (nQ ga gb):=⟨have ha:=ha.o;have hb:=hb.o;PW.imp (L8 ha hb) fun σ H Q ah=>by
 obtain⟨ρ,w,t,b,ρ',gd,ee,k⟩:=ah
 unfold nQ at ee
 split at ee
 next b' ρ1 h1=>
  refine⟨ρ,w,t,b',ρ1,gd,h1,fun H1 w1 g1 aF=>?_⟩
  split at ee
  ·rename_i hb;rw[Qf hb]
   cases ee
   exact k H1 w1 g1 aF
  ·rename_i hb;rw[Qi hb]
   exact⟨ρ1,w1,t,b,ρ',g1,ee,fun H2 w2 g2 bj=>k H2 w2 g2 (aF.trans bj)⟩
 ·cases ee⟩
@[simp] def oP (g:cF)(fa fb:aB):aB:=fun ρ=>match g ρ with
 | some (b,ρ1)=>if b=true then fa ρ1 else fb ρ1
 | none=>none
def FL(hc:f_ X c gc)(ha:QD X a fa)(hb:QD X b fb):QD X (.IfExp c a b pos) (oP gc fa fb):=⟨have hc:=hc.o;have ha:=ha.o;have hb:=hb.o;PE.imp (Mf hc ha hb) fun σ H Q ah=>by
 obtain⟨ρ,w,t,r',q,ρ',gd,ee,k⟩:=ah
 unfold oP at ee
 split at ee
 next b' ρ1 h1=>
  refine⟨ρ,w,t,b',ρ1,gd,h1,fun H1 w1 g1 aF=>?_⟩
  split at ee
  ·rename_i hb;rw[Qf hb]
   exact⟨ρ1,w1,t,r',q,ρ',g1,ee,fun v H2 w2 F g2 bj=>k v H2 w2 F g2 (aF.trans bj)⟩
  ·rename_i hb;rw[Qi hb]
   exact⟨ρ1,w1,t,r',q,ρ',g1,ee,fun v H2 w2 F g2 bj=>k v H2 w2 F g2 (aF.trans bj)⟩
 ·cases ee⟩
end
inductive Out where
 | nx (ρ:aW)|rt (d:D) (q:Nat)|bk (ρ:aW)|ct (ρ:aW)
abbrev aN:=aW->Option Out
def nR (K:PySem.W.Frag)(Dn:Ends)(n:Nat)(H:Hp)(w:Wn):Out->Prop
 | .nx ρ'=>∀ aM H' w',aM.length=n->Good K ρ' aM H' w' 0->Go H w H' w'->Dn.nx aM H'
 | .bk ρ'=>∀ aM H' w',aM.length=n->Good K ρ' aM H' w' 0->Go H w H' w'->Dn.bk aM H'
 | .ct ρ'=>∀ aM H' w',aM.length=n->Good K ρ' aM H' w' 0->Go H w H' w'->Dn.ct aM H'
 | .rt d q=>∀ v H' w' F,WL K w' H'->Go H w H' w'->Rep K H' w' (.t 0) q d v F->Dn.rt v H'
def vD (K:PySem.W.Frag)(f:aN):TS:=fun Dn σ H=>∃ ρ w o,Good K ρ σ H w 0/\f ρ=some o/\nR K Dn σ.length H w o
def PS.imp{e:Stmt}{t t':TS}(h:PS X e t)(i:∀ D σ H,t' D σ H->t D σ H):PS X e t':=fun pins s σ H D I q=>h pins s σ H D I (i D σ H q)
def gm.imp{e:List Stmt}{t t':TS}(h:gm X e t)(i:∀ D σ H,t' D σ H->t D σ H):gm X e t':=fun pins s σ H D I q=>h pins s σ H D I (i D σ H q)
abbrev O8 (X:Cx)(st:Stmt)(f:aN):Prop:=PS X st (vD X.K f)
structure jA (X:Cx) (e:Stmt) (f:aN):Prop where mk::o:O8 X e f
abbrev yV (X:Cx)(st:List Stmt)(f:aN):Prop:=gm X st (vD X.K f)
structure fV (X:Cx) (e:List Stmt) (f:aN):Prop where mk::o:yV X e f
@[simp] def dG:aN:=fun ρ=>some (.nx ρ)
@[simp] def aG (f g:aN):aN:=fun ρ=>match f ρ with
 | some (.nx ρ1)=>g ρ1
 | o=>o
theorem nR.trans{Dn:Ends}{w w1:Wn}(go:Go H w H1 w1):∀ {o:Out},nR K Dn n H w o->nR K Dn n H1 w1 o
 | .nx _,h=>fun aM H' w' e g fU=>h aM H' w' e g (go.trans fU)
 | .bk _,h=>fun aM H' w' e g fU=>h aM H' w' e g (go.trans fU)
 | .ct _,h=>fun aM H' w' e g fU=>h aM H' w' e g (go.trans fU)
 | .rt _ _,h=>fun v H' w' F wl fU=>h v H' w' F wl (go.trans fU)
section
variable {X:Cx}{a b c e:Expr}{fa fb fc f:aB}{ga gb gc:cF}{pos:Pos}{st:Stmt}{bh sa sb:List Stmt}{s s':aN}
def fy:fV X [] dG:=⟨gm.imp Mj fun D σ H ah=>by
 obtain⟨ρ,w,o,g,ee,k⟩:=ah
 cases ee
 exact k σ H w rfl g Go.refl⟩
def aR(h1:jA X st s)(h2:fV X bh s'):fV X (st::bh) (aG s s'):=⟨have h1:=h1.o;have h2:=h2.o;gm.imp (EB h1 h2) fun D σ H ah=>by
 obtain⟨ρ,w,o,g,ee,k⟩:=ah
 unfold aG at ee
 split at ee
 next ρ1 h1=>
  exact⟨ρ,w,.nx ρ1,g,h1,fun aM H' w' e g' fU=>⟨ρ1,w',o,g',ee,by rw[e];exact k.trans fU⟩⟩
 next bK=>
  refine⟨ρ,w,o,g,ee,?_⟩
  cases o with
  | nx ρ1=>exact absurd ee (bK ρ1)
  | bk ρ1=>exact k
  | ct ρ1=>exact k
  | rt d q=>exact k⟩
def aY(h1:jA X st s):fV X [st] s:=⟨have h1:=h1.o;EC h1⟩
@[simp] def bT (f:aB):aN:=fun ρ=>match f ρ with
 | some (d,q,_)=>some (.rt d q)
 | none=>none
def cn(h:QD X e f):jA X (.Return (some e) pos) (bT f):=⟨have h:=h.o;PS.imp (ED h) fun D σ H ah=>by
 obtain⟨ρ,w,o,g,ee,k⟩:=ah
 unfold bT at ee
 split at ee
 next d q ρ1 h1=>
  cases ee
  exact⟨ρ,w,0,d,q,ρ1,g,h1,fun v H' w' F g' fU r=>k v H' w' F g'.wl fU r⟩
 ·cases ee⟩
@[simp] def cY (g:cF)(s s':aN):aN:=fun ρ=>match g ρ with
 | some (b,ρ1)=>if b=true then s ρ1 else s' ρ1
 | none=>none
def eU(hc:f_ X c gc)(ha:fV X sa s)(hb:fV X sb s'):jA X (.If c sa sb pos) (cY gc s s'):=⟨have hc:=hc.o;have ha:=ha.o;have hb:=hb.o;PS.imp (EE hc ha hb) fun D σ H ah=>by
 obtain⟨ρ,w,o,g,ee,k⟩:=ah
 unfold cY at ee
 split at ee
 next b' ρ1 h1=>
  refine⟨ρ,w,0,b',ρ1,g,h1,fun H1 w1 g1 aF=>?_⟩
  split at ee
  ·rename_i hb;rw[Qf hb]
   exact⟨ρ1,w1,o,g1,ee,k.trans aF⟩
  ·rename_i hb;rw[Qi hb]
   exact⟨ρ1,w1,o,g1,ee,k.trans aF⟩
 ·cases ee⟩
def k7 (t i:Nat)(w:Wn):Wn:=fun a=>if w a=some (.t t)then some (.s i)else if w a=some (.s i)then none else w a
def Good.set{ρ:aW}{σ:St}{w:Wn}{q:Nat}{d:D}(g:Good K ρ σ H w 1)(hi:i<σ.length)(r:Rep K H w (.t 0) q d v F) :
  Good K (ρ.set i (some (d,q))) (σ.set i (some v)) H (k7 0 i w) 0/\∀ cy oQ,Go cy oQ H w->(∀ a j,oQ a=some (.t j)->j<0)->Go cy oQ H (k7 0 i w):=by
 have mN:∀ a,w a=none->k7 0 i w a=none:=fun a e=>by unfold k7;rw[e];rfl
 have mT:∀ a,w a=some (.t 0)->k7 0 i w a=some (.s i):=fun a e=>by unfold k7;rw[Qf e]
 have mS:∀ a j,w a=some (.s j)->j≠i->k7 0 i w a=some (.s j):=fun a j e n=>by
  unfold k7
  rw[Qi (by rw[e];exact fun z=>nomatch z),Qi (by rw[e];intro z;cases z;exact n rfl)]
  exact e
 have mF:∀ a,w a=some .f->k7 0 i w a=some .f:=fun a e=>by
  unfold k7
  rw[Qi (by rw[e];exact fun z=>nomatch z),Qi (by rw[e];exact fun z=>nomatch z)]
  exact e
 have mI:∀ a o,k7 0 i w a=some o->(w a=some (.t 0)/\o=.s i)\/(w a=some o/\o ≠ .s i/\o ≠ .t 0):=fun a o e=>by
  unfold k7 at e
  split at e
  ·cases e;exact .inl ⟨by assumption,rfl⟩
  next n1=>
   split at e
   ·cases e
   ·rename_i n2;exact .inr ⟨e,fun z=>n2 (by rw[e,z]),fun z=>n1 (by rw[e,z])⟩
 have st:de H w H (k7 0 i w):=fun a x h n=>⟨sm h,mN a n⟩
 refine⟨⟨⟨fun a o e=>?_,g.wl.tb⟩,fun a j e=>?_,fun a j e=>?_,by rw[QS,QS];exact g.len,fun j d' q' e'=>?_⟩,fun cy oQ go hw=>⟨fun a x h n=>⟨(go.bA a x h n).1,mN a (go.bA a x h n).2⟩,fun a o e n=>?_⟩⟩
 ·rcases mI a o e with⟨z,_⟩|⟨z,_⟩
  ·exact g.wl a _ z
  ·exact g.wl a _ z
 ·rw[QS]
  rcases mI a _ e with⟨_,z⟩|⟨z,_⟩
  ·cases z;exact hi
  ·exact g.ws a j z
 ·rcases mI a _ e with⟨_,z⟩|⟨z,_,n⟩
  ·cases z
  ·have:=g.wt a j z
   have:j=0:=by omega
   subst this
   exact absurd rfl n
 ·by_cases hj:i=j
  ·subst hj
   rw[QP (by rw[g.len];exact hi)]at e'
   cases e'
   exact⟨v,F,QP hi,Rep.go g.wl st r fun a m=>⟨rfl,mT a (r.aC a m)⟩⟩
  ·rw[QR hj]at e'
   obtain⟨v',F',h1,h2⟩:=g.slot j d' q' e'
   exact⟨v',F',by rw[QR hj];exact h1,Rep.go g.wl st h2 fun a m=>⟨rfl,mS a j (h2.aC a m) (fun z=>hj z.symm)⟩⟩
 ·obtain⟨h1,h2⟩:=go.keep a o e n
  refine⟨h1,?_⟩
  cases o with
  | s j=>exact absurd rfl (n j)
  | f=>exact mF a h2
  | t j=>exact absurd (hw a j e) (Q1 _)
@[simp] def ba (i:Nat)(f:aB):aN:=fun ρ=>match f ρ with
 | some (d,q,ρ1)=>some (.nx (ρ1.set i (some (d,q))))
 | none=>none
def FN{D:Ends}{σ:St}(hi:i<σ.length)(he:∀ Q,tD K f σ H Q->te σ H Q)(h:vD K (ba i f) D σ H):te σ H fun x H1=>D.nx (σ.set i (some x)) H1:=by
 obtain⟨ρ,w,o,g,ee,k⟩:=h
 unfold ba at ee
 split at ee
 next d q ρ1 h1=>
  cases ee
  refine he _ ⟨ρ,w,0,d,q,ρ1,g,h1,fun v H' w' F g' fU r=>?_⟩
  obtain⟨a1,a2⟩:=g'.set hi r
  exact k _ _ _ (by rw[QS]) a1 (a2 _ _ fU g.wt)
 ·cases ee
def bJ{x:Str}{pos':Pos}(hN:X.N.Nodup)(hi:X.N[i]? = some x)(hx:Loc X.env.scope x)(he:QD X e f)(hs:swapsWith e (some (.Name x pos')) pos.line X.env=pure false:=by rfl)(hf:X.fn x=true\/X.env.scope.names.lookup x=some .local:=by first|exact .inl rfl|exact .inr rfl):jA X (.Assign [.Name x pos'] e pos) (ba i f):=⟨have he:=he.o;by
 intro pins s σ H D I h
 have hl:i<σ.length:=by rw[I.len];exact(Qq.mp hi).1
 exact EH (te:=tD X.K f) hN hi hx he hs hf pins s σ H D I (FN hl (fun _ z=>z) h)⟩
@[simp] def eI (f:aB):aN:=fun ρ=>match f ρ with
 | some (_,_,ρ1)=>some (.nx ρ1)
 | none=>none
def i_(he:QD X e f)(hs:swapsWith e none pos.line X.env=pure false:=by rfl):jA X (.Expr e pos) (eI f):=⟨have he:=he.o;PS.imp (Mm he hs) fun D σ H ah=>by
 obtain⟨ρ,w,o,g,ee,k⟩:=ah
 unfold eI at ee
 split at ee
 next d q ρ1 h1=>
  cases ee
  exact⟨ρ,w,0,d,q,ρ1,g,h1,fun v H' w' F g' fU r=>k σ H' (bG 0 w') rfl g'.drop (fU.drop g.wt)⟩
 ·cases ee⟩
end
structure Mo (K:PySem.W.Frag) (H H':Hp):Prop where
 mo:∀ a o,H a=some o->H' a=some o
 tb:TB K H->TB K H'
def Mo.sd:Mo K H H:=⟨fun _ _ e=>e,fun t=>t⟩
structure mC (K:PySem.W.Frag) (J:It) (ds:List D) (P:Hp->Wn->Prop):Prop where
 go:∀ i H w,P H w->i<ds.length->J.go i H
 pM:∀ i H w x H' d,P H w->WL K w H->ds[i]? = some d->J.pM i H x H'->Mo K H H'/\Rep K H' w .f 0 d x []/\P H' w
 stop:∀ H w,P H w->J.stop ds.length H
 st:∀ H w H' w',P H w->WL K w H->de H w H' w'->P H' w'
abbrev jB:=aW->Option (List D×aW)
def yW (K:PySem.W.Frag)(f:jB):TI:=fun σ H R=>∃ ρ w t ds ρ',Good K ρ σ H w t/\f ρ=some (ds,ρ') /\
 ∀ J P H' w',Good K ρ' σ H' w' t->Go H w H' w'->mC K J ds P->P H' w'->ds.length<sizeLine->R J H'
def PI.imp{t t':TI}(h:PI X tg e t)(i:∀ σ H R,t' σ H R->t σ H R):PI X tg e t':=fun pins s σ H R I q=>h pins s σ H R I (i σ H R q)
abbrev O9 (X:Cx)(tg e:Expr)(f:jB):Prop:=PI X tg e (yW X.K f)
structure se (X:Cx) (tg e:Expr) (f:jB):Prop where mk::o:O9 X tg e f
def It.list{K:PySem.W.Frag}{a:Addr}{vs:List V}{ds:List D}(hl:ds.length=vs.length):mC K (AF K a) ds fun H w=>(KL K a vs\/(Rd H a (.lst vs)/\w a=none))/\af K H w .f 0 ds vs []:=by
 have sq:∀ {H:Hp} {w:Wn},KL K a vs\/(Rd H a (.lst vs)/\w a=none)->cE K H a vs:=fun h=>h.elim (fun z=>z.sq) fun z=>.inl z.1
 refine⟨fun i H w p hi=>⟨vs,vs[i],sq p.1,by simp[hl ▸ hi]⟩,fun i H w x H' d p wl hd y=>?_,fun H w p=>⟨vs,sq p.1,by omega⟩,fun H w H' w' p wl st=>?_⟩
 ·obtain⟨rfl,hx⟩:=y
  obtain⟨v,hv,rv⟩:=p.2.get hd
  have:=hx vs (sq p.1)
  rw[hv]at this
  cases this
  exact⟨Mo.sd,rv,p⟩
 ·refine⟨?_,af.go wl st p.2 nM⟩
  rcases p.1 with p|⟨p,n⟩
  ·exact .inl p
  ·exact .inr (yE.go st n p)
def It.tup{K:PySem.W.Frag}{a:Addr}{vs:List V}{ds:List D}(hl:ds.length=vs.length):mC K (AG K a) ds fun H w=>du K H a vs/\af K H w .f 0 ds vs []:=
 ⟨fun i H w p hi=>⟨vs,vs[i],p.1,by simp[hl ▸ hi]⟩,fun i H w x H' d p wl hd y=>by
   obtain⟨rfl,hx⟩:=y
   obtain⟨v,hv,rv⟩:=p.2.get hd
   have:=hx vs p.1
   rw[hv]at this
   cases this
   exact⟨Mo.sd,rv,p⟩,fun H w p=>⟨vs,p.1,by omega⟩,fun H w H' w' p wl st=>⟨du.go wl st p.1,af.go wl st p.2 nM⟩⟩
def qg (n:Nat):List V:=(List.range n).map fun i=>.int (Int.ofNat i)
def da (n:Nat):List D:=(List.range n).map fun i=>.int (Int.ofNat i)
def gv(n:Nat):(da n).length=n:=by simp[da]
def FO(n:Nat):(qg n).length=n:=by simp[qg]
def It.range:mC K (yh 0 n) (da n) fun _ _=>True:=by
 refine⟨fun i H w _ hi=>by rw[gv]at hi;exact hi,fun i H w x H' d _ _ hd y=>?_,fun H w _=>by rw[gv];exact Qh _,fun _ _ _ _ _ _ _=>trivial⟩
 have hi:i<n:=by have:=(Qq.mp hd).1;rw[gv]at this;exact this
 have e:x=.int (0+(i:Int)):=y.2
 have ed:d=.int (Int.ofNat i):=by
  have:(da n)[i]? = some (.int (Int.ofNat i)):=by simp[da,hi]
  rw[hd]at this
  exact QF this
 obtain⟨rfl,_⟩:=y
 subst ed
 rw[e,Int.zero_add]
 exact⟨Mo.sd,.int _,trivial⟩
theorem yX{w:Wn}{o:Ow}:∀ (ns:List Int),af K H w o 0 (ns.map D.int) (ns.map V.int) []
 | []=>.nil
 | n::r=>.cons (F:=[]) (G:=[]) (.int n) (yX r) nM
def O_{w:Wn}{o:Ow}(n:Nat):af K H w o 0 (da n) (qg n) []:=by
 have:=yX (K:=K) (H:=H) (w:=w) (o:=o) ((List.range n).map Int.ofNat)
 rw[Zf,Zf]at this
 exact this
section
variable {X:Cx}{tg a b c e:Expr}{fa fb fc f:aB}{ga gb gc:cF}{pos p:Pos}
@[simp] def cB (g:b_):jB:=fun ρ=>match g ρ with
 | some ([.int n],ρ1)=>if -1000<=n/\n<=1000 then some (da n.toNat,ρ1)else none
 | _=>none
def fA{g:b_}(hm:X.mg "range" = none)(ha:f9 X [a] g)(hg:Gl X "range":=by rfl)(hs:starEach [a] X.env=[(false,eval a X.env)]:=by rfl):se X tg (.Call (.Name "range" p) [a] [] pos) (cB g):=⟨have ha:=ha.o;PI.imp (MJ hg hm ha hs) fun σ H R ah=>by
 obtain⟨ρ,w,t,ds,ρ',gd,ee,k⟩:=ah
 unfold cB at ee
 split at ee
 next n ρ1 h1=>
  split at ee
  next hn=>
   cases ee
   refine⟨ρ,w,t,[.int n],_,gd,h1,fun vs H1 w1 g1 aF r1=>?_⟩
   have hv:vs=[.int n]:=by
    have l:=r1.length
    match vs,l with
    | [v],_=>
     obtain⟨v',h1,h2⟩:=r1.get (i:=0) rfl
     cases h1
     rw[d7 h2]
   subst hv
   refine⟨n,rfl,by omega,by omega,k _ _ H1 w1 g1 aF It.range trivial ?_⟩
   rw[gv]
   exact lP (by omega)
  ·cases ee
 ·cases ee⟩
def Pa (K:PySem.W.Frag)(tl:TE):TI:=fun σ H R=>tl σ H fun x H1=>∃ a,x=.ref a/\(((∃ xs,cE K H1 a xs)/\R (AF K a) H1)\/((∃ xs,du K H1 a xs)/\R (AG K a) H1))
def Pb{l:Expr}{tl:TE}(hl:PE X l tl):PI X tg l (Pa X.K tl):=by
 intro pins s σ H R I h
 refine aV (hl pins s σ H _ I h) fun v s1 ⟨x,H1,I1,r1,q1⟩=>?_
 obtain⟨a,e,q⟩:=q1
 subst e
 cases r1
 rcases q with⟨⟨xs,hq⟩,q⟩|⟨⟨xs,hq⟩,q⟩
 ·obtain⟨aq,rv,p,hz⟩:=I1.list hq
  refine wpAny_pyIter_list p.isList ?_
  refine⟨s1.heap.objs.size,[s1.heap.objs.size],_,_,H1,rfl,I1.kept (t':=s1.toks) fun b o e=>Qe _ e,ME a _,⟨_,Qv _ rfl,rfl,rfl⟩,fun b hb=>?_,q⟩
  have e:b=s1.heap.objs.size:=by simpa using hb
  subst e
  exact I1.ot (Qh _) (I1.az.fresh (Qh _))
 ·obtain⟨aq,rv,p,hz⟩:=I1.tuple hq
  refine Jy (show s1.heap.IsTuple a aq.toArray from p) ?_
  refine⟨s1.heap.objs.size,[s1.heap.objs.size],_,_,H1,rfl,I1.kept (t':=s1.toks) fun b o e=>Qe _ e,MF a _,⟨_,Qv _ rfl,rfl,rfl⟩,fun b hb=>?_,q⟩
  have e:b=s1.heap.objs.size:=by simpa using hb
  subst e
  exact I1.ot (Qh _) (I1.az.fresh (Qh _))
@[simp] def d8 (f:aB):jB:=fun ρ=>match f ρ with
 | some (.lst ds,_,ρ1)=>if ds.length<=1000 then some (ds,ρ1)else none
 | some (.tup ds,_,ρ1)=>if ds.length<=1000 then some (ds,ρ1)else none
 | _=>none
def km(ha:QD X a fa):se X tg a (d8 fa):=⟨have ha:=ha.o;PI.imp (Pb ha) fun σ H R ah=>by
 obtain⟨ρ,w,t,ds,ρ',gd,ee,k⟩:=ah
 unfold d8 at ee
 split at ee
 next cx q ρ1 h1=>
  split at ee
  next hl=>
   cases ee
   refine⟨ρ,w,t,.lst ds,q,ρ',gd,h1,fun v H1 w1 F g1 aF r1=>?_⟩
   have r0:=r1.drop (o:=.f) (Qh t)
   cases r0 with
   | kl h r=>exact⟨_,rfl,.inl ⟨⟨_,h.sq⟩,k _ _ H1 (bG t w1) g1.drop (aF.drop gd.wt) (It.list r.length) ⟨.inl h,r⟩ (lP hl)⟩⟩
   | shr h n r=>exact⟨_,rfl,.inl ⟨⟨_,.inl h⟩,k _ _ H1 (bG t w1) g1.drop (aF.drop gd.wt) (It.list r.length) ⟨.inr ⟨h,n⟩,r⟩ (lP hl)⟩⟩
  ·cases ee
 next cx q ρ1 h1=>
  split at ee
  next hl=>
   cases ee
   refine⟨ρ,w,t,.tup ds,q,ρ',gd,h1,fun v H1 w1 F g1 aF r1=>?_⟩
   have r0:=r1.drop (o:=.f) (Qh t)
   cases r0 with
   | tup h r=>exact⟨_,rfl,.inr ⟨⟨_,du.of h⟩,k _ _ H1 (bG t w1) g1.drop (aF.drop gd.wt) (It.tup r.length) ⟨du.of h,r⟩ (lP hl)⟩⟩
  ·cases ee
 ·cases ee⟩
end
abbrev eV:=D->aW->Option aW
def yY (K:PySem.W.Frag)(b:Nat)(pt:eV):TG:=fun v σ H Q=>∃ d ρ w t ρ',Good K ρ σ H w t/\Rep K H w .f 0 d v []/\pt d ρ=some ρ'/\∀ aM H' w',aM.length=σ.length->(∀ i,i<b->aM[i]? = σ[i]?)->Good K ρ' aM H' w' t->Go H w H' w'->Q aM H'
def PG.imp{t t':TG}(h:PG X tg t)(i:∀ v σ H Q,t' v σ H Q->t v σ H Q):PG X tg t':=fun pins s σ H v u Q I r q=>h pins s σ H v u Q I r (i v σ H Q q)
abbrev Pc (X:Cx)(b:Nat)(tg:Expr)(pt:eV):Prop:=PG X tg (yY X.K b pt)
structure qh (X:Cx) (b:Nat) (e:Expr) (f:eV):Prop where mk::o:Pc X b e f
@[simp] def aL (i:Nat):eV:=fun d ρ=>if i<ρ.length then some (ρ.set i (some (d,gY d)))else none
def Good.sf{ρ:aW}{σ:St}{w:Wn}{t:Nat}{d:D}(g:Good K ρ σ H w t)(hi:i<σ.length)(r:Rep K H w .f 0 d v []) :
  Good K (ρ.set i (some (d,gY d))) (σ.set i (some v)) H (iz i w) t/\Go H w H (iz i w):=by
 have st:de H w H (iz i w):=fun a x h n=>⟨sm h,vz n⟩
 refine⟨⟨⟨fun a o h=>g.wl a o (oM h).1,g.wl.tb⟩,fun a j h=>by rw[QS];exact g.ws a j (oM h).1,fun a j h=>g.wt a j (oM h).1,by rw[QS,QS];exact g.len,fun j d' q' e'=>?_⟩,⟨st,fun a o h n=>⟨rfl,t_ h (n i)⟩⟩⟩
 by_cases hj:i=j
 ·subst hj
  rw[QP (by rw[g.len];exact hi)]at e'
  cases e'
  exact⟨v,[],QP hi,(Rep.go g.wl st r nM:Rep K H (iz i w) (.s i) 0 d v []).i6⟩
 ·rw[QR hj]at e'
  obtain⟨v',F,h1,h2⟩:=g.slot j d' q' e'
  exact⟨v',F,by rw[QR hj];exact h1,Rep.go g.wl st h2 fun a m=>⟨rfl,t_ (h2.aC a m) (fun z=>hj (by cases z;rfl))⟩⟩
def cq{b:Nat}{x:Str}{pos:Pos}(hb:b<=i)(hN:X.N.Nodup)(hi:X.N[i]? = some x)(hx:Loc X.env.scope x)(hf:X.fn x=true\/X.env.scope.names.lookup x=some .local:=by first|exact .inl rfl|exact .inr rfl):qh X b (.Name x pos) (aL i):=⟨PG.imp (Ms hN hi hx hf) fun v σ H Q ah=>by
 obtain⟨d,ρ,w,t,ρ',g,r,e,k⟩:=ah
 unfold aL at e
 split at e
 next hl=>
  cases e
  obtain⟨a1,a2⟩:=g.sf (by rw[<- g.len];exact hl) r
  exact k _ _ _ (by rw[QS]) (fun j hj=>QR (by omega)) a1 a2
 ·cases e⟩
def eX (pt:eV)(body:aN):List D->aW->Option Out
 | [],ρ=>some (.nx ρ)
 | d::ds,ρ=>match pt d ρ with
  | none=>none
  | some ρ1=>match body ρ1 with
   | some (.nx ρ2)=>eX pt body ds ρ2
   | some (.ct ρ2)=>eX pt body ds ρ2
   | some (.bk ρ2)=>some (.nx ρ2)
   | o=>o
@[simp] def eJ (it:jB)(pt:eV)(body:aN):aN:=fun ρ=>match it ρ with
 | some (ds,ρ1)=>eX pt body ds ρ1
 | none=>none
def af.oR{w w':Wn}{ds:List D}(r:af K H w .f 0 ds vs [])(wl:WL K w H)(st:de H w H' w'):af K H' w' .f 0 ds vs []:=af.go wl st r nM
def Rep.oR{w w':Wn}{ds:D}{vs:V}(r:Rep K H w .f 0 ds vs [])(wl:WL K w H)(st:de H w H' w'):Rep K H' w' .f 0 ds vs []:=Rep.go wl st r nM
def Good.more{ρ:aW}{σ:St}{w:Wn}{t:Nat}(g:Good K ρ σ H w t)(hm:Mo K H H'):Good K ρ σ H' w t/\Go H w H' w:=by
 have h:=hm.mo
 have st:de H w H' w:=fun a x e n=>⟨sm (h a x e),n⟩
 have kp:∀ a o,w a=some o->H' a=H a:=fun a o e=>by
  obtain⟨vs,q⟩:=g.wl a o e
  rw[q,h a _ q]
 refine⟨⟨⟨fun a o e=>?_,hm.tb g.wl.tb⟩,g.ws,g.wt,g.len,fun i d q e=>?_⟩,st,fun a o e _=>⟨kp a o e,e⟩⟩
 ·obtain⟨vs,q⟩:=g.wl a o e
  exact⟨vs,h a _ q⟩
 ·obtain⟨v,F,h1,h2⟩:=g.slot i d q e
  exact⟨v,F,h1,Rep.go g.wl st h2 fun a m=>⟨kp a _ (h2.aC a m),h2.aC a m⟩⟩
def gN{iter:Expr}{body:List Stmt}{it:jB}{pt:eV}{s:aN}{pos:Pos}(hp:PassesOwn (model X.prog X.w) X.A X.env X.xe)(hc:X.calm=true)(hi:se X tg iter it)(hg:qh X 0 tg pt)(hb:fV X body s)(hs:∀ x,foldedSetIterable iter X.env x=pure x:=by intro _;rfl):jA X (.For tg iter body [] pos) (eJ it pt s):=⟨have hi:=hi.o;have hg:=hg.o;have hb:=hb.o;PS.imp (EJ hp hc hi hg hb hs) fun D σ H ah=>by
 obtain⟨ρ,w,o,g,ee,k⟩:=ah
 unfold eJ at ee
 split at ee
 next ds ρ1 h1=>
  refine⟨ρ,w,0,ds,ρ1,g,h1,fun J P H1 w1 g1 aF ok p1 hl=>?_⟩
  refine⟨fun i m aM H'=>m=ds.length-i/\i<=ds.length/\aM.length=σ.length/\∃ ρ' w',Good X.K ρ' aM H' w' 0/\P H' w'/\eX pt s (ds.drop i) ρ'=some o/\nR X.K D σ.length H' w' o,
   ⟨ds.length,by simp,QL _,rfl,ρ1,w1,g1,p1,ee,k.trans aF⟩,?_⟩
  rintro i m aM H' ⟨rfl,mD,cL,ρ',w',g',p',e',k'⟩
  by_cases bY:i<ds.length
  ·refine .inr ⟨ok.go i H' w' p' bY,fun jK H2=>ds.length-(i+1)=ds.length-(i+1)/\i+1<=ds.length/\jK.length=σ.length/\∃ ρ2 w2,Good X.K ρ2 jK H2 w2 0/\P H2 w2/\eX pt s (ds.drop (i+1)) ρ2=some o/\nR X.K D σ.length H2 w2 o,
    fun jK H2 n2=>⟨ds.length-(i+1),by omega,n2⟩,fun x H2 hy=>?_⟩
   obtain⟨mo,rx,p2⟩:=ok.pM i H' w' x H2 ds[i] p' g'.wl (Qb bY) hy
   obtain⟨g2,bj⟩:=g'.more mo
   have ed:ds.drop i=ds[i]::ds.drop (i+1):=JU bY
   rw[ed]at e'
   unfold eX at e'
   split at e'
   ·cases e'
   next eY h3=>
    refine⟨ds[i],ρ',w',0,eY,g2,rx,h3,fun p6 H4 w4 l4 _ g4 ja=>?_⟩
    have p4:=ok.st _ _ _ _ p2 g2.wl ja.bA
    have nx:∀ {fB:aW},eX pt s (ds.drop (i+1)) fB=some o->∀ g7 H5 w5,g7.length=p6.length->Good X.K fB g7 H5 w5 0->Go H4 w4 H5 w5->ds.length-(i+1)=ds.length-(i+1)/\i+1<=ds.length/\g7.length=σ.length/\∃ ρ2 w2,Good X.K ρ2 g7 H5 w2 0/\P H5 w2/\eX pt s (ds.drop (i+1)) ρ2=some o/\nR X.K D σ.length H5 w2 o:=fun {fB} e5 g7 H5 w5 l5 g5 gf=>
     ⟨rfl,bY,by rw[l5,l4,cL],fB,w5,g5,ok.st _ _ _ _ p4 g4.wl gf.bA,e5,k'.trans ((bj.trans ja).trans gf)⟩
    cases h6:s eY with
    | none=>rw[h6]at e';cases e'
    | some o6=>
     rw[h6]at e'
     refine⟨eY,w4,o6,g4,h6,?_⟩
     cases o6 with
     | nx fB=>exact nx e'
     | ct fB=>exact nx e'
     | bk fB=>
      cases e'
      exact fun g7 H5 w5 l5 g5 gf=>k' g7 H5 w5 (by rw[l5,l4,cL]) g5 ((bj.trans ja).trans gf)
     | rt d q=>
      cases e'
      exact fun v H5 w5 F BN gf r5=>k' v H5 w5 F BN ((bj.trans ja).trans gf) r5
  ·have cT:i=ds.length:=J9 mD (Y3.mp bY)
   subst cT
   refine .inl ⟨ok.stop H' w' p',?_⟩
   have ed:ds.drop ds.length=[]:=by simp
   rw[ed]at e'
   cases e'
   exact k' aM H' w' cL g' Go.refl
 ·cases ee⟩
@[simp] def oS (n:Nat)(ds:List D):aW:=ds.map (fun d=>some (d,gY d))++List.replicate (n-ds.length) none
@[simp] def cM (n:Nat)(body:aN):List D->OD:=fun ds=>match body (oS n ds)with
 | some (.rt d q)=>some (d,q)
 | some (.nx _)=>some (.aK,9)
 | _=>none
def BO{w:Wn}{ds:List D}(hw:∀ a o,w a=some o->o=.f)(wl:WL K w H)(r:af K H w .f 0 ds vs []):Good K (oS N.length ds) (start N vs) H w 0:=by
 refine⟨wl,(fun a i e=>by cases (hw a _ e)),(fun a i e=>by cases (hw a _ e)),?_,fun i d q e=>?_⟩
 ·unfold oS L2.start
  rw[Qm,Qm,Qc,Qc,ZB,ZB,r.length]
 ·unfold oS at e
  by_cases hi:i<ds.length
  ·rw[QW (by simpa using hi),Qk]at e
   cases h:ds[i]? with
   | none=>rw[h]at e;cases e
   | some d'=>
    rw[h]at e
    cases e
    obtain⟨v,hv,rv⟩:=r.get h
    refine⟨v,[],?_,(rv.any wl:Rep K H w (.s i) 0 d v []).i6⟩
    unfold L2.start
    rw[QW (by rw[Qc,<- r.length];exact hi),Qk,hv]
    rfl
  ·rw[Zm (by simpa using hi),Z0]at e
   split at e<;>cases e
def Pd{body:aN}{Q:VK}(h:k6 K n (cM N.length body) vs H Q E):vD K body { nx:=fun _ H'=>Q .aK H',rt:=Q } (start N vs) H:=by
 obtain⟨hn,ds,w,r,q,hw,wl,rs,e,k⟩:=h
 unfold cM at e
 split at e
 next d q' h1=>
  cases e
  exact⟨_,w,_,BO hw wl rs,h1,fun v H' w' F nP fU r'=>k v H' w' F fU nP r'⟩
 next ρ' h1=>
  cases e
  exact⟨_,w,_,BO hw wl rs,h1,fun aM H' w' _ g' fU=>k .aK H' w' [] fU g'.wl .aK⟩
 ·cases e
theorem FP{P:Program}{wd:World}{mg:Str->Option Value}{base:Heap}{x qual:Str}{st:Stmt}{f:Addr}{k:Nat}{body:aN}(F:mr K x qual st f fd)(S:aj N ps (bD st))
  (h:∀ (bS:Value) (A:Around) (outer:List Env) (s:Shared) (H:Hp) (E:XK),aS k (A.deeper (envOfC qual (bD st) s.heap.objs.size f bS))->yV (lO jx P wd K mg base N qual (bD st) f bS A outer s H E).iW (jw st) body) :
  dS P wd K mg base jx (k+1) f fd ps (k6 K ps.length (cM N.length body)):=
 F.ok S (fun vs H Q E h=>h.1) fun bS A outer s H vs Q E hr jP=>⟨_,h bS A outer s H E hr,Pd jP⟩
def jS (k:Nat)(pt:eV)(tt:cF)(te:aB)(deep:Bool):List D->aW->Option (List D×aW)
 | [],ρ=>some ([],ρ)
 | d::ds,ρ=>match pt d (ρ++List.replicate k none)with
  | none=>none
  | some ρ1=>match tt ρ1 with
   | none=>none
   | some (b,ρ2)=>if b=true then(match te ρ2 with
     | none=>none
     | some (v,q,eY)=>if deep=true/\v.cK=true/\q≠1 then none else match jS k pt tt te deep ds (eY.take ρ.length)with
      | none=>none
      | some (vs,yZ)=>some (v::vs,yZ))
    else jS k pt tt te deep ds (ρ2.take ρ.length)
@[simp] def dU (k:Nat)(it:jB)(pt:eV)(tt:cF)(te:aB)(deep:Bool):aB:=fun ρ=>match it ρ with
 | some (ds,ρ1)=>match jS k pt tt te deep ds ρ1 with
  | some (vs,ρ2)=>some (.lst vs,if deep=true then 2 else 1,ρ2)
  | none=>none
 | none=>none
@[simp] def dI:cF:=fun ρ=>some (true,ρ)
def Good.ext{ρ:aW}{σ:St}{w:Wn}{t:Nat}(g:Good K ρ σ H w t)(k:Nat):Good K (ρ++List.replicate k none) (σ++List.replicate k none) H w t:=by
 refine⟨g.wl,fun a i e=>by rw[Qm];exact Qw (g.ws a i e) (Yv _ _),g.wt,by rw[Qm,Qm,ZB,ZB,g.len],fun i d q e=>?_⟩
 by_cases hi:i<ρ.length
 ·rw[QW hi]at e
  obtain⟨v,F,h1,h2⟩:=g.slot i d q e
  exact⟨v,F,by rw[QW (by rw[<- g.len];exact hi)];exact h1,h2⟩
 ·rw[Zm (by omega),Z0]at e
  split at e<;>cases e
def mE (n:Nat)(w:Wn):Wn:=fun a=>match w a with
 | some (.s i)=>if n<=i then none else some (.s i)
 | x=>x
def Pe{w:Wn}(h:w a=none):mE n w a=none:=by unfold mE;rw[h]
def Pf{w:Wn}(h:w a=some (.s i))(hi:i<n):mE n w a=some (.s i):=by unfold mE;rw[h];exact Qi (by omega)
def Pg{w:Wn}{o:Ow}(h:w a=some o)(hn:∀ i,o ≠ .s i):mE n w a=some o:=by
 unfold mE;rw[h]
 cases o with
 | s i=>exact absurd rfl (hn i)
 | t i=>rfl
 | f=>rfl
def BP{w:Wn}{o:Ow}(h:mE n w a=some o):w a=some o/\∀ i,o=.s i->i<n:=by
 unfold mE at h
 cases e:w a with
 | none=>rw[e]at h;cases h
 | some o'=>
  rw[e]at h
  cases o' with
  | t i=>cases h;exact⟨rfl,fun i z=>nomatch z⟩
  | f=>cases h;exact⟨rfl,fun i z=>nomatch z⟩
  | s i=>
   dsimp only at h
   split at h
   ·cases h
   ·cases h;exact⟨rfl,fun j z=>by cases z;omega⟩
def Good.cut{ρ:aW}{σ τ:St}{w:Wn}{t:Nat}(g:Good K ρ (σ++τ) H w t):Good K (ρ.take σ.length) σ H (mE σ.length w) t/\Go H w H (mE σ.length w):=by
 have st:de H w H (mE σ.length w):=fun a x h n=>⟨sm h,Pe n⟩
 refine⟨⟨⟨fun a o e=>g.wl a o (BP e).1,g.wl.tb⟩,fun a i e=>(BP e).2 i rfl,fun a i e=>g.wt a i (BP e).1,?_,fun i d q e=>?_⟩,⟨st,fun a o e n=>⟨rfl,Pg e n⟩⟩⟩
 ·rw[Za,g.len,Qm]
  omega
 ·by_cases hi:i<σ.length
  ·rw[ZW hi]at e
   obtain⟨v,F,h1,h2⟩:=g.slot i d q e
   rw[QW hi]at h1
   exact⟨v,F,h1,Rep.go g.wl st h2 fun a m=>⟨rfl,Pf (h2.aC a m) hi⟩⟩
  ·rw[Y4 (by omega)]at e
   cases e
def Ph{σ aM τ:St}(l:aM.length=(σ++τ).length)(h:∀ i,i<σ.length->aM[i]? = (σ++τ)[i]?):∃ FQ,aM=σ++FQ/\FQ.length=τ.length:=by
 refine⟨aM.drop σ.length,?_,by rw[JQ,l,Qm];omega⟩
 have e:aM.take σ.length=σ:=by
  apply ZK
  intro i
  by_cases hi:i<σ.length
  ·rw[ZW hi,h i hi,QW hi]
  ·rw[Y4 (by omega),Q3 (by omega)]
 conv=>lhs;rw[<- Yq σ.length aM,e]
def dq (deep:Bool):Nat:=if deep=true then 1 else 0
def jC (deep:Bool)(t:Nat)(w:Wn):Wn:=fun a=>if w a=some (.t (t+1))then(if deep=true then some (.t t)else none)else w a
def Pj{ρ:aW}{σ:St}{w:Wn}{t q:Nat}{d:D}(g:Good K ρ σ H w (t+2))(r:Rep K H w (.t (t+1)) q d v F)(hq:¬ (deep=true/\d.cK=true/\q≠1)) :
  Good K ρ σ H (jC deep t w) (t+1)/\(∃ F',Rep K H (jC deep t w) (.t t) (dq deep) d v F'/\∀ a∈F',w a=some (.t (t+1)))/\de H w H (jC deep t w)/\(∀ a o,w a=some o->o ≠ .t (t+1)->jC deep t w a=some o):=by
 have hN:∀ a,w a=none->jC deep t w a=none:=fun a e=>by unfold jC;rw[e];rfl
 have hO:∀ a o,w a=some o->o ≠ .t (t+1)->jC deep t w a=some o:=fun a o e n=>by
  unfold jC
  rw[Qi (by rw[e];exact fun z=>n (QF z))]
  exact e
 have hI:∀ a o,jC deep t w a=some o->(w a=some (.t (t+1))/\o=.t t)\/(w a=some o/\o ≠ .t (t+1)):=fun a o e=>by
  unfold jC at e
  split at e
  ·split at e
   ·cases e;exact .inl ⟨by assumption,rfl⟩
   ·cases e
  ·rename_i n;exact .inr ⟨e,fun z=>n (by rw[e,z])⟩
 have st:de H w H (jC deep t w):=fun a x h n=>⟨sm h,hN a n⟩
 refine⟨⟨⟨fun a o e=>?_,g.wl.tb⟩,fun a i e=>?_,fun a i e=>?_,g.len,fun i d' q' e'=>?_⟩,?_,st,hO⟩
 ·rcases hI a o e with⟨z,_⟩|⟨z,_⟩<;>exact g.wl a _ z
 ·rcases hI a _ e with⟨_,z⟩|⟨z,_⟩
  ·cases z
  ·exact g.ws a i z
 ·rcases hI a _ e with⟨_,z⟩|⟨z,n⟩
  ·cases z;exact Zq _
  ·have:=g.wt a i z
   have:i≠t+1:=fun z=>n (by rw[z])
   omega
 ·obtain⟨v',F',h1,h2⟩:=g.slot i d' q' e'
  exact⟨v',F',h1,Rep.go g.wl st h2 fun a m=>⟨rfl,hO a _ (h2.aC a m) (fun z=>nomatch z)⟩⟩
 ·cases deep with
  | false=>
   refine⟨[],Rep.freeze hN r fun a m=>?_,fun _ z=>nomatch z⟩
   unfold jC
   rw[Qf (r.aC a m)]
   rfl
  | true=>
   have hT:∀ a,w a=some (.t (t+1))->jC true t w a=some (.t t):=fun a e=>by unfold jC;rw[Qf e];rfl
   cases hl:d.cK with
   | false=>
    obtain⟨_,hr⟩:=r.fx hl
    exact⟨[],Rep.go g.wl st (hr 1) nM,fun _ z=>nomatch z⟩
   | true=>
    have:q=1:=by
     by_cases h:q=1
     ·exact h
     ·exact absurd ⟨rfl,hl,h⟩ hq
    subst this
    exact⟨F,Rep.go g.wl st r fun a m=>⟨rfl,hT a (r.aC a m)⟩,r.aC⟩
def Pk{ρ:aW}{σ:St}{w1:Wn}{t q:Nat}{ds:List D}(g:Good K ρ σ H1 w1 (t+1))(hp:H1 p=none)(r:af K H1 w1 (.t t) q ds vs F) :
  Good K ρ σ (upd H1 p (.lst vs)) (kh p (.t t) w1) (t+1)/\Go H1 w1 (upd H1 p (.lst vs)) (kh p (.t t) w1)/\Rep K (upd H1 p (.lst vs)) (kh p (.t t) w1) (.t t) (q+1) (.lst ds) (.ref p) (p::F):=by
 have ne:∀ a x,H1 a=some x->a≠p:=fun a x e=>ib e hp
 have nw:∀ a o,w1 a=some o->a≠p:=fun a o e=>by obtain⟨vs,q⟩:=g.wl a o e;exact ne a _ q
 have st:de H1 w1 (upd H1 p (.lst vs)) (kh p (.t t) w1):=fun a x e n=>⟨sm (by rw[bc (ne a x e)];exact e),by rw[iy (ne a x e)];exact n⟩
 refine⟨⟨⟨fun a o e=>?_,g.wl.tb.upd rfl (.inl hp)⟩,fun a i e=>?_,fun a i e=>?_,g.len,fun i d q e=>?_⟩,⟨st,fun a o e _=>⟨bc (nw a o e),(iy (nw a o e)).trans e⟩⟩,?_⟩
 ·by_cases h:a=p
  ·subst h;exact⟨.l vs,fX⟩
  ·rw[iy h]at e
   obtain⟨us,q⟩:=g.wl a o e
   exact⟨us,by rw[bc h];exact q⟩
 ·by_cases h:a=p
  ·subst h;rw[oI]at e;cases e
  ·rw[iy h]at e;exact g.ws a i e
 ·by_cases h:a=p
  ·subst h;rw[oI]at e;cases e;exact Zq _
  ·rw[iy h]at e;exact g.wt a i e
 ·obtain⟨v,F,h1,h2⟩:=g.slot i d q e
  exact⟨v,F,h1,Rep.go g.wl st h2 fun a m=>⟨bc (nw a _ (h2.aC a m)),(iy (nw a _ (h2.aC a m))).trans (h2.aC a m)⟩⟩
 ·exact .own fX oI (af.go g.wl st r fun a m=>⟨bc (nw a _ (r.aC a m)),(iy (nw a _ (r.aC a m))).trans (r.aC a m)⟩) fun m=>absurd rfl (nw p _ (r.aC p m))
def FR{k:Nat}{it:jB}{pt:eV}{tt:cF}{te:aB}:∀ σ H Q,tD K (dU k it pt tt te deep) σ H Q->yA k (yW K it) (yY K σ.length pt) (rY K tt) (tD K te) σ H Q:=fun σ H Q ah=>by
 obtain⟨ρ,w,t,r',q,ρ',g,ee,kk⟩:=ah
 unfold dU at ee
 split at ee
 next ds ρ1 h1=>
  split at ee
  next all ρ2 h2=>
   cases ee
   refine⟨ρ,w,t,ds,ρ1,g,h1,fun J P H1 w1 g1 aF ok p1 hl=>?_⟩
   refine⟨fun i m ys H'=>m=ds.length-i/\i<=ds.length/\ys.length<=i/\∃ eY w3 zs F bh,Good K eY σ H' w3 (t+1)/\Go H w H' w3/\P H' w3/\af K H' w3 (.t t) (dq deep) zs ys F /\
     jS k pt tt te deep (ds.drop i) eY=some (bh,ρ')/\zs++bh=all,
    ⟨ds.length,by simp,QL _,Qh _,ρ1,w1,[],[],all,g1.up,aF,p1,.nil,h2,rfl⟩,?_⟩
   rintro i m ys H' ⟨rfl,mD,hys,eY,w3,zs,F,bh,g0,oR,p0,FT,e3,ez⟩
   have hsz:ys.length<sizeLine:=by omega
   refine⟨ZG hsz,?_⟩
   by_cases bY:i<ds.length
   ·refine .inr ⟨ok.go i H' w3 p0 bY,hsz,fun x H2 hy=>?_⟩
    obtain⟨mo,rx,p3⟩:=ok.pM i H' w3 x H2 ds[i] p0 g0.wl (Qb bY) hy
    obtain⟨g3,bj⟩:=g0.more mo
    have jT:=oR.trans bj
    have rz:=FT.gone g0.wl bj
    have ed:ds.drop i=ds[i]::ds.drop (i+1):=JU bY
    rw[ed]at e3
    unfold jS at e3
    split at e3
    ·cases e3
    next yZ h4=>
     split at e3
     ·cases e3
     next b fB h5=>
      have gx:=g3.ext k
      have FU:eY.length=σ.length:=g3.len
      refine⟨ds[i],_,w3,t+1,yZ,gx,rx,h4,fun p6 H4 w4 l4 s4 g4 ja=>?_⟩
      obtain⟨τ,rfl,Pl⟩:=Ph l4 s4
      refine⟨⟨τ,rfl,by rw[Pl,ZB]⟩,yZ,w4,t+1,b,fB,g4,h5,fun H5 w5 g5 gf=>?_⟩
      have p5:=ok.st _ _ _ _ (ok.st _ _ _ _ p3 g3.wl ja.bA) g4.wl gf.bA
      have z5:af K H5 w5 (.t t) (dq deep) zs ys F:=(rz.gone g3.wl ja).gone g4.wl gf
      cases b with
      | false=>
       rw[Qi (by decide)]at e3
       dsimp only
       rw[Qi (by decide)]
       obtain⟨gc,sg⟩:=g5.cut
       rw[FU]at e3
       refine⟨ds.length-(i+1),by omega,rfl,bY,by omega,_,_,zs,F,bh,gc,(jT.trans ja).trans (gf.trans sg),ok.st _ _ _ _ p5 g5.wl sg.bA,z5.gone g5.wl sg,e3,ez⟩
      | true=>
       rw[Qf rfl]at e3
       dsimp only
       rw[Qf rfl]
       split at e3
       ·cases e3
       next d6 q6 Pm h6=>
        split at e3
        ·cases e3
        next Pn=>
         split at e3
         ·cases e3
         next Po ρ7 h7=>
          cases e3
          refine⟨fB,w5,t+1,d6,q6,Pm,g5,h6,fun v H6 w6 F6 g6 vE r6=>?_⟩
          obtain⟨gs,⟨F',rs,Pp⟩,BQ,FV⟩:=Pj g6 r6 Pn
          obtain⟨gc,sg⟩:=gs.cut
          rw[FU]at h7
          have FW:=z5.gone g5.wl vE
          have zF:∀ a∈F,w6 a=some (.t t):=FW.aC
          have Pq:af K H6 (jC deep t w6) (.t t) (dq deep) zs ys F:=af.go g6.wl BQ FW fun a m=>⟨rfl,FV a _ (zF a m) (by intro z;cases z)⟩
          have Pr:Go H w H6 (jC deep t w6):=by
           have go:Go H w H6 w6:=(jT.trans ja).trans (gf.trans vE)
           refine⟨go.bA.trans BQ,fun a o h n=>⟨(go.keep a o h n).1,FV a o (go.keep a o h n).2 fun z=>?_⟩⟩
           subst z
           have:=g.wt a _ h
           omega
          refine⟨ds.length-(i+1),by omega,rfl,bY,by rw[Qm];simp;omega,_,_,zs++[d6],F++F',Po,gc,Pr.trans sg,ok.st _ _ _ _ (ok.st _ _ _ _ p5 g5.wl vE.bA |> fun q=>ok.st _ _ _ _ q g6.wl BQ) gs.wl sg.bA,
           ?_,h7,by rw[Zz];exact ez⟩
          refine(af.snoc rs Pq fun a m m'=>?_).gone gs.wl sg
          have h1:=zF a m
          rw[Pp a m']at h1
          cases h1
   ·have cT:i=ds.length:=J9 mD (Y3.mp bY)
    subst cT
    refine .inl ⟨ok.stop H' w3 p0,fun p hp=>?_⟩
    have ed:ds.drop ds.length=[]:=by simp
    rw[ed]at e3
    cases e3
    rw[ZQ]at ez
    subst ez
    obtain⟨a1,a2,a3⟩:=Pk g0 hp FT
    refine kk _ _ _ (p::F) a1 (oR.trans a2) ?_
    cases deep<;>exact a3
  ·cases ee
 ·cases ee
section
variable {X:Cx}{k:Nat}{N':List Str}{scope:Scope}{elt tg iter:Expr}{ifs:List Expr}{pos:Pos}{it:jB}{pt:eV}{tt:cF}{te:aB}
abbrev Pt (X:Cx)(ifs:List Expr)(f:cF):Prop:=t5 X ifs (rY X.K f)
structure oT (X:Cx) (e:List Expr) (f:cF):Prop where mk::o:Pt X e f
def k9:oT X [] dI:=⟨fun pins s σ H Q I ah=>by
 obtain⟨ρ,w,t,b,ρ',gd,ee,k⟩:=ah
 cases ee
 exact Oi pins s σ H Q I (k H w gd Go.refl)⟩
def ub{c:Expr}{g:cF}(h:f_ X c g):oT X [c] g:=⟨have h:=h.o;Oj h⟩
def jU(deep:Bool)(hc:X.calm=true)(S:cf X k N' scope)(hi:se X tg iter it)(hg:∀ C s H fp,qh (gq X N' scope C s H fp) X.N.length tg pt)(ht:∀ C s H fp,oT (gq X N' scope C s H fp) ifs tt)(he:∀ C s H fp,QD (gq X N' scope C s H fp) elt te)(hs:∀ x,foldedSetIterable iter X.env x=pure x:=by intro _;rfl):QD X (.ListComp elt [⟨tg,iter,ifs,0⟩] scope pos) (dU k it pt tt te deep):=⟨have hi:=hi.o;have hg:=fun C s H fp=>(hg C s H fp).o;have ht:=fun C s H fp=>(ht C s H fp).o;have he:=fun C s H fp=>(he C s H fp).o;by
 intro pins s σ H Q I h
 have:=FR σ H Q h
 rw[I.len]at this
 exact OA (N':=N') hc S hi hg ht he hs pins s σ H Q I this⟩
def y6{y:Str}{py iZ:Pos}(deep:Bool)(hN:X.N.Nodup)(hy:X.N[i]? = some y)(hx:Loc X.env.scope y)(rS:swapsWith (.ListComp elt [⟨tg,iter,ifs,0⟩] scope pos) (some (.Name y py)) iZ.line X.env=pure true)(hc:X.calm=true)(S:cf X k N' scope)(hi:se X tg iter it)(hg:∀ C s H fp,qh (gq X N' scope C s H fp) X.N.length tg pt)(ht:∀ C s H fp,oT (gq X N' scope C s H fp) ifs tt)(he:∀ C s H fp,QD (gq X N' scope C s H fp) elt te)(hs:∀ x,foldedSetIterable iter X.env x=pure x:=by intro _;rfl)(hf:X.fn y=true\/X.env.scope.names.lookup y=some .local:=by first|exact .inl rfl|exact .inr rfl|assumption):jA X (.Assign [.Name y py] (.ListComp elt [⟨tg,iter,ifs,0⟩] scope pos) iZ) (ba i (dU k it pt tt te deep)):=⟨have hi:=hi.o;have hg:=fun C s H fp=>(hg C s H fp).o;have ht:=fun C s H fp=>(ht C s H fp).o;have he:=fun C s H fp=>(he C s H fp).o;by
 intro pins s σ H D I h
 have hl:i<σ.length:=by rw[I.len];exact(Qq.mp hy).1
 refine OB (N':=N') (te:=tD X.K te) (tt:=rY X.K tt) (g:=yY X.K X.N.length pt) (wi:=yW X.K it) hN hy hx rS hc S hi hg ht he hs hf pins s σ H D I ?_
 have z:=FN (te:=yA k (yW X.K it) (yY X.K σ.length pt) (rY X.K tt) (tD X.K te)) hl (fun Q q=>FR σ H Q q) h
 rw[I.len]at z
 exact z⟩
end
mutual
def ck:D->PyData
 | .aK=>.none
 | .bl b=>.bool b
 | .int i=>.int i
 | .str x=>.str x
 | .tup ds=>.tuple (cZ ds)
 | .lst ds=>.list (cZ ds)
 | .gr _ _=>.none
 | .exc _=>.none
 | .ob _ _ _ _=>.none
 | .mp _ _=>.none
def cZ:List D->List PyData
 | []=>[]
 | d::ds=>ck d::cZ ds
end
mutual
def gO:D->Bool
 | .gr _ _=>false
 | .exc _=>false
 | .ob _ _ _ _=>false
 | .mp _ _=>false
 | .tup ds=>kn ds
 | .lst ds=>kn ds
 | _=>true
def kn:List D->Bool
 | []=>true
 | d::ds=>gO d&&kn ds
end
def dH (d:D):Bool:=gO d&&SeqAt.shaped (ck d)
def ko{d:D}(h:dH d=true):gO d=true:=(QX.mp h).1
def kq{d:D}(h:dH d=true):SeqAt.shaped (ck d)=true:=(QX.mp h).2
def gy (d e:D):Bool:=PyData.eqv (ck d) (ck e)
section
variable {X:Cx}{pins:List (Addr×Obj)}{σ:St}{H:Hp}{s:Shared}
def Rep.reads(I:Inv X pins σ H s){w:Wn}{o:Ow}:∀ {q:Nat} {d:D} {v:V} {F:List Addr} {u:Value},Rep X.K H w o q d v F->bC v u->gO d=true->∃ as,Reads s.heap u (ck d) as:=by
 intro q d v F u r
 refine(Rep.rec (motive_1:=fun q d v F _=>∀ u,bC v u->gO d=true->∃ as,Reads s.heap u (ck d) as) (motive_2:=fun q ds vs F _=>∀ us,bq vs us->kn ds=true->∃ as,ReadsAll s.heap us (cZ ds) as) ?_ ?_ ?_ ?_ ?_ ?_ ?_ ?_ ?_ ?_ ?_ ?_ ?_ ?_ ?_ r:∀ u,bC v u->gO d=true->∃ as,Reads s.heap u (ck d) as) u
 ·intro q u ru hn;cases ru;exact⟨_,by unfold ck;exact .none⟩
 ·intro q b u ru hn;cases ru;exact⟨_,by unfold ck;exact .bool b⟩
 ·intro q i u ru hn;obtain⟨t,rfl⟩:=ru;exact⟨_,by unfold ck;exact .int i t⟩
 ·intro q x u ru hn;obtain⟨t,rfl⟩:=ru;exact⟨_,by unfold ck;exact .str x t⟩
 ·intro q a vs ds h r ih u ru hn
  cases ru
  obtain⟨aq,rv,p,hz⟩:=I.tuple (du.of h)
  obtain⟨as,ra⟩:=ih aq rv (by unfold gO at hn;exact hn)
  obtain⟨ob,ho,hc,n,hd⟩:=p
  exact⟨_,by unfold ck;exact .tuple ho hc hd ra⟩
 ·intro q a ks vs ds h e r ih u ru hn;cases hn
 ·intro q a nm ob v h x n u ru hn;cases hn
 ·intro q f c fo oc u1 u2 vs ds h1 h2 x r ih u ru hn;cases hn
 ·intro a vs ds h r ih u ru hn
  cases ru
  obtain⟨aq,rv,p,hz⟩:=I.list h.sq
  obtain⟨as,ra⟩:=ih aq rv (by unfold gO at hn;exact hn)
  obtain⟨ob,ho,hc,n,hd⟩:=p.isList
  exact⟨_,by unfold ck;exact .list ho hc hd ra⟩
 ·intro a vs ds h n0 r ih u ru hn
  cases ru
  obtain⟨aq,rv,p,hz⟩:=I.list (.inl h)
  obtain⟨as,ra⟩:=ih aq rv (by unfold gO at hn;exact hn)
  obtain⟨ob,ho,hc,n,hd⟩:=p.isList
  exact⟨_,by unfold ck;exact .list ho hc hd ra⟩
 ·intro q a vs ds F h e r ne ih u ru hn
  cases ru
  obtain⟨aq,rv,p,hz⟩:=I.list (cE.of h)
  obtain⟨as,ra⟩:=ih aq rv (by unfold gO at hn;exact hn)
  obtain⟨ob,ho,hc,n,hd⟩:=p.isList
  exact⟨_,by unfold ck;exact .list ho hc hd ra⟩
 ·intro a vs ds k x h i e l r ih u ru hn;cases hn
 ·intro q a vs ds k x h i e l r ih u ru hn;cases hn
 ·intro q us ru hn;cases ru;exact⟨_,by unfold cZ;exact .nil⟩
 ·intro q d v ds vs F G r s' ne kX kY us ru hn
  cases ru with
  | cons rv Pu=>
   unfold kn at hn
   obtain⟨as,ra⟩:=kX _ rv (QX.mp hn).1
   obtain⟨bs,rb⟩:=kY _ Pu (QX.mp hn).2
   exact⟨_,by unfold cZ;exact .cons ra rb⟩
end
def Is (K:PySem.W.Frag)(H:Hp)(d:D)(v:V):Prop:=∃ w o q F,Rep K H w o q d v F
def FX (K:PySem.W.Frag):R2:=fun x y H Q=>∃ d e,Is K H d x/\Is K H e y/\dH d=true/\dH e=true/\Q (.bl (gy d e)) H
def FY (K:PySem.W.Frag):R2:=fun x y H Q=>∃ d e,Is K H d x/\Is K H e y/\dH d=true/\dH e=true/\Q (.bl (!gy d e)) H
def inD (d:D):D->Option Bool
 | .lst ds=>some ((cZ ds).any fun y=>PyData.eqv y (ck d))
 | .tup ds=>some ((cZ ds).any fun y=>PyData.eqv y (ck d))
 | _=>none
def vF (K:PySem.W.Frag)(neg:Bool):R2:=fun x y H Q=>∃ d e b,Is K H d x/\Is K H e y/\dH d=true/\dH e=true/\inD d e=some b/\Q (.bl (if neg then !b else b)) H
section
variable {X:Cx}{a b c e:Expr}{fa fb fc f:aB}{pos:Pos}
def FZ(hu:X.A.units+64<cLine):dC X (compareOp .Eq) (FX X.K):=by
 intro pins s σ H x y v u Q I rx ry ⟨d,e,⟨w,o,q,F,h1⟩,⟨w',o',q',F',h2⟩,k1,k2,hq⟩
 obtain⟨as,ra⟩:=h1.reads I rx (ko k1)
 obtain⟨bs,rb⟩:=h2.reads I ry (ko k2)
 exact eq_dataH ra rb (kq k1) (kq k2) hu ⟨.bl _,H,I,rfl,hq⟩
def Pw(hu:X.A.units+64<cLine):dC X (compareOp .NotEq) (FY X.K):=by
 intro pins s σ H x y v u Q I rx ry ⟨d,e,⟨w,o,q,F,h1⟩,⟨w',o',q',F',h2⟩,k1,k2,hq⟩
 obtain⟨as,ra⟩:=h1.reads I rx (ko k1)
 obtain⟨bs,rb⟩:=h2.reads I ry (ko k2)
 exact ne_dataH ra rb (kq k1) (kq k2) hu ⟨.bl _,H,I,rfl,hq⟩
def Px(hu:X.A.units+65<cLine):dC X (compareOp .In) (vF X.K false):=by
 intro pins s σ H x y v u Q I rx ry ⟨d,e,b,⟨w,o,q,F,h1⟩,⟨w',o',q',F',h2⟩,k1,k2,hb,hq⟩
 obtain⟨as,ra⟩:=h1.reads I rx (ko k1)
 obtain⟨bs,rb⟩:=h2.reads I ry (ko k2)
 replace k1:=kq k1
 replace k2:=kq k2
 cases e with
 | lst ds=>
  cases hb
  unfold ck at rb k2
  exact SeqAt.in_list_reads rb ra (QT k2) (QT k1) (Ju k1 hu) ⟨.bl _,H,I,rfl,hq⟩
 | tup ds=>
  cases hb
  unfold ck at rb k2
  exact SeqAt.in_tuple_reads rb ra (QT k2) (QT k1) (Ju k1 hu) ⟨.bl _,H,I,rfl,hq⟩
 | _=>cases hb
def BR(hu:X.A.units+65<cLine):dC X (compareOp .NotIn) (vF X.K true):=by
 intro pins s σ H x y v u Q I rx ry ⟨d,e,b,⟨w,o,q,F,h1⟩,⟨w',o',q',F',h2⟩,k1,k2,hb,hq⟩
 obtain⟨as,ra⟩:=h1.reads I rx (ko k1)
 obtain⟨bs,rb⟩:=h2.reads I ry (ko k2)
 replace k1:=kq k1
 replace k2:=kq k2
 cases e with
 | lst ds=>
  cases hb
  unfold ck at rb k2
  exact SeqAt.notIn_list_reads rb ra (QT k2) (QT k1) (Ju k1 hu) ⟨.bl _,H,I,rfl,hq⟩
 | tup ds=>
  cases hb
  unfold ck at rb k2
  exact SeqAt.notIn_tuple_reads rb ra (QT k2) (QT k1) (Ju k1 hu) ⟨.bl _,H,I,rfl,hq⟩
 | _=>cases hb
def cG (x y:D):Option D:=if dH x=true/\dH y=true then some (.bl (gy x y))else none
def fC (x y:D):Option D:=if dH x=true/\dH y=true then some (.bl (!gy x y))else none
def qk (x y:D):Option D:=if dH x=true/\dH y=true then(inD x y).map fun b=>.bl b else none
def fM (x y:D):Option D:=if dH x=true/\dH y=true then(inD x y).map fun b=>.bl (!b)else none
def F4:∀ σ H Q,tD K (e2 cG fa fb) σ H Q->iO (FX K) (tD K fa) (tD K fb) σ H Q:=p_ fun x y d h=>by
 unfold cG at h
 split at h
 next hk=>
  cases h
  exact⟨_,rfl,fun H w o o' q q' u u' F F' r1 r2 _ Q hq=>⟨x,y,⟨_,_,_,_,r1⟩,⟨_,_,_,_,r2⟩,hk.1,hk.2,hq⟩⟩
 ·cases h
def Py:∀ σ H Q,tD K (e2 fC fa fb) σ H Q->iO (FY K) (tD K fa) (tD K fb) σ H Q:=p_ fun x y d h=>by
 unfold fC at h
 split at h
 next hk=>
  cases h
  exact⟨_,rfl,fun H w o o' q q' u u' F F' r1 r2 _ Q hq=>⟨x,y,⟨_,_,_,_,r1⟩,⟨_,_,_,_,r2⟩,hk.1,hk.2,hq⟩⟩
 ·cases h
def hIn:∀ σ H Q,tD K (e2 qk fa fb) σ H Q->iO (vF K false) (tD K fa) (tD K fb) σ H Q:=p_ fun x y d h=>by
 unfold qk at h
 split at h
 next hk=>
  cases hi:inD x y with
  | none=>rw[hi]at h;cases h
  | some b=>
   rw[hi]at h
   cases h
   exact⟨_,rfl,fun H w o o' q q' u u' F F' r1 r2 _ Q hq=>⟨x,y,b,⟨_,_,_,_,r1⟩,⟨_,_,_,_,r2⟩,hk.1,hk.2,hi,hq⟩⟩
 ·cases h
def F5:∀ σ H Q,tD K (e2 fM fa fb) σ H Q->iO (vF K true) (tD K fa) (tD K fb) σ H Q:=p_ fun x y d h=>by
 unfold fM at h
 split at h
 next hk=>
  cases hi:inD x y with
  | none=>rw[hi]at h;cases h
  | some b=>
   rw[hi]at h
   cases h
   exact⟨_,rfl,fun H w o o' q q' u u' F F' r1 r2 _ Q hq=>⟨x,y,b,⟨_,_,_,_,r1⟩,⟨_,_,_,_,r2⟩,hk.1,hk.2,hi,hq⟩⟩
 ·cases h
def Pz{k:Nat}(hr:aS k X.A)(ha:QD X a fa)(hb:QD X b fb):QD X (.Compare a [.Eq] [b] pos) (e2 cG fa fb):=⟨have ha:=ha.o;have hb:=hb.o;BM (FZ hr.units) F4 ha hb (pQ _)⟩
def lR{k:Nat}(hr:aS k X.A)(ha:QD X a fa)(hb:QD X b fb):f_ X (.Compare a [.Eq] [b] pos) (a_ (e2 cG fa fb)):=⟨have ha:=ha.o;have hb:=hb.o;qe (FZ hr.units) F4 ha hb (pQ _)⟩
def qo{k:Nat}(hr:aS k X.A)(ha:QD X a fa)(hb:QD X b fb):f_ X (.Compare a [.NotEq] [b] pos) (a_ (e2 fC fa fb)):=⟨have ha:=ha.o;have hb:=hb.o;qe (Pw hr.units) Py ha hb (pQ _)⟩
def sh{k:Nat}(r:aS k A):A.units+65<cLine:=by have:=r.un;omega
def F7{k:Nat}(hr:aS k X.A)(ha:QD X a fa)(hb:QD X b fb)(hm:behindInMarks .In b=false:=by with_unfolding_all rfl):f_ X (.Compare a [.In] [b] pos) (a_ (e2 qk fa fb)):=⟨have ha:=ha.o;have hb:=hb.o;qe (Px (sh hr)) hIn ha hb hm⟩
def y7{k:Nat}(hr:aS k X.A)(ha:QD X a fa)(hb:QD X b fb)(hm:behindInMarks .NotIn b=false:=by with_unfolding_all rfl):f_ X (.Compare a [.NotIn] [b] pos) (a_ (e2 fM fa fb)):=⟨have ha:=ha.o;have hb:=hb.o;qe (BR (sh hr)) F5 ha hb hm⟩
end
@[simp] def eB (h:List D->Option D)(g:b_):aB:=fun ρ=>match g ρ with
 | some (ds,ρ1)=>match h ds with
  | some d=>some (d,9,ρ1)
  | none=>none
 | none=>none
section
variable {X:Cx}{a b c e:Expr}{es:List Expr}{fa fb fc f:aB}{g:b_}{pos p p1 p2:Pos}
def F8{h:List D->Option D}{r:List V->Hp->VK->Prop}(hh:∀ ds d,h ds=some d->∃ v,k4 d=some v/\∀ H w vs,WL K w H->af K H w .f 0 ds vs []->∀ Q:VK,Q v H->r vs H Q) :
  ∀ σ H Q,tD K (eB h g) σ H Q->ym r (BI K g) σ H Q:=fun σ H Q ah=>by
 obtain⟨ρ,w,t,r',q,ρ',gd,ee,k⟩:=ah
 unfold eB at ee
 split at ee
 next ds ρ1 h1=>
  split at ee
  next d hd=>
   cases ee
   obtain⟨v,hv,hr⟩:=hh ds _ hd
   exact⟨ρ,w,t,ds,_,gd,h1,fun vs H1 w1 g1 aF r1=>hr H1 w1 vs g1.wl r1 Q (k v H1 w1 [] g1.up aF (yP hv))⟩
  ·cases ee
 ·cases ee
def one{w:Wn}{o:Ow}{d:D}(r:af K H w o 0 [d] vs []):∃ v,vs=[v]/\Rep K H w o 0 d v []:=by
 have l:=r.length
 match vs,l with
 | [v],_=>
  obtain⟨v',h1,h2⟩:=r.get (i:=0) rfl
  cases h1
  exact⟨v,rfl,h2⟩
def two{w:Wn}{o:Ow}{d d':D}(r:af K H w o 0 [d,d'] vs []):∃ v v',vs=[v,v']/\Rep K H w o 0 d v []/\Rep K H w o 0 d' v' []:=by
 have l:=r.length
 match vs,l with
 | [v,v'],_=>
  obtain⟨u,h1,h2⟩:=r.get (i:=0) rfl
  obtain⟨u',h3,h4⟩:=r.get (i:=1) rfl
  cases h1
  cases h3
  exact⟨v,v',rfl,h2,h4⟩
def fN:D->Option Nat
 | .lst ds=>some ds.length
 | .tup ds=>some ds.length
 | _=>none
@[simp] def iB:List D->Option D
 | [d]=>(fN d).map fun n=>.int (Int.ofNat n)
 | _=>none
def Rep.len{w:Wn}{o:Ow}{q:Nat}{d:D}(r:Rep K H w o q d v F)(h:fN d=some n):∃ p ys,v=.ref p/\(cE K H p ys\/du K H p ys)/\ys.length=n:=by
 cases d with
 | lst ds=>
  cases h
  obtain⟨p,vs,q',G,rfl,hq,rs⟩:=r.oN
  exact⟨p,vs,rfl,.inl hq,rs.length.symm⟩
 | tup ds=>
  cases h
  obtain⟨p,vs,rfl,hq,rs⟩:=r.gZ
  exact⟨p,vs,rfl,.inr hq,rs.length.symm⟩
 | _=>cases h
def vG(hm:X.mg "len" = none)(ha:f9 X [a] g)(hg:Gl X "len":=by rfl)(he:starEach [a] X.env=(false,eval a X.env)::starEach [] X.env:=by rfl)(cu:(backTo pos (starEach [] X.env)).any (·.1)=false:=by rfl):QD X (.Call (.Name "len" p) [a] [] pos) (eB iB g):=⟨have ha:=ha.o;PE.imp (oz AX hg hm VY ha (by decide) (by decide) he cu) (F8 fun ds d h=>by
  match ds,h with
  | [d0],h=>
   cases hl:fN d0 with
   | none=>simp only[iB,hl,Option.map_none]at h;cases h
   | some n=>
    simp only[iB,hl,JE,Option.some.injEq]at h
    subst h
    refine⟨_,rfl,fun H w vs wl r Q hq=>?_⟩
    obtain⟨v,rfl,rv⟩:=one r
    obtain⟨p,ys,rfl,hs,hn⟩:=rv.len hl
    exact⟨p,ys,rfl,hs,by rw[hn];exact hq⟩)⟩
@[simp] def bL (i:Nat):aB:=fun ρ=>match ρ[i]? with
 | some (some (d,_))=>match fN d with
  | some n=>some (.int (Int.ofNat n),9,ρ)
  | none=>none
 | _=>none
def d9{x:Str}(hm:X.mg "len" = none)(h:QE X (.Name x p1) (eR i))(hg:Gl X "len":=by rfl)(he:starEach [.Name x p1] X.env=(false,eval (.Name x p1) X.env)::starEach [] X.env:=by rfl)(cu:(backTo pos (starEach [] X.env)).any (·.1)=false:=by rfl):QD X (.Call (.Name "len" p) [.Name x p1] [] pos) (bL i):=⟨have h:=h.o;PE.imp (oz AX hg hm VY (gp h jO he) (by decide) (by decide) he cu) fun σ H Q ah=>by
 obtain⟨ρ,w,t,r',q,ρ',gd,ee,k⟩:=ah
 unfold bL at ee
 split at ee
 next d q0 e0=>
  split at ee
  next n hn=>
   cases ee
   obtain⟨v,F,h1,h2⟩:=gd.slot i d q0 e0
   obtain⟨p,ys,rfl,hs,hl⟩:=h2.len hn
   exact⟨_,h1,p,ys,rfl,hs,by rw[hl];exact k _ H w [] gd.up Go.refl (.int _)⟩
  ·cases ee
 ·cases ee⟩
@[simp] def y8:List D->Option D
 | [.int i,.int j]=>some (.int (if j > i then j else i))
 | _=>none
def F9(hc:X.calm=true)(hm:X.mg "max" = none)(hb:bootBuiltins "max" = some (.builtin "max"))(ha:f9 X (a::es) g)(hg:Gl X "max":=by rfl)(he:starEach (a::es) X.env=(false,eval a X.env)::starEach es X.env:=by rfl)(cu:(backTo pos (starEach es X.env)).any (·.1)=false:=by rfl):QD X (.Call (.Name "max" p) (a::es) [] pos) (eB y8 g):=⟨have ha:=ha.o;PE.imp (oz (M3 hc) hg hm hb ha (by decide) (by decide) he cu) (F8 fun ds d h=>by
  unfold y8 at h
  split at h
  next i j=>
   cases h
   refine⟨_,rfl,fun H w vs wl r Q hq=>?_⟩
   obtain⟨v,v',rfl,r1,r2⟩:=two r
   exact⟨i,j,by rw[d7 r1,d7 r2],hq⟩
  ·cases h)⟩
@[simp] def qp (g:b_):aB:=fun ρ=>match g ρ with
 | some ([.lst ds],ρ1)=>some (.lst ds,1,ρ1)
 | some ([.tup ds],ρ1)=>some (.lst ds,1,ρ1)
 | _=>none
def F_(hm:X.mg "list" = none)(hb:bootBuiltins "list" = some (.type "list"))(ha:f9 X [a] g)(hg:Gl X "list":=by rfl)(he:starEach [a] X.env=(false,eval a X.env)::starEach [] X.env:=by rfl)(cu:(backTo pos (starEach [] X.env)).any (·.1)=false:=by rfl):QD X (.Call (.Name "list" p) [a] [] pos) (qp g):=⟨have ha:=ha.o;PE.imp (tV Nq hg hm hb ha (by decide) (by decide) he cu) fun σ H Q ah=>by
 obtain⟨ρ,w,t,r',q,ρ',gd,ee,k⟩:=ah
 unfold qp at ee
 split at ee
 next ds ρ1 h1=>
  cases ee
  refine⟨ρ,w,t,_,_,gd,h1,fun vs H1 w1 g1 aF r1=>?_⟩
  obtain⟨v,rfl,rv⟩:=one r1
  obtain⟨p,ys,rfl,hs,rs⟩:=rv.ip
  refine⟨p,ys,rfl,.inl hs,fun l hl=>?_⟩
  obtain⟨a1,a2,a3⟩:=oJ g1 hl rs
  exact k _ _ _ _ a1 (aF.trans a2) a3
 next ds ρ1 h1=>
  cases ee
  refine⟨ρ,w,t,_,_,gd,h1,fun vs H1 w1 g1 aF r1=>?_⟩
  obtain⟨v,rfl,rv⟩:=one r1
  obtain⟨p,ys,rfl,hs,rs⟩:=rv.gZ
  refine⟨p,ys,rfl,.inr hs,fun l hl=>?_⟩
  obtain⟨a1,a2,a3⟩:=oJ g1 hl rs
  exact k _ _ _ _ a1 (aF.trans a2) a3
 ·cases ee⟩
@[simp] def kr (g:b_):aB:=fun ρ=>match g ρ with
 | some ([.lst ds],ρ1)=>some (.tup ds,9,ρ1)
 | some ([.tup ds],ρ1)=>some (.tup ds,9,ρ1)
 | _=>none
def si(hm:X.mg "tuple" = none)(hb:bootBuiltins "tuple" = some (.type "tuple"))(ha:f9 X [a] g)(hg:Gl X "tuple":=by rfl)(he:starEach [a] X.env=(false,eval a X.env)::starEach [] X.env:=by rfl)(cu:(backTo pos (starEach [] X.env)).any (·.1)=false:=by rfl):QD X (.Call (.Name "tuple" p) [a] [] pos) (kr g):=⟨have ha:=ha.o;PE.imp (tV Nr hg hm hb ha (by decide) (by decide) he cu) fun σ H Q ah=>by
 obtain⟨ρ,w,t,r',q,ρ',gd,ee,k⟩:=ah
 unfold kr at ee
 split at ee
 next ds ρ1 h1=>
  cases ee
  refine⟨ρ,w,t,_,_,gd,h1,fun vs H1 w1 g1 aF r1=>?_⟩
  obtain⟨v,rfl,rv⟩:=one r1
  obtain⟨p,ys,rfl,hs,rs⟩:=rv.ip
  refine⟨p,ys,rfl,.inl ⟨hs,fun l hl=>?_⟩⟩
  obtain⟨a1,a2,a3⟩:=yN g1 hl rs
  exact k _ _ _ _ a1 (aF.trans a2) a3
 next ds ρ1 h1=>
  cases ee
  refine⟨ρ,w,t,_,_,gd,h1,fun vs H1 w1 g1 aF r1=>?_⟩
  obtain⟨v,rfl,rv⟩:=one r1
  have rr:=rv
  obtain⟨p,ys,rfl,hs,rs⟩:=rv.gZ
  refine⟨p,ys,rfl,.inr ⟨hs,?_⟩⟩
  exact k _ H1 w1 [] g1.up aF (((rr.fx rfl).2 9).any g1.wl)
 ·cases ee⟩
def Ga (ta:TA):TE:=fun σ H Q=>ta σ H fun vs H1=>∃ j:Int,vs=[.int j] /\ -(2 ^ 62)<=j/\j<2 ^ 62/\∀ p,H1 p=none->Q (.ref p) (upd H1 p (.lL 0 j))
def Gb{ta:TA}(hg:Gl X "range")(hm:X.mg "range" = none)(ha:PA X [a] ta)(hs:starEach [a] X.env=[(false,eval a X.env)]:=by rfl):PE X (.Call (.Name "range" p) [a] [] pos) (Ga ta):=by
 intro pins s σ H Q I h
 refine Call_ (tS I hg hm boot_range (Z7 (aV (ha pos pins s σ H _ I h) fun us s1 ⟨vs,H1,I1,r1,q1⟩=>?_) hs rfl))
 obtain⟨j,e,q1,q2,q⟩:=q1
 subst e
 cases r1 with
 | cons r rr=>
  cases rr
  obtain⟨t,rfl⟩:=r
  refine call_range_1 ?_
  exact⟨.ref s1.heap.objs.size,upd H1 s1.heap.objs.size (.lL 0 j),I1.laid (fun b u e=>Qe _ e) (Qh _) ⟨_,_,_,Qv _ rfl⟩,rfl,q _ (I1.az.fresh (Qh _))⟩
end
def Gc{j:Int}(h1:-(2 ^ 62)<=j)(h2:j<2 ^ 62):Builtin.Range.small 0 j 1=true:=by
 have hs:Builtin.Range.rangeSize 0 j 1=((j.toNat:Nat):Int):=by
  simp[Builtin.Range.rangeSize]<;>split<;>omega
 simp only[Builtin.Range.small,hs,Builtin.Range.rangeFitsLong]
 simp
 omega
def Gd(j:Int):Builtin.Range.rangeSize 0 j 1=((j.toNat:Nat):Int):=by
 simp[Builtin.Range.rangeSize]<;>split<;>omega
def Ge{acc:Array Value}(h:ItemsOf (fun i v=>∃ t,v=Value.int (0+(i:Nat)*1) t) acc n):bq (qg n) acc.toList:=by
 have key:∀ (us:List Value) (k:Nat),(∀ j v,us[j]? = some v->∃ t,v=Value.int (((k+j:Nat)):Int) t)->bq ((List.range' k us.length).map fun i=>V.int (Int.ofNat i)) us:=by
  intro us
  induction us with
  | nil=>intro k _;exact .nil
  | cons u r ih=>
   intro k hk
   obtain⟨t,e⟩:=hk 0 u rfl
   refine .cons ⟨t,by rw[e];rfl⟩ (ih (k+1) fun j v hv=>?_)
   obtain⟨t',e'⟩:=hk (j+1) v (by simpa using hv)
   exact⟨t',by rw[e'];congr 2;omega⟩
 have:=key acc.toList 0 fun j v hv=>by
  obtain⟨t,e⟩:=h.2 j v (by simpa using hv)
  exact⟨t,by rw[e];congr 1;omega⟩
 have hl:acc.toList.length=n:=by simpa using h.1
 rw[hl]at this
 unfold qg
 rw[YC]
 exact this
section
variable {prog:Program}{w:World}{A:Around}{E:Value->Shared->Prop}{s:Shared}
open AutoSeq1 (wpAny_loadPart')
theorem PB{Q:List Value->Shared->Prop}{r:Addr}{a:Int}{t v:Tok}(hh:A.handled=none)(hr:IsRange s.heap r a b c t u v)(gz:Builtin.Range.small a b c=true)(hn:Builtin.Range.rangeSize a b c=n)(hlen:n<=2 ^ 24)
  (hQ:∀ h' tk br,(∀ b o',s.heap.get? b=some o'->h'.get? b=some o')->ItemsOf (fun i v=>∃ t,v=.int (a+i*c) t) br n->Q br.toList { s with heap:=h',toks:=tk }) :
  wpAny (model prog w) A (collect (.ref r)) Q E s:=by
 unfold collect
 refine Qa (wpAny_runValue (Z4 F.entry_proto_collect ?_))
 rw[Jk F.plain_proto_collect _]
 show wpAny _ A.in1 (newList [] >>= fun l=>again (.builtin "list.__iadd__" ⟨[l,.ref r],[]⟩)) _ _ s
 refine Qa (Zo ?_)
 refine Qd ⟨plainId_quiet F.plain_list_iadd _,Z4 F.entry_list_iadd ?_⟩
 rw[Jk F.plain_list_iadd _]
 show wpAny _ A.in1 (Builtin.List.listExtendWith (.ref s.heap.objs.size) (.ref r) (.ref s.heap.objs.size)) _ _ _
 have hS:(s.heap.push { cls:=.type "list",data:=.seq ([]:List Value).toArray }).get? s.heap.objs.size=some { cls:=.type "list",data:=.seq #[] 0 }:=Qv _ rfl
 have vH:∀ (h':Heap) (tk:Nat) (br:Array Value) (c':Nat),(∀ b o,b≠s.heap.objs.size->(s.heap.push { cls:=.type "list",data:=.seq ([]:List Value).toArray }).get? b=some o->h'.get? b=some o)->
   h'.get? s.heap.objs.size=some { cls:=.type "list",dict:=none,data:=.seq br c',slots:=#[] }->ItemsOf (fun i v=>∃ t,v=.int (a+i*c) t) br n->wpAny (model prog w) A (match Value.ref s.heap.objs.size with
   | Value.ref a=>do
    match (<- load a).data with
     | Data.seq xs _=>pure xs.toList
     | _=>unsupported "internal:collect"
   | _=>unsupported "internal:collect") Q E { s with heap:=h',toks:=tk }:=fun h' tk br c' hk oU cN=>by
  show wpAny _ A (load s.heap.objs.size >>= _) _ _ _
  refine Qa (wpAny_load oU ?_)
  refine Qd (hQ h' tk br (fun b o' hb=>?_) cN)
  exact hk b o' (QM (Qo hb)) (Qe _ hb)
 refine Zs (wpAny_extend_range (A:=A) (R:=fun rs s'=>rs=.ok (.ret (.ref s.heap.objs.size))/\∃ h' tk br c',s'={ s with heap:=h',toks:=tk }/\(∀ b o,b≠s.heap.objs.size->(s.heap.push { cls:=.type "list",data:=.seq ([]:List Value).toArray }).get? b=some o->h'.get? b=some o) /\
   h'.get? s.heap.objs.size=some { cls:=.type "list",dict:=none,data:=.seq br c',slots:=#[] }/\ItemsOf (fun i v=>∃ t,v=.int (a+i*c) t) br n)
  (s:={ s with heap:=s.heap.push { cls:=.type "list",data:=.seq ([]:List Value).toArray } }) hh (Qe _ hr) gz hn hlen s.heap.objs.size (.ref s.heap.objs.size) 0 hS (fun h' tk br c' hk oU cN=>⟨rfl,h',tk,br,c',rfl,hk,oU,cN⟩)) (fun fin s' h=>?_) (fun e s' h=>?_)
 ·cases fin with
  | done f=>
   obtain⟨e,h',tk,br,c',rfl,hk,oU,cN⟩:=h
   cases e
   exact vH h' tk br c' hk oU cN
  | again c'=>exact⟨h.1,JP h.2 fun r pS hr=>by
    obtain⟨rfl,h',tk,br,c',rfl,hk,oU,cN⟩:=hr
    exact vH h' tk br c' hk oU cN⟩
 ·exact absurd h.1 (by simp)
end
def PF(r:Addr)(a b c:Int)(t u v:Tok)(n:Nat)(gz:Builtin.Range.small a b c=true)(hn:Builtin.Range.rangeSize a b c=n)(hlen:n<=2 ^ 24) :
  Meets (Builtin.«tuple.__new__» ⟨[.type "tuple",.ref r],[]⟩)
   (fun A R s=>A.handled=none/\IsRange s.heap r a b c t u v/\∀ (h':Heap) tk br,(∀ b o',s.heap.get? b=some o'->h'.get? b=some o')->ItemsOf (fun i v=>∃ t,v=.int (a+i*c) t) br n->R (.ok (.ret (.ref h'.objs.size))) { s with heap:=h'.push { cls:=.type "tuple",data:=.seq br },toks:=tk }):=
 .of_wp fun prog w A R s h=>by
  obtain⟨hp,g,d,tk,os⟩:=s;obtain⟨hh,hr,h⟩:=h
  have cz:=sub_tuple_self
  have Gf:=init_tuple_lookup
  have hmh:=madeHere_tuple
  have hT:Shared.TypeIs ⟨hp,g,d,tk,os⟩ (.ref r) "range":=⟨_,hr,rfl⟩
  have BS:A.in1.handled=none:=hh
  wp_walk using AutoSeq1.wpAny_loadPart' hr,VG hT,PB BS hr gz hn hlen
  intro h' BU br hk cN
  show wpAny _ _ (Builtin.Tuple.tupleExact br.toList.toArray >>= fun v=>ret v) _ _ _
  unfold Builtin.Tuple.tupleExact
  have hsz:br.size<=sizeLine:=by rw[cN.1];exact hlen
  refine Qa (Zo ?_ (by show br.toList.toArray.size<=sizeLine;simpa using hsz))
  refine Qd ⟨_,rfl,?_⟩
  have e:br.toList.toArray=br:=by simp
  rw[e]
  exact h h' BU br hk cN
theorem PH{prog:Program}{w:World}{E:Value->Shared->Prop}{s:Shared}{r:Addr}{a:Int}{t v:Tok}{Q:Value->Shared->Prop}(hh:A.handled=none)(hr:IsRange s.heap r a b c t u v)(gz:Builtin.Range.small a b c=true)(hn:Builtin.Range.rangeSize a b c=n)(hlen:n<=2 ^ 24)
  (h:∀ (h':Heap) tk br,(∀ b o',s.heap.get? b=some o'->h'.get? b=some o')->ItemsOf (fun i v=>∃ t,v=.int (a+i*c) t) br n->Q (.ref h'.objs.size) { s with heap:=h'.push { cls:=.type "tuple",data:=.seq br },toks:=tk }) :
  wpAny (model prog w) A (call (.type "tuple") [.ref r]) Q E s:=
 callType_new F.called_tuple (by decide) (F.typeCall_tuple_1 _) (F.newCall_tuple_1 _) (fun obj=>F.args_object_init_2 obj _) F.entry_tuple_new
  (PF r a b c t u v n gz hn hlen) ⟨hh,hr,fun h' tk br hk cN=>⟨⟨_,Qv _ rfl,rfl⟩,h h' tk br hk cN⟩⟩
section
variable {X:Cx}
def BV (mk:List V->HO):List V->Hp->VK->Prop:=fun xs H Q=>∃ a j,xs=[.ref a]/\H a=some (.lL 0 j) /\ -1000<=j/\j<=1000/\∀ p,H p=none->Q (.ref p) (upd H p (mk (qg j.toNat)))
def PJ(hc:X.calm=true):jM X (.type "list") (BV .lst):=by
 intro pins s σ H xs us Q I r h
 obtain⟨a,j,rfl,hr,j1,j2,q⟩:=h
 obtain⟨u,rfl,rx⟩:=lN r
 cases rx
 obtain⟨t,u,v,ho⟩:=(show cU X.prog X.w H s.heap a (.lL 0 j)from I.az a _ hr)
 refine call_list_range (I.ok.hd hc) ho (Gc (by omega) (by omega)) (Gd j) (by omega) fun h' tk br c' hk oU cN=>?_
 refine⟨.ref s.heap.objs.size,_,I.laid (t':=tk) (o:=.lst (qg j.toNat)) hk (Qh _) ⟨by rw[FO];exact QO (by omega:j.toNat<=1000) (by decide),br.toList,c',Ge cN,by simpa using oU⟩,rfl,q _ (I.az.fresh (Qh _))⟩
def PK(hc:X.calm=true):jM X (.type "tuple") (BV .tup):=by
 intro pins s σ H xs us Q I r h
 obtain⟨a,j,rfl,hr,j1,j2,q⟩:=h
 obtain⟨u,rfl,rx⟩:=lN r
 cases rx
 obtain⟨t,u,v,ho⟩:=(show cU X.prog X.w H s.heap a (.lL 0 j)from I.az a _ hr)
 refine PH (I.ok.hd hc) ho (Gc (by omega) (by omega)) (Gd j) (by omega) fun h' tk br hk cN=>?_
 have I1:Inv X pins σ H { s with heap:=h',toks:=tk }:=I.kept hk
 have I2:Inv X pins σ (upd H h'.objs.size (.tup (qg j.toNat))) { s with heap:=h'.push { cls:=.type "tuple",data:=.seq br },toks:=tk }:=
  I1.laid (t':=tk) (fun b o e=>Qe _ e) (Qh _) (show cU X.prog X.w _ _ _ (.tup _)from⟨by rw[FO];exact QO (by omega:j.toNat<=1000) (by decide),br.toList,Ge cN,by simpa using l8.new h' br⟩)
 exact⟨.ref h'.objs.size,_,I2,rfl,q _ (I1.az.fresh (Qh _))⟩
variable {a:Expr}{g:b_}{pos p p1 k_:Pos}
@[simp] def qq (g:b_):aB:=fun ρ=>match cB g ρ with
 | some (ds,ρ1)=>some (.lst ds,1,ρ1)
 | none=>none
@[simp] def Gg (g:b_):aB:=fun ρ=>match cB g ρ with
 | some (ds,ρ1)=>some (.tup ds,9,ρ1)
 | none=>none
def Gh{mk:List V->HO}{q0:Nat}{md:List D->D}(al:∀ {ρ:aW} {σ:St} {H1:Hp} {w1:Wn} {t:Nat} {p:Addr} {vs:List V} {ds:List D},Good K ρ σ H1 w1 t->H1 p=none->af K H1 w1 .f 0 ds vs []->∃ w' F,Good K ρ σ (upd H1 p (mk vs)) w' (t+1)/\Go H1 w1 (upd H1 p (mk vs)) w'/\Rep K (upd H1 p (mk vs)) w' (.t t) q0 (md ds) (.ref p) F) :
  ∀ σ H Q,tD K (fun ρ=>match cB g ρ with
   | some (ds,ρ1)=>some (md ds,q0,ρ1)
   | none=>none) σ H Q->ym (BV mk) (EW (Ga (BI K g)) EV) σ H Q:=fun σ H Q ah=>by
 obtain⟨ρ,w,t,r',q,ρ',gd,ee,k⟩:=ah
 dsimp only at ee
 split at ee
 next ds ρ1 h1=>
  cases ee
  unfold cB at h1
  split at h1
  next n ρ2 h2=>
   split at h1
   next hn=>
    cases h1
    refine⟨ρ,w,t,_,_,gd,h2,fun vs H1 w1 g1 aF r1=>?_⟩
    obtain⟨v,rfl,rv⟩:=one r1
    have hv:=d7 rv
    subst hv
    refine⟨n,rfl,by omega,by omega,fun p hp=>⟨p,n,rfl,fX,hn.1,hn.2,fun l hl=>?_⟩⟩
    have ne:∀ a x,H1 a=some x->a≠p:=fun a x e=>ib e hp
    have st:de H1 w1 (upd H1 p (.lL 0 n)) w1:=fun a x e nn=>⟨sm (by rw[bc (ne a x e)];exact e),nn⟩
    have nw:∀ a o,w1 a=some o->a≠p:=fun a o e=>by obtain⟨vs,q⟩:=g1.wl a o e;exact ne a _ q
    have g2:Good K ρ' σ (upd H1 p (.lL 0 n)) w1 t:=⟨⟨fun a o e=>by
     obtain⟨us,q⟩:=g1.wl a o e
     exact⟨us,by rw[bc (nw a o e)];exact q⟩,g1.wl.tb.upd rfl (.inl hp)⟩,g1.ws,g1.wt,g1.len,fun i d q e=>by
     obtain⟨v,F,h1,h2⟩:=g1.slot i d q e
     exact⟨v,F,h1,Rep.go g1.wl st h2 fun a m=>⟨bc (nw a _ (h2.aC a m)),h2.aC a m⟩⟩⟩
    have bj:Go H1 w1 (upd H1 p (.lL 0 n)) w1:=⟨st,fun a o e _=>⟨bc (nw a o e),e⟩⟩
    obtain⟨w',F,a1,a2,a3⟩:=al g2 hl (O_ n.toNat)
    exact k _ _ _ _ a1 ((aF.trans bj).trans a2) a3
   ·cases h1
  ·cases h1
 ·cases ee
def BW(hc:X.calm=true)(hm:X.mg "list" = none)(hb:bootBuiltins "list" = some (.type "list"))(BX:X.mg "range" = none)(ha:f9 X [a] g)(hg:Gl X "list":=by rfl)(BY:Gl X "range":=by rfl)(hs:starEach [a] X.env=[(false,eval a X.env)]:=by rfl)(he:starEach [.Call (.Name "range" p1) [a] [] k_] X.env=(false,eval (.Call (.Name "range" p1) [a] [] k_) X.env)::starEach [] X.env:=by rfl)(cu:(backTo pos (starEach [] X.env)).any (·.1)=false:=by rfl):QD X (.Call (.Name "list" p) [.Call (.Name "range" p1) [a] [] k_] [] pos) (qq g):=⟨have ha:=ha.o;PE.imp (tV (PJ hc) hg hm hb (gp (Gb BY BX ha hs) jO he) (by decide) (by decide) he cu) (Gh fun g hp r=>by
  obtain⟨a1,a2,a3⟩:=oJ g hp r
  exact⟨_,_,a1,a2,a3⟩)⟩
def PN(hc:X.calm=true)(hm:X.mg "tuple" = none)(hb:bootBuiltins "tuple" = some (.type "tuple"))(BX:X.mg "range" = none)(ha:f9 X [a] g)(hg:Gl X "tuple":=by rfl)(BY:Gl X "range":=by rfl)(hs:starEach [a] X.env=[(false,eval a X.env)]:=by rfl)(he:starEach [.Call (.Name "range" p1) [a] [] k_] X.env=(false,eval (.Call (.Name "range" p1) [a] [] k_) X.env)::starEach [] X.env:=by rfl)(cu:(backTo pos (starEach [] X.env)).any (·.1)=false:=by rfl):QD X (.Call (.Name "tuple" p) [.Call (.Name "range" p1) [a] [] k_] [] pos) (Gg g):=⟨have ha:=ha.o;PE.imp (tV (PK hc) hg hm hb (gp (Gb BY BX ha hs) jO he) (by decide) (by decide) he cu) (Gh fun g hp r=>by
  obtain⟨a1,a2,a3⟩:=yN g hp r
  exact⟨_,_,a1,a2,a3⟩)⟩
end
end L3
namespace L3
open PySem PySem.Spec PyProof.Rows L2
def PO{M:Model}{A:Around}{E:Value->Shared->Prop}{s:Shared}{β:Type}{n:Nat}(f:Nat->β->Sem (ForInStep β))(I:List Nat->β->Shared->Prop)(Q:β->Shared->Prop)(b:β)
  (lM:∀ x bh b s,I (x::bh) b s->wpAny M A (f x b) (fun r s'=>match r with|.yield b'=>I bh b' s' | .done b'=>Q b' s') E s)
  (fin:∀ b s,I [] b s->Q b s) (h:I (List.range' 0 n 1) b s):wpAny M A (forIn [0:n] b f) Q E s:=by
 rw[JM]
 refine JR f I Q lM fin _ b ?_
 have e:(Std.Legacy.Range.size [0:n])=n:=by simp[Std.Legacy.Range.size]
 show I (List.range' 0 (Std.Legacy.Range.size [0:n]) 1) b s
 rw[e]
 exact h
open AutoSeq1 (wpAny_loadPart') in
def PR(l:Addr)(items:Array Value)(n:Nat)(dd:Option Addr)(sl:Array (Option Value))(x:Value)(e:Value->Bool)(j:Nat)(hj:j<items.size)(hit:e items[j]=true)(PU:∀ m (hm:m<items.size),m<j->e items[m]=false) :
  Meets (Builtin.«tuple.index» ⟨[.ref l,x],[]⟩)
   (fun A R s=>s.heap.get? l=some { cls:=.type "tuple",dict:=dd,data:=.seq items n,slots:=sl }/\(∀ y,y∈items->SeqAt.EqAt A.in1 s y x (e y))/\R (.ok (.ret (.int j s.toks))) { s with toks:=s.toks+1 }):=
 .of_wp fun prog w A R s h=>by
  obtain⟨hp,g,d,tk,os⟩:=s;obtain⟨hl,he,h⟩:=h
  wp_walk using wpAny_loadPart' hl,PO _ (fun bh b s'=>b.1=none/\s'=⟨hp,g,d,tk,os⟩/\∃ i k,bh=List.range' i k 1/\i+k=items.size/\i<=j) _
  case lM=>
   rintro y bh b s' ⟨hb,rfl,i,k,hr,uc,BZ⟩
   cases k with
   | zero=>simp at hr
   | succ k=>
    rw[JS]at hr
    obtain⟨rfl,rfl⟩:=List.cons.inj hr
    have bY:y<items.size:=by omega
    have B0:items[y]? = some items[y]:=by simp[bY]
    rw[B0]
    refine Qa (he _ (Vh bY) prog w _ _ ?_)
    by_cases PV:y=j
    ·subst PV
     rw[hit]
     wp_walk
     exact⟨_,rfl,h⟩
    ·rw[PU y bY (by omega)]
     wp_walk
     exact⟨rfl,rfl,y+1,k,rfl,by omega,by omega⟩
  case fin=>
   rintro ⟨b1,b2⟩ s' ⟨hb,rfl,i,k,hr,uc,BZ⟩
   cases k with
   | zero=>omega
   | succ k=>simp[JS]at hr
  case h=>
   exact⟨rfl,rfl,0,items.size,by simp,by omega,by omega⟩
end L3
namespace L3
open PySem PySem.Spec PyProof.Rows L2
variable {F:List Addr}{H:Hp}{K:PySem.W.Frag}{N ps:List Str}{P:Program}{Q:Value->Shared->Prop}{Sq:Hp->List V->Prop}{X:Cx}{base:Heap}{body:aN}{d:D}{ds:List D}{g1 g2:Int->Int->Option D}{h1 h2:Int->Int->V}{i j n q:Nat}{it p:Addr}{mg:Str->Option Value}{o:Ow}{op kP:CmpOp}{st:Stmt}{u:Value}{vs:List V}{w:Wn}{x:Str}{ρ:aW}{σ:St}
def ud (d:D)(ds:List D):Option Nat:=(cZ ds).findIdx? fun y=>PyData.eqv y (ck d)
def PX (K:PySem.W.Frag):V->List V->Hp->VK->Prop:=fun x xs H Q=>∃ ds d y j,xs=[y]/\Is K H (.tup ds) x/\Is K H d y/\dH (.tup ds)=true/\dH d=true/\ud d ds=some j/\Q (.int (Int.ofNat j)) H
section
variable {X:Cx}{a b c e:Expr}{es:List Expr}{fa fb fc f:aB}{g:b_}{pos p p1 p2 ak apos:Pos}
def PY(hu:X.A.units+65<cLine):yo X "tuple.index" (PX X.K):=by
 intro pins s σ H x xs v us Q I rx rs ⟨ds,d,y,j,e,⟨w,o,q,F,h1⟩,⟨w',o',q',F',h2⟩,k1,k2,hj,hq⟩
 subst e
 obtain⟨u,rfl,ru⟩:=lN rs
 obtain⟨as,ra⟩:=h1.reads I rx (ko k1)
 obtain⟨bs,rb⟩:=h2.reads I ru (ko k2)
 replace k1:=kq k1
 replace k2:=kq k2
 unfold ck at ra k1
 have mH:PyData.canLayAll0 (cZ ds)=true:=QT k1
 have qr:=QT k2
 cases ra with
 | @tuple a ob vs n _ _ ho mJ hd nS=>
  obtain⟨cls,dd,data,sl⟩:=ob
  simp only at mJ hd
  subst mJ hd
  have jV:=Y5 _ _ _ mH nS
  have B1:=Yg.mp hj
  obtain⟨ue,B2,B3⟩:=B1
  have hlen:vs.size=(cZ ds).length:=by rw[<- jV];simp
  have mK:∀ m (hm:m<vs.size) (fD:m<(cZ ds).length),SeqAt.readOf s.heap vs[m]=(cZ ds)[m]:=fun m hm fD=>by
   have:(vs.toList.map (SeqAt.readOf s.heap))[m]? = (cZ ds)[m]?:=by rw[jV]
   simpa [hm,fD]using this
  refine Jo Vk ⟨_,ho,rfl⟩ PySem.F.entry_tuple_index (PySem.F.args_tuple_index_2 _ _)
   (PR a vs n dd sl u (fun y=>PyData.eqv (SeqAt.readOf s.heap y) (ck d)) j (by omega) (by rw[mK j (by omega) ue];simpa using B2) (fun m hm B4=>by rw[mK m hm (by omega)];simpa using B3 m B4)) ⟨ho,Vv nS rb mH qr (Ju k2 hu),?_⟩
  exact⟨.int (Int.ofNat j),H,I.tok _,⟨_,rfl⟩,hq⟩
@[simp] def B5 (fo:aB)(g:b_):aB:=fun ρ=>match fo ρ with
 | some (.tup ds,_,ρ1)=>match g ρ1 with
  | some ([d],ρ2)=>if dH (.tup ds)=true/\dH d=true then match ud d ds with
   | some j=>some (.int (Int.ofNat j),9,ρ2)
   | none=>none
   else none
  | _=>none
 | _=>none
def PZ{k:Nat}(hr:aS k X.A)(ho:QD X a fa)(ha:f9 X [e] g)(bE:attributeBase a "index" X.env (eval a X.env)=eval a X.env:=by rfl)(cJ:((backTo ak (starEach [e] X.env)).all (fun x=>!x.1)&&(backToKw ak (keywordEach [] X.env)).all (fun x=>x.1.isSome)
   && decide ([e].length+([]:List Keyword).length+(if([]:List Keyword).isEmpty then 0 else 1)<30))=true:=by rfl) (bF:(apos.endLine==ak.line)=true:=by rfl) (hs:starEach [e] X.env=(false,eval e X.env)::starEach [] X.env:=by rfl) (bW:(backTo ak (starEach [] X.env)).any (·.1)=false:=by rfl):QD X (.Call (.Attribute a "index" apos) [e] [] ak) (B5 fa g):=⟨have ho:=ho.o;have ha:=ha.o;PE.imp (tZ PySem.F.plainAttrs_tuple Vk PySem.F.type_tuple_index (PY (sh hr)) ho ha bE cJ bF hs bW) fun σ H Q ah=>by
 obtain⟨ρ,w,t,r',q,ρ',gd,ee,k⟩:=ah
 unfold B5 at ee
 split at ee
 next ds q1 ρ1 h1=>
  split at ee
  next d ρ2 h2=>
   split at ee
   next az=>
    split at ee
    next j hj=>
     cases ee
     refine⟨ρ,w,t,_,_,_,gd,h1,fun v H1 w1 F1 g1 aF r1=>?_⟩
     have r0:=r1.drop (o:=.f) (Qh t)
     have gg:=g1.drop (t':=t)
     obtain⟨p0,vs,rfl,hq,rs⟩:=r0.qd
     refine⟨?_,ρ1,bG t w1,t,_,_,gg,h2,fun Gi H2 w2 g2 bj r2=>?_⟩
     ·exact .inr (.inl ⟨rfl,.inr ⟨_,hq⟩⟩)
     ·obtain⟨v2,rfl,vI⟩:=one r2
      have r3:Rep X.K H2 w2 .f 0 (.tup ds) (.ref p0) []:=r0.oR gg.wl bj.bA
      exact⟨ds,d,v2,j,rfl,⟨_,_,_,_,r3⟩,⟨_,_,_,_,vI⟩,az.1,az.2,hj,k _ H2 w2 [] g2.up ((aF.drop gd.wt).trans bj) (.int _)⟩
    ·cases ee
   ·cases ee
  ·cases ee
 ·cases ee⟩
theorem Good.mut{t:Nat}(g:Good K ρ σ H w t)(e:ρ[i]? = some (some (.lst ds,1))) :
  ∃ l vs,σ[i]? = some (some (.ref l))/\H l=some (.lst vs)/\af K H w .f 0 ds vs []/\∀ cx eS,af K H w .f 0 cx eS []->
   Good K (ρ.set i (some (.lst cx,1))) σ (upd H l (.lst eS)) w t/\Go H w (upd H l (.lst eS)) w:=by
 obtain⟨v,F,h1,h2⟩:=g.slot i _ _ e
 cases h2 with
 | @own _ l vs _ F' hl hw rs ne=>
  have hF:=rs.zero
  subst hF
  refine⟨l,vs,h1,hl,rs.any g.wl,fun cx eS r'=>?_⟩
  have nl:∀ a o,w a=some o->o ≠ .s i->a≠l:=fun a o e n z=>by subst z;rw[hw]at e;exact n (QF e).symm
  have nn:∀ a,w a=none->a≠l:=fun a e z=>by subst z;rw[hw]at e;cases e
  have st:de H w (upd H l (.lst eS)) w:=fun a x h n=>⟨sm (by rw[bc (nn a n)];exact h),n⟩
  refine⟨⟨⟨fun a o h=>?_,g.wl.tb.upd rfl (.inr (g.wl l _ hw))⟩,g.ws,g.wt,by rw[QS];exact g.len,fun j d' q' e'=>?_⟩,⟨st,fun a o h n=>⟨bc (nl a o h (n i)),h⟩⟩⟩
  ·by_cases z:a=l
   ·subst z;exact⟨.l _,fX⟩
   ·obtain⟨us,q⟩:=g.wl a o h
    exact⟨us,by rw[bc z];exact q⟩
  ·by_cases hj:i=j
   ·subst hj
    rw[QP (Qq.mp e).1]at e'
    cases e'
    exact⟨_,_,h1,.own fX hw (af.go g.wl st r' nM) (fun z=>nomatch z)⟩
   ·rw[QR hj]at e'
    obtain⟨v',F',qt,mL⟩:=g.slot j d' q' e'
    exact⟨v',F',qt,Rep.go g.wl st mL fun a m=>⟨bc (nl a _ (mL.aC a m) (fun z=>hj (by cases z;rfl))),mL.aC a m⟩⟩
@[simp] def sj:Option (OD)->Bool
 | some (some (.lst _,_))=>true
 | _=>false
def Good.cK{t:Nat}(g:Good K ρ σ H w t)(h:sj ρ[i]? = true):∃ l,σ[i]? = some (some (.ref l))/\∃ vs,cE K H l vs:=by
 unfold sj at h
 split at h
 next ds q e=>
  obtain⟨v,F,h1,h2⟩:=g.slot i _ _ e
  obtain⟨p,vs,_,_,rfl,hq,_⟩:=h2.oN
  exact⟨p,h1,vs,hq⟩
 ·cases h
@[simp] def iq (i:Nat)(g:b_):aB:=fun ρ=>if sj ρ[i]? = true then match g ρ with
 | some ([d],ρ1)=>match ρ1[i]? with
  | some (some (.lst ds,1))=>if ds.length<=1000 then some (.aK,9,ρ1.set i (some (.lst (ds++[d]),1)))else none
  | _=>none
 | _=>none
 else none
def lS(h:QE X (.Name x p1) (eR i))(ha:f9 X [e] g)(bE:attributeBase (.Name x p1) "append" X.env (eval (.Name x p1) X.env)=eval (.Name x p1) X.env:=by rfl)(cJ:((backTo ak (starEach [e] X.env)).all (fun x=>!x.1)&&(backToKw ak (keywordEach [] X.env)).all (fun x=>x.1.isSome)
   && decide ([e].length+([]:List Keyword).length+(if([]:List Keyword).isEmpty then 0 else 1)<30))=true:=by rfl) (bF:(apos.endLine==ak.line)=true:=by rfl) (hs:starEach [e] X.env=(false,eval e X.env)::starEach [] X.env:=by rfl) (bW:(backTo ak (starEach [] X.env)).any (·.1)=false:=by rfl):QD X (.Call (.Attribute (.Name x p1) "append" apos) [e] [] ak) (iq i g):=⟨have h:=h.o;have ha:=ha.o;PE.imp (tZ Z1 PySem.F.slot_list_append PySem.F.type_list_append Nw h ha bE cJ bF hs bW) fun σ H Q ah=>by
 obtain⟨ρ,w,t,r',q,ρ',gd,ee,k⟩:=ah
 unfold iq at ee
 split at ee
 next hl=>
  obtain⟨l,cL,us,hq⟩:=gd.cK hl
  split at ee
  next d ρ1 h1=>
   split at ee
   next ds e1=>
    split at ee
    next hlen=>
     cases ee
     refine⟨_,cL,.inl ⟨rfl,us,hq⟩,ρ,w,t,_,_,gd,h1,fun vs H1 w1 g1 aF r1=>?_⟩
     obtain⟨v,rfl,rv⟩:=one r1
     obtain⟨l',ws,cC,hH,rs,mk⟩:=g1.mut e1
     rw[cL]at cC
     cases cC
     have r2:af X.K H1 w1 .f 0 (ds++[d]) (ws++[v]) []:=af.snoc (F:=[]) (G:=[]) rv rs nM
     obtain⟨m1,m2⟩:=mk _ _ r2
     refine⟨l,ws,v,rfl,rfl,hH,by rw[<- rs.length];exact lP hlen,?_⟩
     exact k .aK _ w1 [] m1.up (aF.trans m2) .aK
    ·cases ee
   ·cases ee
  ·cases ee
 ·cases ee⟩
theorem af.eraseIdx:∀ {ds:List D} {vs:List V} (i:Nat),af K H w .f 0 ds vs []->af K H w .f 0 (ds.eraseIdx i) (vs.eraseIdx i) []
 | ds,vs,i,r=>by
  generalize hF:([]:List Addr)=F at r
  cases r with
  | nil=>exact .nil
  | @cons _ d v ds vs F G r s _=>
   have h1:F=[]:=r.zero
   have h2:G=[]:=s.zero
   subst h1 h2
   cases i with
   | zero=>exact s
   | succ j=>exact .cons (F:=[]) (G:=[]) r (af.eraseIdx j s) nM
@[simp] def vJ (i:Nat)(g:b_):aB:=fun ρ=>if sj ρ[i]? = true then match g ρ with
 | some ([.int n],ρ1)=>match ρ1[i]? with
  | some (some (.lst ds,1))=>if -1000<=n/\n<=1000 then match seqIndex? n ds.length with
   | some j=>match ds[j]? with
    | some d=>some (d,gY d,ρ1.set i (some (.lst (ds.eraseIdx j),1)))
    | none=>none
   | none=>none
   else none
  | _=>none
 | _=>none
 else none
def P1(h:QE X (.Name x p1) (eR i))(ha:f9 X [e] g)(bE:attributeBase (.Name x p1) "pop" X.env (eval (.Name x p1) X.env)=eval (.Name x p1) X.env:=by rfl)(cJ:((backTo ak (starEach [e] X.env)).all (fun x=>!x.1)&&(backToKw ak (keywordEach [] X.env)).all (fun x=>x.1.isSome)
   && decide ([e].length+([]:List Keyword).length+(if([]:List Keyword).isEmpty then 0 else 1)<30))=true:=by rfl) (bF:(apos.endLine==ak.line)=true:=by rfl) (hs:starEach [e] X.env=(false,eval e X.env)::starEach [] X.env:=by rfl) (bW:(backTo ak (starEach [] X.env)).any (·.1)=false:=by rfl):QD X (.Call (.Attribute (.Name x p1) "pop" apos) [e] [] ak) (vJ i g):=⟨have h:=h.o;have ha:=ha.o;PE.imp (tZ Z1 PySem.F.slot_list_pop PySem.F.type_list_pop NA h ha bE cJ bF hs bW) fun σ H Q ah=>by
 obtain⟨ρ,w,t,r',q,ρ',gd,ee,k⟩:=ah
 unfold vJ at ee
 split at ee
 next hl=>
  obtain⟨l,cL,us,hq⟩:=gd.cK hl
  split at ee
  next n ρ1 h1=>
   split at ee
   next ds e1=>
    split at ee
    next hn=>
     split at ee
     next j hj=>
      split at ee
      next d hd=>
       cases ee
       refine⟨_,cL,.inl ⟨rfl,us,hq⟩,ρ,w,t,_,_,gd,h1,fun vs H1 w1 g1 aF r1=>?_⟩
       obtain⟨v,rfl,rv⟩:=one r1
       have hv:=d7 rv
       subst hv
       obtain⟨l',ws,cC,hH,rs,mk⟩:=g1.mut e1
       rw[cL]at cC
       cases cC
       obtain⟨y,hy,ry⟩:=rs.get hd
       obtain⟨m1,m2⟩:=mk _ _ (rs.eraseIdx j)
       refine⟨l,ws,n,j,y,rfl,rfl,hH,by omega,by omega,by rw[<- rs.length];exact hj,hy,?_⟩
       have P2:Rep X.K _ w1 (.t t) 0 r' y []:=Rep.go g1.wl m2.bA ry nM
       exact k y _ w1 [] m1.up (aF.trans m2) P2.i6
      ·cases ee
     ·cases ee
    ·cases ee
   ·cases ee
  ·cases ee
 ·cases ee⟩
end
theorem af.vK:∀ {ds:List D} {vs:List V} {F:List Addr} {i:Nat} {d:D},af K H w o q ds vs F->ds[i]? = some d->∃ v G,vs[i]? = some v/\Rep K H w o q d v G/\∀ a∈G,a∈F
 | _,_,_,_,_,.nil,e=>by simp at e
 | _,_,_,0,_,.cons r _ _,e=>by
  simp at e;subst e;exact⟨_,_,rfl,r,fun a m=>Qz _ m⟩
 | _,_,_,i+1,d,.cons _ s _,e=>by
  obtain⟨v,G,h1,h2,h3⟩:=af.vK (i:=i) (d:=d) s (by simpa using e)
  exact⟨v,G,by simpa using h1,h2,fun a m=>Qp _ (h3 a m)⟩
def af.Gj{i:Int}(r:af K H w o q ds vs F)(h:L2.dF ds i=some d):∃ v G,L2.dF vs i=some v/\Rep K H w o q d v G/\∀ a∈G,a∈F:=by
 unfold L2.dF at h ⊢
 rw[<- r.length]
 cases e:iP ds.length i with
 | none=>rw[e]at h;cases h
 | some j=>
  rw[e]at h
  exact r.vK h
@[simp] def ay (n:Nat)(fb:aB):aB:=fun ρ=>match ρ[n]? with
 | some (some _)=>match fb ρ with
  | some (.int i,_,ρ2)=>match ρ2[n]? with
   | some (some (x,q))=>match dw x i with
    | some d=>if d.cK=true/\1<q/\x.cK=true then none else some (d,gY d,ρ2)
    | none=>none
   | _=>none
  | _=>none
 | _=>none
section
variable {X:Cx}{a b c e:Expr}{es:List Expr}{fa fb fc f:aB}{g:b_}{pos p p1 p2 ak apos:Pos}
def Gk(h:PE X (.Name x p1) (eR n))(hb:PD X b fb)(hs:pU b:=by exact fun _ _=>rfl):PD X (.Subscript (.Name x p1) b pos) (ay n fb):=PE.imp (tW tY h hb hs) fun σ H Q ah=>by
 obtain⟨ρ,w,t,r',q,ρ',gd,ee,k⟩:=ah
 unfold ay at ee
 split at ee
 next z0 e0=>
  obtain⟨d0,q0⟩:=z0
  obtain⟨v,F,cL,_⟩:=gd.slot n d0 q0 e0
  split at ee
  next i q2 ρ2 h2=>
   split at ee
   next x q e2=>
    split at ee
    next d hd=>
     split at ee
     ·cases ee
     next hn=>
      cases ee
      refine⟨v,cL,ρ,w,t,_,_,_,gd,h2,fun y H2 w2 F2 g2 go r2=>?_⟩
      have hy:=d7 r2
      subst hy
      have gg:=g2.drop (t':=t)
      obtain⟨v',F',cC,rr⟩:=gg.slot n x q e2
      rw[cL]at cC
      cases cC
      have fin:∀ u,Rep X.K H2 (bG t w2) (.t t) 0 r' u []->Q u H2:=fun u ru=>k u H2 (bG t w2) [] gg.up (go.drop gd.wt) ru.i6
      cases x with
      | lst ds=>
       by_cases P4:q=0
       ·subst P4
        obtain⟨p0,vs,rfl,hq,rs⟩:=rr.ip
        obtain⟨u,hu,ru⟩:=rs.dF hd
        exact .inl ⟨p0,vs,i,u,rfl,rfl,hq,hu,fin u (ru.any gg.wl)⟩
       ·by_cases vM:q=1
        ·subst vM
         cases rr with
         | own h0 _ rs _=>
          have z0:=rs.zero
          subst z0
          obtain⟨u,hu,ru⟩:=rs.dF hd
          exact .inl ⟨_,_,i,u,rfl,rfl,cE.of h0,hu,fin u (ru.any gg.wl)⟩
        ·obtain⟨p0,vs,q',G,rfl,hq,rs⟩:=rr.oN
         obtain⟨u,G',hu,ru,_⟩:=rs.Gj hd
         refine .inl ⟨p0,vs,i,u,rfl,rfl,hq,hu,fin u ?_⟩
         cases hL:r'.cK with
         | false=>exact((ru.fx hL).2 0).any gg.wl
         | true=>exact absurd ⟨hL,by omega,rfl⟩ hn
      | tup ds=>
       obtain⟨p0,vs,rfl,hq,rs⟩:=rr.gZ
       obtain⟨u,hu,ru⟩:=rs.dF hd
       exact .inr (.inl ⟨p0,vs,i,u,rfl,rfl,hq,hu,fin u (ru.any gg.wl)⟩)
      | _=>cases hd
    ·cases ee
   ·cases ee
  ·cases ee
 ·cases ee
@[simp] def vN (fa fb:aB):aB:=fun ρ=>match fa ρ with
 | some (.lst ds,1,ρ1)=>match fb ρ1 with
  | some (.int n,_,ρ2)=>if -1000<=n/\n<=1000/\ds.length*n.toNat<=1000 then some (.lst (List.replicate n.toNat ds).flatten,1,ρ2)else none
  | _=>none
 | _=>none
theorem af.app{es:List D}{us:List V}(s:af K H w .f 0 es us []):∀ {ds:List D} {vs:List V},af K H w .f 0 ds vs []->af K H w .f 0 (ds++es) (vs++us) []
 | ds,vs,r=>by
  generalize hF:([]:List Addr)=F at r
  cases r with
  | nil=>rw[<- hF];exact s
  | @cons _ d v ds vs F G r t _=>
   have h1:F=[]:=r.zero
   have h2:G=[]:=t.zero
   subst h1 h2
   exact .cons (F:=[]) (G:=[]) r (af.app s t) nM
theorem af.times(r:af K H w .f 0 ds vs []):∀ n:Nat,af K H w .f 0 (List.replicate n ds).flatten (List.replicate n vs).flatten []
 | 0=>.nil
 | n+1=>by
  rw[ZN,ZN,Ji,Ji]
  exact af.app (af.times r n) r
def P5(ha:QD X a fa)(hb:QD X b fb):QD X (.BinOp a .Mult b pos) (vN fa fb):=⟨have ha:=ha.o;have hb:=hb.o;PE.imp (pP NC ha hb) fun σ H Q ah=>by
 obtain⟨ρ,w,t,r',q,ρ',gd,ee,k⟩:=ah
 unfold vN at ee
 split at ee
 next ds ρ1 h1=>
  split at ee
  next n q2 ρ2 h2=>
   split at ee
   next hn=>
    cases ee
    refine rU gd h1 h2 fun u u' H2 w2 F1 F2 g2 go r1 r2=>?_
    have rW:=d7 r2
    subst rW
    cases r1 with
    | @own _ l vs _ F hl hw rs ne=>
     have hF:=rs.zero
     subst hF
     have gg:=g2.drop (t':=t)
     have mM:af X.K H2 (bG t w2) .f 0 ds vs []:=af.go g2.wl (fun a x h n=>⟨sm h,yM n⟩) rs nM
     refine⟨l,n,vs,rfl,rfl,hl,by omega,by omega,?_,fun p hp=>?_⟩
     ·rw[<- rs.length];exact rX hn.2.2
     ·obtain⟨a1,a2,a3⟩:=oJ gg hp (mM.times n.toNat)
      exact k _ _ _ _ a1 ((go.drop gd.wt).trans a2) a3
   ·cases ee
  ·cases ee
 ·cases ee⟩
end
theorem af.row(wl:WL K w H):∀ {rows:List D} {vs:List V} {F:List Addr} {i:Nat} {row:List D},af K H w o 1 rows vs F->rows[i]? = some (.lst row)->
  ∃ b ws,vs[i]? = some (.ref b)/\H b=some (.lst ws)/\w b=some o/\b∈F/\af K H w .f 0 row ws [] /\
   ∀ g8 ku,af K H w .f 0 g8 ku []->af K (upd H b (.lst ku)) w o 1 (rows.set i (.lst g8)) vs F
 | _,_,_,_,_,.nil,e=>by simp at e
 | _,_,_,0,row,.cons r s ne,e=>by
  simp at e
  subst e
  cases r with
  | @own _ b ws _ F' hb hw rs nb=>
   have hF:=rs.zero
   subst hF
   refine⟨b,ws,rfl,hb,hw,by simp,rs.any wl,fun g8 ku r'=>?_⟩
   have nn:∀ a,w a=none->a≠b:=fun a e z=>by subst z;rw[hw]at e;cases e
   have st:de H w (upd H b (.lst ku)) w:=fun a x h n=>⟨sm (by rw[bc (nn a n)];exact h),n⟩
   refine .cons (.own fX hw (af.go wl st r' nM) (fun z=>nomatch z)) (af.go wl st s fun a m=>⟨bc fun z=>?_,s.aC a m⟩) ne
   subst z
   exact ne a (by simp) m
 | _,_,_,i+1,row,.cons (d:=d) (v:=v) (F:=F) (G:=G) r s ne,e=>by
  obtain⟨b,ws,h1,h2,h3,h4,h5,mk⟩:=af.row wl (i:=i) (row:=row) s (by simpa using e)
  refine⟨b,ws,by simpa using h1,h2,h3,Qp _ h4,h5,fun g8 ku r'=>?_⟩
  have nn:∀ a,w a=none->a≠b:=fun a e z=>by subst z;rw[h3]at e;cases e
  have st:de H w (upd H b (.lst ku)) w:=fun a x h n=>⟨sm (by rw[bc (nn a n)];exact h),n⟩
  refine .cons (Rep.go wl st r fun a m=>⟨bc fun z=>?_,r.aC a m⟩) (mk g8 ku r') ne
  subst z
  exact ne a m h4
theorem Good.B6{t m:Nat}{rows row:List D}(g:Good K ρ σ H w t)(e:ρ[i]? = some (some (.lst rows,2)))(em:rows[m]? = some (.lst row)) :
  ∃ l vs b ws,σ[i]? = some (some (.ref l))/\cE K H l vs/\vs.length=rows.length/\vs[m]? = some (.ref b)/\H b=some (.lst ws)/\af K H w .f 0 row ws []/\∀ g8 ku,af K H w .f 0 g8 ku []->
   Good K (ρ.set i (some (.lst (rows.set m (.lst g8)),2))) σ (upd H b (.lst ku)) w t/\Go H w (upd H b (.lst ku)) w:=by
 obtain⟨v,F,h1,h2⟩:=g.slot i _ _ e
 cases h2 with
 | @own _ l vs _ F' hl hw rs nl=>
  obtain⟨b,ws,b1,b2,b3,b4,b5,mk⟩:=af.row g.wl rs em
  have P6:l≠b:=fun z=>by subst z;exact nl b4
  refine⟨l,vs,b,ws,h1,cE.of hl,rs.length.symm,b1,b2,b5,fun g8 ku r'=>?_⟩
  have Gm:∀ a o,w a=some o->o ≠ .s i->a≠b:=fun a o e n z=>by subst z;rw[b3]at e;exact n (QF e).symm
  have nn:∀ a,w a=none->a≠b:=fun a e z=>by subst z;rw[b3]at e;cases e
  have st:de H w (upd H b (.lst ku)) w:=fun a x h n=>⟨sm (by rw[bc (nn a n)];exact h),n⟩
  refine⟨⟨⟨fun a o h=>?_,g.wl.tb.upd rfl (.inr (g.wl b _ b3))⟩,g.ws,g.wt,by rw[QS];exact g.len,fun j d' q' e'=>?_⟩,⟨st,fun a o h n=>⟨bc (Gm a o h (n i)),h⟩⟩⟩
  ·by_cases z:a=b
   ·subst z;exact⟨.l _,fX⟩
   ·obtain⟨us,q⟩:=g.wl a o h
    exact⟨us,by rw[bc z];exact q⟩
  ·by_cases hj:i=j
   ·subst hj
    rw[QP (Qq.mp e).1]at e'
    cases e'
    exact⟨_,_,h1,.own (by rw[bc P6];exact hl) hw (mk g8 ku r') nl⟩
   ·rw[QR hj]at e'
    obtain⟨v',F',qt,mL⟩:=g.slot j d' q' e'
    exact⟨v',F',qt,Rep.go g.wl st mL fun a m=>⟨bc (Gm a _ (mL.aC a m) (fun z=>hj (by cases z;rfl))),mL.aC a m⟩⟩
theorem af.vO{v:V}(rv:Rep K H w .f 0 d v []):∀ {ds:List D} {vs:List V} (i:Nat),af K H w .f 0 ds vs []->af K H w .f 0 (ds.set i d) (vs.set i v) []
 | ds,vs,i,r=>by
  generalize hF:([]:List Addr)=F at r
  cases r with
  | nil=>rw[<- hF];exact .nil
  | @cons _ d' v' ds vs F G r s _=>
   have h1:F=[]:=r.zero
   have h2:G=[]:=s.zero
   subst h1 h2
   cases i with
   | zero=>exact .cons (F:=[]) (G:=[]) rv s nM
   | succ j=>exact .cons (F:=[]) (G:=[]) r (af.vO rv j s) nM
abbrev ky:=aW->Option Int
def tQ (K:PySem.W.Frag)(f:ky):TE:=fun σ H Q=>∃ ρ w t i,Good K ρ σ H w t/\f ρ=some i/\Q (.int i) H
abbrev PQ (X:Cx)(e:Expr)(f:ky):Prop:=PE X e (tQ X.K f)
structure QQ (X:Cx) (e:Expr) (f:ky):Prop where mk::o:PQ X e f
@[simp] def sk (n:Nat):ky:=fun ρ=>match ρ[n]? with
 | some (some (.int i,_))=>some i
 | _=>none
@[simp] def nT (n:Nat)(f:ky):ky:=fun ρ=>match f ρ with
 | some i=>match ρ[n]? with
  | some (some (x,_))=>match dw x i with
   | some (.int j)=>some j
   | _=>none
  | _=>none
 | none=>none
section
variable {X:Cx}{a b c e:Expr}{es:List Expr}{fa fb fc f:aB}{qa qb:ky}{g:b_}{pos p p1 p2 ak apos:Pos}
def Gn(h:QE X (.Name x p1) (eR n)):QQ X (.Name x p1) (sk n):=⟨have h:=h.o;PE.imp h fun σ H Q ah=>by
 obtain⟨ρ,w,t,i,gd,ee,k⟩:=ah
 unfold sk at ee
 split at ee
 next j q e0=>
  cases ee
  obtain⟨v,F,h1,h2⟩:=gd.slot n _ _ e0
  rw[d7 h2]at h1
  exact⟨_,h1,k⟩
 ·cases ee⟩
def B7(h:QE X (.Name x p1) (eR n))(hb:QQ X b qb)(hs:pU b:=by exact fun _ _=>rfl):QQ X (.Subscript (.Name x p1) b pos) (nT n qb):=⟨have h:=h.o;have hb:=hb.o;PE.imp (tW tY h hb hs) fun σ H Q ah=>by
 obtain⟨ρ,w,t,i,gd,ee,k⟩:=ah
 unfold nT at ee
 split at ee
 next i0 h0=>
  split at ee
  next x q e0=>
   split at ee
   next j hj=>
    cases ee
    obtain⟨v,F,h1,h2⟩:=gd.slot n _ _ e0
    refine⟨v,h1,ρ,w,t,i0,gd,h0,?_⟩
    cases x with
    | lst ds=>
     obtain⟨p0,vs,q',G,rfl,hq,rs⟩:=h2.oN
     obtain⟨u,G',hu,ru,_⟩:=rs.Gj hj
     rw[d7 ru]at hu
     exact .inl ⟨p0,vs,i0,_,rfl,rfl,hq,hu,k⟩
    | tup ds=>
     obtain⟨p0,vs,rfl,hq,rs⟩:=h2.gZ
     obtain⟨u,hu,ru⟩:=rs.dF hj
     rw[d7 ru]at hu
     exact .inr (.inl ⟨p0,vs,i0,_,rfl,rfl,hq,hu,k⟩)
    | _=>cases hj
   ·cases ee
  ·cases ee
 ·cases ee⟩
@[simp] def vP (n:Nat)(qi qj:ky)(fe:aB):aN:=fun ρ=>match fe ρ with
 | some (d,_,ρ1)=>match qi ρ1,qj ρ1,ρ1[n]? with
  | some i,some j,some (some (.lst rows,2))=>match iP rows.length i with
   | some m=>match rows[m]? with
    | some (.lst row)=>match iP row.length j with
     | some k=>some (.nx (ρ1.set n (some (.lst (rows.set m (.lst (row.set k d))),2))))
     | none=>none
    | _=>none
   | none=>none
  | _,_,_=>none
 | none=>none
def P7(h:QE X (.Name x p1) (eR n))(ha:QQ X a qa)(hb:QQ X b qb)(he:QD X e f)(hi:pU a:=by exact fun _ _=>rfl)(B8:∀ v,assign (.Subscript (.Subscript (.Name x p1) a p2) b p) X.env v=(do
   let ov <- holding [v] (eval (.Subscript (.Name x p1) a p2) X.env)
   let iv <- holding [v,ov] (eval b X.env)
   standAt p
   holding [v,ov,iv] (setItem ov iv v)
   release [v,ov,iv] []):=by exact fun _=>rfl) (hs:swapsWithSole [.Subscript (.Subscript (.Name x p1) a p2) b p] e pos.line X.env=pure false:=by rfl):jA X (.Assign [.Subscript (.Subscript (.Name x p1) a p2) b p] e pos) (vP n qa qb f):=⟨have h:=h.o;have ha:=ha.o;have hb:=hb.o;have he:=he.o;by
 refine PS.imp (EG he (MB (tW tY h ha hi) hb Nk B8) hs) fun D σ H ⟨ρ,w,o,gd,ee,k⟩=>?_
 unfold vP at ee
 split at ee
 next d q0 ρ1 h1=>
  split at ee
  next i j rows hi hj er=>
   split at ee
   next m hm=>
    split at ee
    next row B9=>
     split at ee
     next kk hk=>
      cases ee
      refine⟨ρ,w,0,d,q0,ρ1,gd,h1,fun v H1 w1 F1 g1 aF r1=>?_⟩
      have rv:=r1.drop (o:=.f) (Qh 0)
      have gg:=g1.drop (t':=0)
      obtain⟨l,vs,b0,ws,m1,m2,m3,m4,m5,m6,mk⟩:=gg.B6 er B9
      refine⟨_,m1,ρ1,bG 0 w1,0,i,gg,hi,.inl ⟨l,vs,i,.ref b0,rfl,rfl,m2,?_,ρ1,bG 0 w1,0,j,gg,hj,b0,ws,j,kk,rfl,rfl,m5,?_,?_⟩⟩
      ·unfold dF;rw[m3,hm];exact m4
      ·rw[<- m6.length];exact hk
      ·obtain⟨n1,n2⟩:=mk _ _ (m6.vO rv kk)
       exact k _ _ _ rfl n1 ((aF.drop gd.wt).trans n2)
     ·cases ee
    ·cases ee
   ·cases ee
  ·cases ee
 ·cases ee⟩
end
@[simp] def y9 (fa fb:aB):aB:=fun ρ=>match fa ρ with
 | some (.bl b,_,ρ1)=>if b=true then fb ρ1 else some (.bl false,9,ρ1)
 | _=>none
@[simp] def B_ (fa:aB):aB:=fun ρ=>match fa ρ with
 | some (.bl b,_,ρ1)=>some (.bl (!b),9,ρ1)
 | _=>none
section
variable {X:Cx}{a b c e:Expr}{es bh:List Expr}{fa fb fc f:aB}{g:b_}{pos p p1 p2 ak apos:Pos}
def Gp{op}(h:QD X a fa):QD X (.BoolOp op [a] pos) fa:=⟨have h:=h.o;Mb h⟩
def Gq(ha:QD X a fa)(hb:QD X (.BoolOp .And (b::bh) pos) fb):QD X (.BoolOp .And (a::b::bh) pos) (y9 fa fb):=⟨have ha:=ha.o;have hb:=hb.o;PE.imp (Mc ha hb) fun σ H Q ah=>by
 obtain⟨ρ,w,t,r',q,ρ',gd,ee,k⟩:=ah
 unfold y9 at ee
 split at ee
 next b' q1 ρ1 h1=>
  refine⟨ρ,w,t,_,_,_,gd,h1,fun v H1 w1 F1 g1 aF r1=>?_⟩
  cases r1
  refine⟨b',rfl,?_⟩
  split at ee
  ·rename_i hb;rw[Qf hb]
   exact⟨ρ1,bG t w1,t,r',q,ρ',g1.drop,ee,fun v H2 w2 F g2 bj=>k v H2 w2 F g2 ((aF.drop gd.wt).trans bj)⟩
  ·rename_i hb;rw[Qi hb]
   cases ee
   exact k _ H1 w1 [] g1 aF (.bl false)
 ·cases ee⟩
def P8(ha:QD X a fa):QD X (.UnaryOp .Not a pos) (B_ fa):=⟨have ha:=ha.o;PE.imp (Md ha) fun σ H Q ah=>by
 obtain⟨ρ,w,t,r',q,ρ',gd,ee,k⟩:=ah
 unfold B_ at ee
 split at ee
 next b' q1 ρ1 h1=>
  cases ee
  refine⟨ρ,w,t,_,_,_,gd,h1,fun v H1 w1 F1 g1 aF r1=>?_⟩
  cases r1
  exact⟨b',rfl,k _ H1 w1 [] g1 aF (.bl _)⟩
 ·cases ee⟩
end
section
variable {es bh:List Expr}{a b c e:Expr}{pos:Pos}{env:Env}
def eZ{op}:starEach (.BinOp a op b pos::bh) env=(false,eval (.BinOp a op b pos) env)::starEach bh env:=by simp only[starEach]
def P9:starEach (.IfExp a b c pos::bh) env=(false,eval (.IfExp a b c pos) env)::starEach bh env:=by simp only[starEach]
def Ca{g sc}:starEach (.ListComp a g sc pos::bh) env=(false,eval (.ListComp a g sc pos) env)::starEach bh env:=by simp only[starEach]
def bO{k}:starEach (.Call a es k pos::bh) env=(false,eval (.Call a es k pos) env)::starEach bh env:=by simp only[starEach]
def jb{v k}:starEach (.Constant v k pos::bh) env=(false,eval (.Constant v k pos) env)::starEach bh env:=by simp only[starEach]
def dy:starEach (.Subscript a b pos::bh) env=(false,eval (.Subscript a b pos) env)::starEach bh env:=by simp only[starEach]
def d_{x}:starEach (.Name x pos::bh) env=(false,eval (.Name x pos) env)::starEach bh env:=by simp only[starEach]
def uf:starEach (.List es pos::bh) env=(false,eval (.List es pos) env)::starEach bh env:=by simp only[starEach]
def Cb{k}:starEach (.Tuple es k pos::bh) env=(false,eval (.Tuple es k pos) env)::starEach bh env:=by simp only[starEach]
end
def At (K:PySem.W.Frag)(mg:Str->Option Value)(x:Str)(st:Stmt)(ps:List Str):Prop:=
 ∃ f fd,mr K x x st f fd/\mg x=some (.ref f)/\oy K fd ps []
def aI (P:Program)(w:World)(K:PySem.W.Frag)(mg:Str->Option Value)(base:Heap)(k:Nat)(x:Str)(n:Nat)(F:List D->OD):Prop:=
 ∃ f fd ps,dS P w K mg base jx k f fd ps (k6 K n F)/\mg x=some (.ref f)/\PySem.W.keepIn K (.ref f)=true/\oy K fd ps []
theorem aI.mk{w:World}{k:Nat}(a:At K mg x st ps)(S:aj N ps (bD st))
  (h:∀ (f:Addr) (bS:Value) (A:Around) (outer:List Env) (s:Shared) (H:Hp) (E:XK),aS k (A.deeper (envOfC x (bD st) s.heap.objs.size f bS))->yV (lO jx P w K mg base N x (bD st) f bS A outer s H E).iW (jw st) body) :
  aI P w K mg base (k+1) x ps.length (cM N.length body):=by
 obtain⟨f,fd,F,m,b⟩:=a
 exact⟨f,fd,ps,FP F S (h f),m,F.kp,b⟩
section
variable {X:Cx}{a b c e:Expr}{es bh:List Expr}{fa fb fc f:aB}{g:b_}{pos p p1 p2 ak apos:Pos}
def bo{k:Nat}{F:List D->OD}(C:aI X.prog X.w X.K X.mg X.base k x n F)(hr:aS j X.A)(hk:k<=j)(ha:f9 X (e::es) g)(hg:Gl X x:=by rfl)(gU:(x==("__debug__":Str))=false:=by decide)(he:starEach (e::es) X.env=(false,eval e X.env)::starEach es X.env:=by rfl)(cu:(backTo pos (starEach es X.env)).any (·.1)=false:=by rfl):QD X (.Call (.Name x p) (e::es) [] pos) (aE F n g):=⟨have ha:=ha.o;by
 obtain⟨f,fd,ps,G,hm,sr,hb⟩:=C
 exact O3 G (hr.mono hk) hm sr hb Bg ha hg gU he cu⟩
end
def TB.only(h:Bd H)(hn:∀ x∈t6,PySem.W.tabIn K x=none):TB K H:=by
 refine⟨fun P ps e=>?_,fun P ps e=>?_,fun x hx c P e=>by rw[hn x hx]at e;cases e⟩<;>rcases h P with z|⟨o,xs,z⟩<;>rw[e]at z<;>cases z
def P_{F:List D->OD}(h:∀ ns:List Int,ns.length<=63->∃ q,F [.lst (ns.map D.int)]=some (.bl true,q)){a:Addr}{ns:List Int}(hl:ns.length<=63)(hS:cE K H a (ns.map V.int))(tb:TB K H){E:XK} :
  k6 K 1 F [.ref a] H (fun v _=>v=.bl true) E:=by
 obtain⟨q,e⟩:=h ns hl
 have r:Rep K H (fun _=>none) .f 0 (.lst (ns.map D.int)) (.ref a) []:=by
  rcases cE.cases hS with z|z
  ·exact .shr z rfl (yX ns)
  ·exact .kl z (yX ns)
 exact⟨rfl,[.lst (ns.map D.int)],fun _=>none,.bl true,q,(fun a o z=>nomatch z),⟨(fun a o z=>nomatch z),tb⟩,.cons (F:=[]) (G:=[]) r .nil nM,e,fun v H' w' Fo _ _ rr=>by cases rr;rfl⟩
def Q_{w:World}{k:Nat}{f:Addr}{fd:FuncData}(F:mr K x x st f fd)(S:aj N ps (bD st))
  (h:∀ (f:Addr) (bS:Value) (A:Around) (outer:List Env) (s:Shared) (H:Hp) (E:XK),aS k (A.deeper (envOfC x (bD st) s.heap.objs.size f bS))->yV (lO jx P w K mg base N x (bD st) f bS A outer s H E).iW (jw st) body) :
  dS P w K mg base jx (k+1) f fd ps (k6 K ps.length (cM N.length body)):=FP F S (h f)
section
variable {prog:Program}{w:World}{A:Around}{E:Value->Shared->Prop}{s:Shared}
def Ra{j:Addr}{vs:Array Value}{v:Value}(a:s.heap.IsTupleIter j p n)(b:s.heap.IsTuple p vs)(c:vs[n]? = some v)
  (k:∀ g:Heap,g.IsTupleIter j p (n+1)->Heap.SameBut j s.heap g->Q v { s with heap:=g }):wpAny (model prog w) A (Builtin.SmallTypes.nextOf (.ref j)) Q E s:=by
 obtain⟨oj,ej,kj,dj⟩:=id a
 obtain⟨op,ep,_,mp,dp⟩:=b
 unfold Builtin.SmallTypes.nextOf
 refine Qa (ZE (name:=Str.ofString "__next__") a.typeIs Jc (Zr Jc a.typeIs YX ?_ (YK _)))
 show wpAny _ _ (field (.ref j) 0 >>= _) _ _ s
 refine Qa (VZ ej dj (x:=.ref p) rfl ?_)
 show wpAny _ _ (if(Value.ref p==Value.none)=true then _ else _) _ _ s
 rw[Qi (show ¬ ((Value.ref p==Value.none)=true)from Zd)]
 show wpAny _ _ (field (.ref j) 1 >>= _) _ _ s
 refine Qa (VZ ej dj (x:=.int n 0) rfl ?_)
 show wpAny _ _ (seqItems? (.ref p) >>= _) _ _ s
 refine Qa (Y6 ep dp ?_)
 simp only[Yl,c]
 refine Qa (Y7 ej dj (by simp) (Qd ⟨v,rfl,Qd (k _ ⟨_,Zt _ ej (Obj.isFreed_of_fields (Ye dj _)),(Obj.cls_mapFields ..).trans kj,?_⟩ (QZ ..))⟩))
 rw[Ye dj]
 simp[rawInt]
def Rb{j:Addr}{vs:Array Value}{Q:Value->Shared->Prop}(hh:A.handled=none)(a:s.heap.IsTupleIter j p n)(b:s.heap.IsTuple p vs)(c:vs[n]? = none)
  (k:∀ (g:Heap) x,Heap.ExtBut j s.heap g->(∃ o,g.get? x=some o/\o.cls=.type "StopIteration")->E (.ref x) { s with heap:=g }):wpAny (model prog w) A (Builtin.SmallTypes.nextOf (.ref j)) Q E s:=by
 obtain⟨oj,ej,kj,dj⟩:=id a
 obtain⟨op,ep,_,mp,dp⟩:=b
 unfold Builtin.SmallTypes.nextOf
 refine Qa (ZE (name:=Str.ofString "__next__") a.typeIs Jc (Zr Jc a.typeIs YX ?_ (YK _)))
 show wpAny _ _ (field (.ref j) 0 >>= _) _ _ s
 refine Qa (VZ ej dj (x:=.ref p) rfl ?_)
 show wpAny _ _ (if(Value.ref p==Value.none)=true then _ else _) _ _ s
 rw[Qi (show ¬ ((Value.ref p==Value.none)=true)from Zd)]
 show wpAny _ _ (field (.ref j) 1 >>= _) _ _ s
 refine Qa (VZ ej dj (x:=.int n 0) rfl ?_)
 show wpAny _ _ (seqItems? (.ref p) >>= _) _ _ s
 refine Qa (Y6 ep dp ?_)
 simp only[Yl,c]
 refine Qa (Y2 (Qa (Y7 ej dj (by simp) ?_)))
 show wpAny _ _ (newExc (.type "StopIteration") [] >>= _) _ _ _;refine Qa ?_;simp only[newExc,newTuple]
 refine Qa (Zo ?_ (by size_fits));refine Qa (m:=firstArgMember _ _) (V0 (a:=Value.none) (by first|rfl|(simp only[firstArgMember];rfl)) (Zo ?_ (by size_fits)))
 simp only[raiseNew]
 refine Qa (wpAny_handled ?_);first|rw[show A.in1.handled=none from hh]|rw[hh]
 exact Qa (Qd (wpAny_throw (k _ _ (((QZ ..).extBut.push _).push _) ⟨_,Qv _ rfl,rfl⟩)))
end
def Rc{pins:List (Addr×Obj)}{s:Shared}{h':Heap}{t':Nat}{ch:List Addr}(I:Inv X pins σ H s)(k:∀ b o,b ∉ ch->s.heap.get? b=some o->h'.get? b=some o)(hf:∀ b∈ch,mf X pins H b) :
  Inv X pins σ H { s with heap:=h',toks:=t' }:=by
 have u6:∀ b u,H b=some u->b ∉ ch:=fun b u e z=>by rw[(hf b z).1]at e;cases e
 refine I.step (g':=s.gens) (d':=s.drawn) (ch:=ch) (fun b hb=>?_) (fun b o _ _ hc e _=>k b o hc e) (fun b o _ _ hc e _=>⟨o.slots,k b o hc e⟩) (fun _ _ _ _ n=>n)
  (fun b o hc e=>⟨o,k b o hc e⟩) (fun _ _ e=>e) (fun _ _ _ e=>e) (fun b ps e=>⟨#[],by rw[e];simp⟩) (fun m hm=>?_) (fun b u e=>?_) I.bare
 ·obtain⟨f0,f1,f2,f3,f4,f5⟩:=hf b hb
  exact⟨f3,f1,f4,f5⟩
 ·obtain⟨o,es,ep,ho,r⟩:=hm
  exact⟨o,es,ep,k _ o (fun z=>(hf _ z).2.1 rfl) ho,r⟩
 ·refine(I.az b u e).fS (fun c v hc q=>k c v ?_ q) (fun _ q=>q) fun _ _ q=>q
  rcases hc with z|z
  ·rw[z];exact u6 b u e
  ·exact u6 c _ z
section
variable {X:Cx}{a b c e:Expr}{es elts:List Expr}{fa fb fc f:aB}{g:b_}{pos p p1 p2 tp:Pos}{kt:Nat}
@[simp] def j7l (g:b_):jB:=fun ρ=>match g ρ with
 | some ([.tup ds,.tup es],ρ1)=>if ds.length<=1000 then some ((ds.zip es).map fun x=>.tup [x.1,x.2],ρ1)else none
 | _=>none
end
abbrev oV:=List D->aW->Option aW
def Rf (K:PySem.W.Frag)(b:Nat)(pt:oV):oq:=fun vs σ H Q=>∃ ds ρ w t ρ',Good K ρ σ H w t/\af K H w .f 0 ds vs []/\pt ds ρ=some ρ'/\∀ aM H' w',aM.length=σ.length->(∀ i,i<b->aM[i]? = σ[i]?)->Good K ρ' aM H' w' t->Go H w H' w'->Q aM H'
def nK.imp{tg:List Expr}{t t':oq}(h:nK X tg t)(i:∀ v σ H Q,t' v σ H Q->t v σ H Q):nK X tg t':=fun pins s σ H v u Q I r q=>h pins s σ H v u Q I r (i v σ H Q q)
abbrev Rg (X:Cx)(b:Nat)(tg:List Expr)(pt:oV):Prop:=nK X tg (Rf X.K b pt)
structure oW (X:Cx) (b:Nat) (e:List Expr) (f:oV):Prop where mk::o:Rg X b e f
@[simp] def jD:oV:=fun ds ρ=>match ds with
 | []=>some ρ
 | _=>none
@[simp] def cR (pt:eV)(ps:oV):oV:=fun ds ρ=>match ds with
 | []=>none
 | d::r=>match pt d ρ with
  | some ρ1=>ps r ρ1
  | none=>none
@[simp] def kz (ps:oV):eV:=fun d ρ=>match d with
 | .tup ds=>ps ds ρ
 | _=>none
section
variable {X:Cx}{k b:Nat}{e:Expr}{es:List Expr}{pt:eV}{ps:oV}{pos:Pos}
def vQ:oW X b [] jD:=⟨nK.imp Mv fun v σ H Q ah=>by
 obtain⟨ds,ρ,w,t,ρ',g,r,e,k⟩:=ah
 unfold jD at e
 split at e
 ·cases e
  generalize hF:([]:List Addr)=F at r
  cases r
  exact⟨rfl,k σ H w rfl (fun _ _=>rfl) g Go.refl⟩
 ·cases e⟩
def lT(h1:qh X b e pt)(h2:oW X b es ps)(hs:(assignEach (e::es) X.env).map (·.2)=assign e X.env::(assignEach es X.env).map (·.2):=by rfl):oW X b (e::es) (cR pt ps):=⟨have h1:=h1.o;have h2:=h2.o;nK.imp (Mw h1 h2 hs) fun v σ H Q ah=>by
 obtain⟨ds,ρ,w,t,ρ',g,r,e,k⟩:=ah
 unfold cR at e
 split at e
 ·cases e
 next d bh=>
  split at e
  next ρ1 h1=>
   generalize hF:([]:List Addr)=F at r
   cases r with
   | cons ra rb _=>
    have z1:=ra.zero
    have z2:=rb.zero
    subst z1 z2
    refine⟨_,_,rfl,d,ρ,w,t,ρ1,g,ra,h1,fun rp H1 w1 l1 s1 g1 aF=>⟨bh,ρ1,w1,t,ρ',g1,rb.oR g.wl aF.bA,e,fun jK H2 w2 l2 s2 g2 bj=>k jK H2 w2 (l2.trans l1) (fun i hi=>(s2 i hi).trans (s1 i hi)) g2 (aF.trans bj)⟩⟩
  ·cases e⟩
def vR(hc:X.calm=true)(h:oW X b es ps)(hl:∀ ds ρ ρ',ps ds ρ=some ρ'->ds.length=n)(hn:(assignEach es X.env).length=n:=by rfl)(dZ:(assignEach es X.env).findIdx? (·.1)=none:=by rfl):qh X b (.Tuple es k pos) (kz ps):=⟨have h:=h.o;PG.imp (Mz hc h hn dZ) fun v σ H Q ah=>by
 obtain⟨d,ρ,w,t,ρ',g,r,e,k⟩:=ah
 unfold kz at e
 split at e
 next ds=>
  obtain⟨a,vs,rfl,hq,rs⟩:=r.gZ
  exact⟨a,vs,rfl,hq,by rw[<- rs.length];exact hl _ _ _ e,ds,ρ,w,t,ρ',g,rs,e,k⟩
 ·cases e⟩
def Cc{p q:eV}:∀ ds ρ ρ',cR p (cR q jD) ds ρ=some ρ'->ds.length=2:=fun ds ρ ρ' h=>by
 match ds with
 | []=>cases h
 | [_]=>unfold cR at h;simp at h;split at h<;>cases h
 | [_,_]=>rfl
 | _::_::_::_=>
  exfalso
  unfold cR at h
  simp at h
  split at h
  ·split at h<;>cases h
  ·cases h
end
inductive IT where
 | int|bool|tuple|list|str
def IT.nm:IT->String
 | .int=>"int"
 | .bool=>"bool"
 | .tuple=>"tuple"
 | .list=>"list"
 | .str=>"str"
def nU:IT->D->Bool
 | .int,.int _=>true
 | .int,.bl _=>true
 | .bool,.bl _=>true
 | .tuple,.tup _=>true
 | .list,.lst _=>true
 | .str,.str _=>true
 | _,_=>false
def Gr:D->String
 | .aK=>"NoneType"
 | .bl _=>"bool"
 | .int _=>"int"
 | .str _=>"str"
 | .tup _=>"tuple"
 | .gr _ _=>"dict"
 | .exc _=>"object"
 | .ob _ _ _ _=>"function"
 | .mp _ _=>"dict"
 | .lst _=>"list"
section
variable {X:Cx}{pins:List (Addr×Obj)}{σ:St}{H:Hp}{s:Shared}
theorem Rh{x:V}{c:Value}{b:Bool}{A:Around}{E:Value->Shared->Prop}(I:Inv X pins σ H s)(rx:bC x u)(r:Rep X.K H w o q d x F)
  (e:PySem.W.kitOne X.K (.type (Gr d)) c=some b) (hx:∀ nm,d ≠ .exc nm) (hi:∀ C fs ds,d ≠ .mp (.i C fs) ds) (h:∀ tk,Q (.bool b) { s with toks:=tk }):wpAny (model X.prog X.w) A (call (.builtin "isinstance") [u,c]) Q E s:=by
 cases r with
 | exc _ _ _=>exact absurd rfl (hx _)
 | ob h1 h2 x r=>
  cases rx
  obtain⟨e1,_⟩:=(show cU X.prog X.w H s.heap _ (.eE _ _)from I.az _ _ h1)
  exact Zl OU I.fi ⟨_,e1,x.1⟩ e (fun z=>nomatch z) h
 | aK=>exact jN I rx .aK e h
 | bl y=>exact jN I rx (.bl y) e h
 | int i=>exact jN I rx (.int i) e h
 | str y=>exact jN I rx (.str y) e h
 | tup ha _=>exact jN I rx (.tup ha) e h
 | gr ha _ _=>exact jN I rx (.dK ha) e h
 | kl ha _=>
  obtain⟨ob,aq,n,hk,hc,hd,_⟩:=ha
  cases rx
  exact Zl Vg I.fi ⟨ob,I.fi _ _ hk,hc⟩ e (fun z=>nomatch z) h
 | shr ha _ _=>
  rcases ha with ha|⟨ob,ha⟩
  ·exact jN I rx (.lst ha) e h
  ·exact jN I rx (.eE ha) e h
 | own ha _ _ _=>exact jN I rx (.lst ha) e h
 | @nO a vs ds k y ha i _ _ _=>
  cases k with
  | t ks=>cases i;exact jN I rx (.dT ha) e h
  | k ks=>cases i;exact jN I rx (.dK ha) e h
  | i C fs=>exact absurd rfl (hi _ _ _)
 | @kW q a vs ds k y ha i _ _ _=>
  cases k with
  | t ks=>cases i;exact jN I rx (.dT ha) e h
  | k ks=>cases i;exact jN I rx (.dK ha) e h
  | i C fs=>exact absurd rfl (hi _ _ _)
theorem Ri{C:Addr}{fs:List Str}{x:V}{A:Around}{E:Value->Shared->Prop}(I:Inv X pins σ H s)(rx:bC x u)(r:Rep X.K H w o q (.mp (.i C fs) ds) x F)
  (T:IT) (h:∀ tk,Q (.bool false) { s with toks:=tk }):wpAny (model X.prog X.w) A (call (.builtin "isinstance") [u,.type T.nm]) Q E s:=by
 cases r with
 | nO ha i _ _ _=>
  obtain⟨dx,rfl,c⟩:=i
  exact jN I rx (.ins ha c.cl c.ha c.hn c.u_ c.hm) (c.no _ (by cases T<;>simp[IT.nm])) h
 | kW ha i _ _ _=>
  obtain⟨dx,rfl,c⟩:=i
  exact jN I rx (.ins ha c.cl c.ha c.hn c.u_ c.hm) (c.no _ (by cases T<;>simp[IT.nm])) h
def Rj(T:IT)(d:D)(hx:∀ nm,d ≠ .exc nm):PySem.W.kitOne K (.type (Gr d)) (.type T.nm)=some (nU T d):=by
 cases T<;>cases d<;>first|rfl|exact absurd rfl (hx _)
end
section
variable {X:Cx}{a b c e:Expr}{es:List Expr}{fa fb fc f:aB}{ga gb:cF}{g:b_}{pos p p1 p2 pT:Pos}
def Rk(T:IT):jM X (.builtin "isinstance") (fun xs H Q=>∃ x w o q F d,xs=[x,.ty T.nm]/\Rep X.K H w o q d x F/\Q (.bl (nU T d)) H):=by
 intro pins s σ H xs us Q I r h
 obtain⟨x,w,o,q,F,d,rfl,rd,hq⟩:=h
 obtain⟨u,v,rfl,ru,rv⟩:=yj r
 cases rv
 by_cases hx:∃ nm,d=.exc nm
 ·obtain⟨nm,rfl⟩:=hx
  cases rd with
  | exc ha xo _=>
   obtain⟨C,hc,k⟩:=xo
   cases ru
   obtain⟨e1,_⟩:=(show cU X.prog X.w H s.heap _ (.eE _ _)from I.az _ _ ha)
   have hT:nU T (.exc nm)=false:=by cases T<;>rfl
   rw[hT]at hq
   refine OM (x:=_) I.fi ⟨e1,hc⟩ k.xc (by cases T<;>kernel_rfl) (k.no _ (by cases T<;>simp[IT.nm])) ⟨.bl false,H,I.tok _,rfl,hq⟩
 ·by_cases hi:∃ C fs ds,d=.mp (.i C fs) ds
  ·obtain⟨C,fs,ds,rfl⟩:=hi
   exact Ri I ru rd T fun tk=>⟨.bl (nU T (.mp (.i C fs) ds)),H,I.tok _,by cases T<;>rfl,hq⟩
  ·exact Rh I ru rd (Rj T d fun nm z=>hx ⟨nm,z⟩) (fun nm z=>hx ⟨nm,z⟩) (fun C fs ds z=>hi ⟨C,fs,ds,z⟩) fun tk=>⟨.bl (nU T d),H,I.tok _,rfl,hq⟩
@[simp] def ug (T:IT)(fa:aB):aB:=fun ρ=>match fa ρ with
 | some (d,_,ρ1)=>some (.bl (nU T d),9,ρ1)
 | none=>none
def y_(T:IT){t:Str}(hm:X.mg "isinstance" = none)(Cd:X.mg t=none)(Rl:bootBuiltins t=some (.type T.nm))(ha:QD X a fa)(hg:Gl X "isinstance":=by rfl)(vS:Gl X t:=by rfl)(Rm:t ≠ "__name__":=by decide)(Ce:(t==("__debug__":Str))=false:=by decide)(hs:starEach [a,.Name t pT] X.env=(false,eval a X.env)::starEach [.Name t pT] X.env:=by rfl)(cu:(backTo pos (starEach [.Name t pT] X.env)).any (·.1)=false:=by rfl):QD X (.Call (.Name "isinstance" p) [a,.Name t pT] [] pos) (ug T fa):=⟨have ha:=ha.o;PE.imp (oz (Rk T) hg hm JF (gp ha (gp (EA (v:=.ty T.nm) vS Cd Rl rfl Rm Ce) jO d_) hs) (by decide) (by decide) hs cu) fun σ H Q ah=>by
 obtain⟨ρ,w,t,r',q,ρ',gd,ee,k⟩:=ah
 unfold ug at ee
 split at ee
 next d q1 ρ1 h1=>
  cases ee
  refine⟨ρ,w,t,_,_,_,gd,h1,fun v H1 w1 F1 g1 aF r1=>?_⟩
  exact⟨v,w1,_,_,F1,d,rfl,r1,k _ H1 (bG t w1) [] g1.drop.up (aF.drop gd.wt) (.bl _)⟩
 ·cases ee⟩
@[simp] def nV (g1 g2:D->D->Option D)(fa fb fc:aB):aB:=fun ρ=>match fa ρ with
 | some (x,_,ρ1)=>match fb ρ1 with
  | some (y,_,ρ2)=>match g1 x y with
   | some (.bl true)=>match fc ρ2 with
    | some (z,_,eY)=>match g2 y z with
     | some d=>some (d,9,eY)
     | none=>none
    | none=>none
   | some (.bl false)=>some (.bl false,9,ρ2)
   | _=>none
  | none=>none
 | none=>none
def Rn(ho:dC X (compareOp op) (kc h1))(fJ:dC X (compareOp kP) (kc h2))(e1:∀ i j d,g1 i j=some d->k4 d=some (h1 i j))(jW:∀ i j d,g2 i j=some d->k4 d=some (h2 i j))
  (ha:PD X a fa) (hb:PD X b fb) (hc:PD X c fc) (hm:lastMarks [op,kP] [b,c]=false:=by with_unfolding_all rfl):PD X (.Compare a [op,kP] [b,c] pos) (nV (gI g1) (gI g2) fa fb fc):=PE.imp (MW ho fJ ha hb hc hm) fun σ H Q ah=>by
 obtain⟨ρ,w,t,r',q,ρ',gd,ee,k⟩:=ah
 unfold nV at ee
 split at ee
 next x q1 ρ1 a1=>
  split at ee
  next y q2 ρ2 a2=>
   refine rU gd a1 a2 fun u v H2 w2 F1 F2 vT bj r1 r2=>?_
   have gg:=vT.drop (t':=t)
   split at ee
   next hg=>
    obtain⟨i,j,rfl,rfl,la⟩:=qc hg
    refine⟨i,j,d7 r1,d7 r2,true,by have:=e1 i j _ la;simpa [k4]using this.symm,?_⟩
    rw[Qf rfl]
    split at ee
    next z q3 eY a3=>
     refine⟨ρ2,bG t w2,t,z,q3,eY,gg,a3,fun v3 H3 w3 F3 g3 jT r3=>?_⟩
     split at ee
     next d hd=>
      cases ee
      obtain⟨j',l,ej,rfl,ic⟩:=qc hd
      cases ej
      exact⟨j,l,d7 r2,d7 r3,kZ k gd g3 ((bj.drop gd.wt).trans jT) (yP (jW j l _ ic))⟩
     ·cases ee
    ·cases ee
   next hg=>
    obtain⟨i,j,rfl,rfl,la⟩:=qc hg
    cases ee
    refine⟨i,j,d7 r1,d7 r2,false,by have:=e1 i j _ la;simpa [k4]using this.symm,?_⟩
    rw[Qi (by decide)]
    exact kZ k gd vT bj (.bl false)
   ·cases ee
  ·cases ee
 ·cases ee
def Ro(ha:QD X a fa)(hb:QD X b fb)(hc:QD X c fc)(hm:lastMarks [.LtE,.Lt] [b,c]=false:=by with_unfolding_all rfl):QD X (.Compare a [.LtE,.Lt] [b,c] pos) (nV vA ki fa fb fc):=⟨have ha:=ha.o;have hb:=hb.o;have hc:=hc.o;Rn EO AN (fun i j d h=>by cases h;rfl) (fun i j d h=>by cases h;rfl) ha hb hc hm⟩
end
section
variable {X:Cx}{k b n:Nat}{a c e tg:Expr}{es:List Expr}{pt:eV}{ps:oV}{pos:Pos}{fa fb f:aB}
def Gs{p q r:eV}:∀ ds ρ ρ',cR p (cR q (cR r jD)) ds ρ=some ρ'->ds.length=3:=fun ds ρ ρ' h=>by
 match ds with
 | []=>cases h
 | [_]=>unfold cR at h;simp at h;split at h<;>cases h
 | [_,_]=>unfold cR at h;simp at h;split at h;(split at h<;>cases h);cases h
 | [_,_,_]=>rfl
 | _::_::_::_::_=>
  exfalso
  unfold cR at h
  simp at h
  split at h
  ·split at h
   ·split at h<;>cases h
   ·cases h
  ·cases h
@[simp] def vU (f:aB)(pt:eV):aN:=fun ρ=>match f ρ with
 | some (d,_,ρ1)=>match pt d ρ1 with
  | some ρ2=>some (.nx ρ2)
  | none=>none
 | none=>none
def Rp(he:QD X e f)(hg:qh X 0 tg pt)(hs:swapsWithSole [tg] e pos.line X.env=pure false:=by rfl)(hw:swappedStores [tg] e X.env=pure none:=by rfl)(h1:(assignEach [tg] X.env).map (·.2)=[assign tg X.env]:=by rfl):jA X (.Assign [tg] e pos) (vU f pt):=⟨have he:=he.o;have hg:=hg.o;PS.imp (EG he hg hs hw h1) fun D σ H ah=>by
 obtain⟨ρ,w,o,g,ee,k⟩:=ah
 unfold vU at ee
 split at ee
 next d q ρ1 h1=>
  split at ee
  next ρ2 h2=>
   cases ee
   refine⟨ρ,w,0,d,q,ρ1,g,h1,fun v H1 w1 F1 g1 aF r1=>?_⟩
   exact⟨d,ρ1,bG 0 w1,0,ρ2,g1.drop,r1.drop (Qh 0),h2,fun aM H' w' hl _ g' fU=>k aM H' w' hl g' ((aF.drop g.wt).trans fU)⟩
  ·cases ee
 ·cases ee⟩
end
theorem Rq:fillsNumberSlot (.type "tuple") "mul" = pure false:=PySem.fillsNumberSlot_seq (id:="tuple.__mul__") (r:=some (.builtin "tuple.__rmul__")) Yw.lookup (by decide +kernel) F.slot_tuple_rmul.lookup (by decide +kernel)
theorem Rr:seqRepeat? (.type "tuple")=pure (some (.builtin "tuple.__mul__")):=by
 unfold seqRepeat?
 rw[PySem.seqSlot_of (T:="tuple") (name:="__mul__") (id:="tuple.__mul__") Yw.lookup (by decide +kernel),PySem.seqSlot_of (T:="tuple") (name:="__rmul__") (id:="tuple.__rmul__") F.slot_tuple_rmul.lookup (by decide +kernel)];rfl
def Rt(a:Int)(t:Tok)(l:Addr)(us:Array Value)(n:Nat)(dd:Option Addr)(sl:Array (Option Value)) :
  Meets (Builtin.«int.__rmul__» ⟨[.int a t,.ref l],[]⟩) (fun _ R s=>s.heap.get? l=some { cls:=.type "tuple",dict:=dd,data:=.seq us n,slots:=sl }/\R (.ok (.ret Value.notImplemented)) s):=.of_wp fun prog w A R s h=>by
 obtain⟨hp,g,d,tk,os⟩:=s
 obtain⟨hl,h⟩:=h
 wp_walk
 exact⟨_,rfl,h⟩
def Ru(t:Tok)(l:Addr)(us:Array Value)(n:Nat)(dd:Option Addr)(sl:Array (Option Value)) :
  Meets (Builtin.«tuple.__mul__» ⟨[.ref l,.int 1 t],[]⟩) (fun _ R s=>s.heap.get? l=some { cls:=.type "tuple",dict:=dd,data:=.seq us n,slots:=sl }/\R (.ok (.ret (.ref l))) s):=.of_wp fun prog w A R s h=>by
 obtain⟨hp,g,d,tk,os⟩:=s
 obtain⟨hl,h⟩:=h
 have f1:=AutoSeq1.idx_int
 wp_walk using wpAny_loadPart' hl
 exact⟨_,rfl,h⟩
def Rv(k:Int)(t:Tok)(l:Addr)(us:Array Value)(n:Nat)(dd:Option Addr)(sl:Array (Option Value))(h2:¬ (decide (k < -(2 ^ 63))||decide (k ≥ 2 ^ 63))=true)(h3:¬ (us.isEmpty||k==1)=true)(h4:¬ (decide (k<=0)||us.isEmpty)=true)(h5:¬ (us.size:Int)*k > (2 ^ 63-1) / 8)(h6:¬ Builtin.Tuple.tupleTooMany ((us.size:Int)*k)=true)(hsz:(List.foldl (· ++ ·) #[] (List.replicate k.toNat us)).size<=sizeLine) :
  Meets (Builtin.«tuple.__mul__» ⟨[.ref l,.int k t],[]⟩) (fun _ R s=>s.heap.get? l=some { cls:=.type "tuple",dict:=dd,data:=.seq us n,slots:=sl }/\R (.ok (.ret (.ref s.heap.objs.size))) { s with heap:=s.heap.push { cls:=.type "tuple",data:=.seq (List.foldl (· ++ ·) #[] (List.replicate k.toNat us)) } }):=.of_wp fun prog w A R s h=>by
 obtain⟨hp,g,d,tk,os⟩:=s
 obtain⟨hl,h⟩:=h
 have f1:=AutoSeq1.idx_int
 wp_walk using wpAny_loadPart' hl
 rw[Qi h2]
 wp_walk using wpAny_loadPart' hl
 rw[Qi h5]
 wp_walk using wpAny_loadPart' hl
 exact⟨_,rfl,h⟩
section
variable {X:Cx}{a b c e:Expr}{fa fb fc f:aB}{pos:Pos}
theorem Rw:dC X (binaryOp .Mult) (fun x y H Q=>∃ a k xs,x=.ref a/\y=.int k/\du X.K H a xs/\xs ≠ []/\1<=k/\xs.length*k.toNat<=1000/\(k=1->Q (.ref a) H)/\(k≠1->∀ p,H p=none->Q (.ref p) (upd H p (.tup (List.replicate k.toNat xs).flatten)))):=by
 intro pins s σ H x y v u Q I rx ry h
 obtain⟨l,k,xs,rfl,rfl,hq,bK,h1,hz,q1,q2⟩:=h
 cases rx
 obtain⟨t,rfl⟩:=ry
 obtain⟨aq,r,pt,_⟩:=I.tuple hq
 obtain⟨⟨c1,d1,a1,s1⟩,e,mH,n1,Gu⟩:=id pt
 simp only at mH Gu
 subst mH Gu
 have hl:=r.length
 have mO:0<aq.length:=by rw[<- hl];exact ZO.mpr bK
 refine Vd (T:="tuple") (U:="int") (by decide) ⟨_,e,rfl⟩ (fun s'=>VF s' k t) Rq F.fills_int_mul YH Rr F.slot_int_index.lookup
  (Jo YH (VF s k t) F.entry_int_rmul (F.args_int_rmul_2 _ _) (Rt k t l aq.toArray n1 d1 s1) ⟨e,rfl,⟨_,e,rfl⟩,?_⟩)
 by_cases hk:k=1
 ·subst hk
  exact Jo Yw ⟨_,e,rfl⟩ F.entry_tuple_mul (F.args_tuple_mul_2 _ _) (Ru t l aq.toArray n1 d1 s1) ⟨e,⟨.ref l,H,I,rfl,q1 rfl⟩⟩
 ·have hm:aq.length*k.toNat<=1000:=by rw[<- hl];exact hz
  have kA:k.toNat<=1000:=by
   have:=Nat.le_mul_of_pos_left k.toNat mO
   omega
  have f0:List.foldl (fun x1 x2=>x1++x2) #[] (List.replicate k.toNat aq.toArray)=(List.replicate k.toNat aq).flatten.toArray:=by
   have:=AZ aq k.toNat []
   rw[List.nil_append]at this
   exact this
  have lf:(List.replicate k.toNat aq).flatten.length<=1000:=by rw[A_,YV];exact hm
  have em:((aq.toArray.size:Nat):Int)*k=((aq.length*k.toNat:Nat):Int):=by
   rw[Qn,Int.natCast_mul,YS (by omega)]
  refine Jo Yw ⟨_,e,rfl⟩ F.entry_tuple_mul (F.args_tuple_mul_2 _ _) (Rv k t l aq.toArray n1 d1 s1 (by simp;omega) (by simp[hk];exact Ve mO) (by simp;exact⟨by omega,Ve mO⟩) (by rw[em];omega) (by
   unfold Builtin.Tuple.tupleTooMany
   rw[em]
   simp only[gt_iff_lt,ZA,Int.not_lt]
   have:(1000:Nat)<=sizeLine:=by decide
   omega) (by rw[f0,Qn];exact rX lf)) ⟨e,?_⟩
  rw[f0]
  refine⟨.ref s.heap.objs.size,_,I.laid (t':=s.toks) (o:=.tup (List.replicate k.toNat xs).flatten) (fun b ob q=>Qe _ q) (Qh _) ?_,rfl,q2 hk _ (I.az.fresh (Qh _))⟩
  exact⟨rX (by rw[A_,YV];exact hz),_,r.rep k.toNat,l8.new _ _⟩
@[simp] def Cf (fa fb:aB):aB:=fun ρ=>match fa ρ with
 | some (.tup ds,_,ρ1)=>match fb ρ1 with
  | some (.int n,_,ρ2)=>if ds.isEmpty=false/\1<=n/\ds.length*n.toNat<=1000 then some (.tup (List.replicate n.toNat ds).flatten,9,ρ2)else none
  | _=>none
 | _=>none
def Rx(ha:QD X a fa)(hb:QD X b fb):QD X (.BinOp a .Mult b pos) (Cf fa fb):=⟨have ha:=ha.o;have hb:=hb.o;PE.imp (pP Rw ha hb) fun σ H Q ah=>by
 obtain⟨ρ,w,t,r',q,ρ',gd,ee,k⟩:=ah
 unfold Cf at ee
 split at ee
 next ds q1 ρ1 h1=>
  split at ee
  next n q2 ρ2 h2=>
   split at ee
   next hl=>
    cases ee
    obtain⟨hd,hn,hz⟩:=hl
    refine rU gd h1 h2 fun u u' H2 w2 F1 F2 g2 go r1 r2=>?_
    have za:=r1.drop (o:=.f) (Qh t)
    have gg:=g2.drop (t':=t)
    have zb:=go.drop gd.wt
    obtain⟨p1,vs,rfl,Cg,s1⟩:=za.gZ
    have l1:=s1.length
    refine⟨p1,n,vs,rfl,d7 r2,Cg,fun z=>?_,hn,by rw[<- l1];exact hz,fun z=>?_,fun _ p hp=>?_⟩
    ·subst z
     have:ds=[]:=ZF.mp l1
     subst this
     cases hd
    ·subst z
     have e:(List.replicate (Int.toNat 1) ds).flatten=ds:=by show(List.replicate 1 ds).flatten=ds;simp
     rw[e]at k
     exact k _ H2 (bG t w2) [] gg.up zb ((Rep.go gg.wl (fun a x e n=>⟨sm e,n⟩) za nM:Rep X.K H2 (bG t w2) (.t t) 0 _ _ []).fx rfl |>.2 9)
    ·obtain⟨a1,a2,a3⟩:=yN gg hp (s1.times n.toNat)
     exact k _ _ _ _ a1 (zb.trans a2) a3
   ·cases ee
  ·cases ee
 ·cases ee⟩
end
section
variable {X:Cx}{a b c e:Expr}{es:List Expr}{fa fb fc f:aB}{ga gb:cF}{g:b_}{pos p p1 p2 ak apos:Pos}
def Ry(ho:dC X (compareOp op) (kc h1))(fJ:dC X (compareOp kP) (kc h2))(e1:∀ i j d,g1 i j=some d->k4 d=some (h1 i j))(jW:∀ i j d,g2 i j=some d->k4 d=some (h2 i j))
  (ha:PD X a fa) (hb:PD X b fb) (hc:PD X c fc) (hm:lastMarks [op,kP] [b,c]=false:=by with_unfolding_all rfl):BK X (.Compare a [op,kP] [b,c] pos) (a_ (nV (gI g1) (gI g2) fa fb fc)):=PT.imp (MX ho fJ ha hb hc hm) (BL fun σ H Q ah=>by
 obtain⟨ρ,w,t,r',q,ρ',gd,ee,k⟩:=ah
 unfold nV at ee
 split at ee
 next x q1 ρ1 a1=>
  split at ee
  next y q2 ρ2 a2=>
   refine rU gd a1 a2 fun u v H2 w2 F1 F2 vT bj r1 r2=>?_
   have gg:=vT.drop (t':=t)
   split at ee
   next hg=>
    obtain⟨i,j,rfl,rfl,la⟩:=qc hg
    refine⟨i,j,d7 r1,d7 r2,true,by have:=e1 i j _ la;simpa [k4]using this.symm,?_⟩
    rw[Qf rfl]
    split at ee
    next z q3 eY a3=>
     refine⟨ρ2,bG t w2,t,z,q3,eY,gg,a3,fun v3 H3 w3 F3 g3 jT r3=>?_⟩
     split at ee
     next d hd=>
      cases ee
      obtain⟨j',l,ej,rfl,ic⟩:=qc hd
      cases ej
      exact⟨j,l,d7 r2,d7 r3,kZ k gd g3 ((bj.drop gd.wt).trans jT) (yP (jW j l _ ic))⟩
     ·cases ee
    ·cases ee
   next hg=>
    obtain⟨i,j,rfl,rfl,la⟩:=qc hg
    cases ee
    refine⟨i,j,d7 r1,d7 r2,false,by have:=e1 i j _ la;simpa [k4]using this.symm,?_⟩
    rw[Qi (by decide)]
    exact kZ k gd vT bj (.bl false)
   ·cases ee
  ·cases ee
 ·cases ee)
def Rz(ha:QD X a fa)(hb:QD X b fb)(hc:QD X c fc)(hm:lastMarks [.LtE,.Lt] [b,c]=false:=by with_unfolding_all rfl):f_ X (.Compare a [.LtE,.Lt] [b,c] pos) (a_ (nV vA ki fa fb fc)):=⟨have ha:=ha.o;have hb:=hb.o;have hc:=hc.o;Ry EO AN (fun i j d h=>by cases h;rfl) (fun i j d h=>by cases h;rfl) ha hb hc hm⟩
@[simp] def su (i:Nat)(f:aB):aB:=fun ρ=>if sj ρ[i]? = true then match f ρ with
 | some (.lst es,1,ρ1)=>match ρ1[i]? with
  | some (some (.lst ds,1))=>if ds.length+es.length<=1000 then some (.aK,9,ρ1.set i (some (.lst (ds++es),1)))else none
  | _=>none
 | _=>none
 else none
def Ci(h:QE X (.Name x p1) (eR i))(ha:QD X e f)(bE:attributeBase (.Name x p1) "extend" X.env (eval (.Name x p1) X.env)=eval (.Name x p1) X.env:=by rfl)(cJ:((backTo ak (starEach [e] X.env)).all (fun x=>!x.1)&&(backToKw ak (keywordEach [] X.env)).all (fun x=>x.1.isSome)
   && decide ([e].length+([]:List Keyword).length+(if([]:List Keyword).isEmpty then 0 else 1)<30))=true:=by rfl) (bF:(apos.endLine==ak.line)=true:=by rfl) (hs:starEach [e] X.env=(false,eval e X.env)::starEach [] X.env:=by rfl) (bW:(backTo ak (starEach [] X.env)).any (·.1)=false:=by rfl):QD X (.Call (.Attribute (.Name x p1) "extend" apos) [e] [] ak) (su i f):=⟨have h:=h.o;have ha:=ha.o;PE.imp (tZ Z1 PySem.F.slot_list_extend PySem.F.type_list_extend Ny h (gp ha jO hs) bE cJ bF hs bW) fun σ H Q ah=>by
 obtain⟨ρ,w,t,r',q,ρ',gd,ee,k⟩:=ah
 unfold su at ee
 split at ee
 next hl=>
  obtain⟨l,cL,us,hq⟩:=gd.cK hl
  split at ee
  next jv ρ1 h1=>
   split at ee
   next ds e1=>
    split at ee
    next hlen=>
     cases ee
     refine⟨_,cL,.inl ⟨rfl,us,hq⟩,ρ,w,t,_,_,_,gd,h1,fun v H1 w1 F1 g1 aF r1=>?_⟩
     obtain⟨l',ws,cC,hH,rs,mk⟩:=g1.mut e1
     rw[cL]at cC
     cases cC
     cases r1 with
     | own hb _ rz _=>
      have z0:=rz.zero
      subst z0
      have zc:af X.K H1 w1 .f 0 jv _ []:=rz.any g1.wl
      obtain⟨m1,m2⟩:=mk _ _ (zc.app rs)
      refine⟨l,_,ws,_,rfl,rfl,hH,hb,rX (by rw[<- rs.length,<- zc.length];exact hlen),?_⟩
      exact k .aK _ w1 [] m1 (aF.trans m2) .aK
    ·cases ee
   ·cases ee
  ·cases ee
 ·cases ee⟩
end
section
variable {X:Cx}{a b c e:Expr}{es:List Expr}{fa fb fc f:aB}{ga gb gc:cF}{g:b_}{qa qb:ky}{s:aN}{pos p p1 p2 ak apos:Pos}
@[simp] def uh:aN:=fun _=>none
def zd:jA X st uh:=⟨PS.imp Mr fun D σ H ah=>by obtain⟨ρ,w,o,g,ee,k⟩:=ah;cases ee⟩
def mP (c:cF)(b:aN):Nat->aW->Option Out
 | 0,_=>none
 | m+1,ρ=>match c ρ with
  | none=>none
  | some (t,ρ1)=>if t=true then match b ρ1 with
    | none=>none
    | some (.nx ρ2)=>mP c b m ρ2
    | some (.ct ρ2)=>mP c b m ρ2
    | some (.bk ρ2)=>some (.nx ρ2)
    | some (.rt d q)=>some (.rt d q)
   else some (.nx ρ1)
def ui (c:cF)(b:aN):aN:=mP c b 1000
def Gv{body:List Stmt}(hp:PassesOwn (model X.prog X.w) X.A X.env X.xe)(hc:f_ X c gc)(hb:fV X body s):jA X (.While c body [] pos) (ui gc s):=⟨have hc:=hc.o;have hb:=hb.o;PS.imp (MD hp hc hb) fun D σ H ah=>by
 obtain⟨ρ,w,o,g,ee,k⟩:=ah
 refine⟨fun m aM H'=>aM.length=σ.length/\∃ ρ' w',Good X.K ρ' aM H' w' 0/\mP gc s m ρ'=some o/\nR X.K D σ.length H' w' o,⟨1000,rfl,ρ,w,g,ee,k⟩,?_⟩
 rintro m aM H' ⟨cL,ρ',w',g',e',k'⟩
 cases m with
 | zero=>cases e'
 | succ m=>
  unfold mP at e'
  split at e'
  ·cases e'
  next t ρ1 h1=>
   refine⟨ρ',w',0,t,ρ1,g',h1,fun H1 w1 g1 aF=>?_⟩
   cases t with
   | true=>
    rw[Qf rfl]at e' ⊢
    refine⟨fun jK H2=>jK.length=σ.length/\∃ ρ2 w2,Good X.K ρ2 jK H2 w2 0/\mP gc s m ρ2=some o/\nR X.K D σ.length H2 w2 o,fun jK H2 n2=>⟨m,Zq m,n2⟩,?_⟩
    have nx:∀ {fB:aW},mP gc s m fB=some o->∀ g7 H5 w5,g7.length=aM.length->Good X.K fB g7 H5 w5 0->Go H1 w1 H5 w5->g7.length=σ.length/\∃ ρ2 w2,Good X.K ρ2 g7 H5 w2 0/\mP gc s m ρ2=some o/\nR X.K D σ.length H5 w2 o:=fun {fB} e5 g7 H5 w5 l5 g5 gf=>⟨by rw[l5,cL],fB,w5,g5,e5,k'.trans (aF.trans gf)⟩
    cases h6:s ρ1 with
    | none=>rw[h6]at e';cases e'
    | some o6=>
     rw[h6]at e'
     refine⟨ρ1,w1,o6,g1,h6,?_⟩
     cases o6 with
     | nx fB=>exact nx e'
     | ct fB=>exact nx e'
     | bk fB=>
      cases e'
      exact fun g7 H5 w5 l5 g5 gf=>k' g7 H5 w5 (by rw[l5,cL]) g5 (aF.trans gf)
     | rt d q=>
      cases e'
      exact fun v H5 w5 F BN gf r5=>k' v H5 w5 F BN (aF.trans gf) r5
   | false=>
    rw[Qi (by decide)]at e' ⊢
    cases e'
    exact k' aM H1 w1 cL g1 aF⟩
@[simp] def j83 (n:Nat)(qi:ky)(fe:aB):aN:=fun ρ=>match fe ρ with
 | some (d,_,ρ1)=>match qi ρ1,ρ1[n]? with
  | some i,some (some (.lst ds,1))=>match iP ds.length i with
   | some m=>some (.nx (ρ1.set n (some (.lst (ds.set m d),1))))
   | none=>none
  | _,_=>none
 | none=>none
def RC (K:PySem.W.Frag):R2:=fun x y H Q=>∃ l b xs zs,x=.ref l/\y=.ref b/\cE K H l xs/\cE K H b zs/\xs.length+zs.length<=sizeLine/\∀ p,H p=none->Q (.ref p) (upd H p (.lst (xs++zs)))
def RD:dC X (binaryOp .Add) (RC X.K):=by
 intro pins s σ H x y v u Q I rx ry h
 obtain⟨l,b,xs,zs,rfl,rfl,hH,hB,hz,q⟩:=h
 cases rx
 cases ry
 obtain⟨aq,r,pl,z⟩:=I.list hH
 obtain⟨iX,r2,Cj,z2⟩:=I.list hB
 obtain⟨⟨cls,dd,data,sl⟩,n,ho,hc,_,hd⟩:=pl
 obtain⟨⟨RE,Ck,data2,RF⟩,n2,Gw,qr,_,hd2⟩:=Cj
 simp only at hc hd qr hd2
 subst hc hd qr hd2
 have l1:=r.length
 have l2:=r2.length
 refine concat_meets ⟨_,ho,rfl⟩ ⟨_,Gw,rfl⟩ noFill_list_add seq_list_add PySem.F.slot_list_add PySem.F.entry_list_add (PySem.F.args_list_add_2 _ _) (list_addW l b aq.toArray iX.toArray n n2 dd Ck sl RF (by rw[Qn,Qn,<- l1,<- l2];exact hz)) ⟨ho,Gw,?_⟩
 have e:aq.toArray++iX.toArray=(aq++iX).toArray:=by simp
 rw[e]
 exact⟨.ref _,_,I.vd (t':=s.toks) (r.append r2) (by rw[Qm];omega),rfl,q _ I.fresh⟩
@[simp] def lU (fa fb:aB):aB:=fun ρ=>match fa ρ with
 | some (.lst ds,_,ρ1)=>match fb ρ1 with
  | some (.lst es,_,ρ2)=>if ds.length+es.length<=1000 then some (.lst (ds++es),1,ρ2)else none
  | _=>none
 | _=>none
def zf(ha:QD X a fa)(hb:QD X b fb):QD X (.BinOp a .Add b pos) (lU fa fb):=⟨have ha:=ha.o;have hb:=hb.o;PE.imp (pP RD ha hb) fun σ H Q ah=>by
 obtain⟨ρ,w,t,r',q,ρ',gd,ee,k⟩:=ah
 unfold lU at ee
 split at ee
 next ds q1 ρ1 h1=>
  split at ee
  next es q2 ρ2 h2=>
   split at ee
   next hl=>
    cases ee
    refine rU gd h1 h2 fun u u' H2 w2 F1 F2 g2 go r1 r2=>?_
    have za:=r1.drop (o:=.f) (Qh t)
    have RG:=r2.drop (o:=.f) (JK t)
    have gg:=g2.drop (t':=t)
    have zb:=go.drop gd.wt
    obtain⟨p1,vs,rfl,Cg,s1⟩:=za.ip
    obtain⟨p2,us,rfl,RH,s2⟩:=RG.ip
    refine⟨p1,p2,vs,us,rfl,rfl,Cg,RH,rX (by rw[<- s1.length,<- s2.length];exact hl),fun p hp=>?_⟩
    obtain⟨a1,a2,a3⟩:=oJ gg hp (s2.app s1)
    exact k _ _ _ _ a1 (zb.trans a2) a3
   ·cases ee
  ·cases ee
 ·cases ee⟩
end
section
variable {X:Cx}{a b c e:Expr}{es:List Expr}{fa fb fc f:aB}{ga gb gc:cF}{g:b_}{qa qb:ky}{s:aN}{pos p p1 p2 p3 ak apos:Pos}
@[simp] def qC (i:Int):ky:=fun _=>some i
def RI{i:Int}:QQ X (.Constant (.int i) j pos) (qC i):=⟨PE.imp Ay fun σ H Q ah=>by
 obtain⟨ρ,w,t,i,gd,ee,k⟩:=ah
 cases ee
 exact k⟩
@[simp] def vV (n:Nat)(c:Int):ky:=fun ρ=>match ρ[n]? with
 | some (some (.tup es,_))=>match L2.dF es c with
  | some d=>match fN d with
   | some m=>some (Int.ofNat m)
   | none=>none
  | none=>none
 | _=>none
def RJ{n j:Nat}{c:Int}(hm:X.mg "len" = none)(h:QE X (.Name x p1) (eR n))(hg:Gl X "len":=by rfl)(hs:pU (.Constant (.int c) j p2):=by exact fun _ _=>rfl)(he:starEach [.Subscript (.Name x p1) (.Constant (.int c) j p2) p3] X.env=(false,eval (.Subscript (.Name x p1) (.Constant (.int c) j p2) p3) X.env)::starEach [] X.env:=by rfl)(cu:(backTo pos (starEach [] X.env)).any (·.1)=false:=by rfl):QQ X (.Call (.Name "len" p) [.Subscript (.Name x p1) (.Constant (.int c) j p2) p3] [] pos) (vV n c):=⟨have h:=h.o;PE.imp (oz AX hg hm VY (gp (tW tY h Ay hs) jO he) (by decide) (by decide) he cu) fun σ H Q ah=>by
 obtain⟨ρ,w,t,i,gd,ee,k⟩:=ah
 unfold vV at ee
 split at ee
 next es q e0=>
  split at ee
  next d hd=>
   split at ee
   next m fD=>
    cases ee
    obtain⟨v,F,h1,h2⟩:=gd.slot n _ _ e0
    obtain⟨p0,vs,rfl,hq,rs⟩:=h2.gZ
    obtain⟨u,hu,ru⟩:=rs.dF hd
    obtain⟨p',ys,rfl,kg,hl⟩:=ru.len fD
    exact⟨_,h1,.inr (.inl ⟨p0,vs,c,_,rfl,rfl,hq,hu,p',ys,rfl,kg,by rw[hl];exact k⟩)⟩
   ·cases ee
  ·cases ee
 ·cases ee⟩
@[simp] def vW (k l:Str)(qa qb:ky):aB:=fun ρ=>match qa ρ,qb ρ with
 | some i,some j=>some (.gr [k,l] [.int i,.int j],9,ρ)
 | _,_=>none
def RK{t:Nat}{H1:Hp}{p:Addr}{ks:List Str}{w1:Wn}(g:Good K ρ σ H1 w1 t)(hp:H1 p=none)(r:af K H1 w1 .f 0 ds vs []) :
  Good K ρ σ (upd H1 p (.dK (mz ks vs))) w1 (t+1)/\Go H1 w1 (upd H1 p (.dK (mz ks vs))) w1/\Rep K (upd H1 p (.dK (mz ks vs))) w1 (.t t) 9 (.gr ks ds) (.ref p) []:=by
 have ne:∀ a x,H1 a=some x->a≠p:=fun a x e=>ib e hp
 have nw:∀ a o,w1 a=some o->a≠p:=fun a o e=>by obtain⟨vs,q⟩:=g.wl a o e;exact ne a _ q
 have st:de H1 w1 (upd H1 p (.dK (mz ks vs))) w1:=fun a x e n=>⟨sm (by rw[bc (ne a x e)];exact e),n⟩
 refine⟨⟨⟨fun a o e=>?_,g.wl.tb.upd rfl (.inl hp)⟩,g.ws,fun a i e=>Zc (g.wt a i e),g.len,fun i d q e=>?_⟩,⟨st,fun a o e _=>⟨bc (nw a o e),e⟩⟩,?_⟩
 ·obtain⟨us,q⟩:=g.wl a o e
  exact⟨us,by rw[bc (nw a o e)];exact q⟩
 ·obtain⟨v,F,h1,h2⟩:=g.slot i d q e
  exact⟨v,F,h1,Rep.go g.wl st h2 fun a m=>⟨bc (nw a _ (h2.aC a m)),h2.aC a m⟩⟩
 ·exact .gr fX (by
   cases q:w1 p with
   | none=>rfl
   | some o=>exact absurd rfl (nw p o q)) (af.go g.wl st r nM)
def RL{k l:Str}{j1 j2:Nat}(RM:k≠l)(ha:QQ X a qa)(hb:QQ X b qb):QD X (.Dict [some (.Constant (.str k) j1 p1),some (.Constant (.str l) j2 p2)] [a,b] pos) (vW k l qa qb):=⟨have ha:=ha.o;have hb:=hb.o;PE.imp (N6 (Fl ye ha (Fl ye hb N4)) rfl rfl (by simp) (by show 2<=15;decide)) fun σ H Q ah=>by
 obtain⟨ρ,w,t,r',q,ρ',gd,ee,kk⟩:=ah
 unfold vW at ee
 split at ee
 next i j hi hj=>
  cases ee
  intro p0 hp
  have ne:∀ a x,H a=some x->upd H p0 (.dK []) a=some x:=fun a x e=>by rw[bc (ib e hp)];exact e
  obtain⟨g1,aF⟩:=gd.more ⟨ne,fun t=>t.upd rfl (.inl hp)⟩
  refine⟨ρ,w,t,i,g1,hi,ρ,w,t,j,g1,hj,fX,[(.inr k,.int i),(.inr l,.int j)],rfl,by show 2<=15;decide,?_⟩
  have e:rN [] [((.inr k:Key),V.int i),(.inr l,.int j)]=mz [k,l] [.int i,.int j]:=by
   have Cm:¬ ((Sum.inr k:Key)=.inr l):=fun z=>RM (Ue z)
   simp[rN,fm,mz,Cm]
  rw[e,LH]
  obtain⟨a1,a2,a3⟩:=RK (ks:=[k,l]) (ds:=[.int i,.int j]) (vs:=[.int i,.int j]) gd hp (.cons (F:=[]) (G:=[]) (.int i) (.cons (F:=[]) (G:=[]) (.int j) .nil nM) nM)
  exact kk _ _ _ _ a1 a2 a3
 ·cases ee⟩
def ir:List Str->List D->Str->Option D
 | x::ks,d::ds,k=>if x=k then some d else ir ks ds k
 | _,_,_=>none
@[simp] def Cn (fo fe ff:aB):aB:=fun ρ=>match fo ρ with
 | some (.gr ks ds,_,ρ1)=>match fe ρ1 with
  | some (.str k,_,ρ2)=>match ff ρ2 with
   | some (z,_,eY)=>some ((ir ks ds k).getD z,gY ((ir ks ds k).getD z),eY)
   | none=>none
  | _=>none
 | _=>none
theorem Gx(k:Str):∀ {ks:List Str} {ds:List D} {vs:List V},af K H w o 0 ds vs []->
  (∀ d,ir ks ds k=some d->∃ v,fK (mz ks vs) (.inr k)=some v/\Rep K H w o 0 d v [])/\(ir ks ds k=none->fK (mz ks vs) (.inr k)=none)
 | [],ds,vs,r=>by
  refine⟨fun d h=>?_,fun _=>rfl⟩
  unfold ir at h
  cases h
 | x::ks,ds,vs,r=>by
  generalize hF:([]:List Addr)=F at r
  cases r with
  | nil=>exact⟨(fun d h=>by unfold ir at h;cases h),fun _=>rfl⟩
  | @cons _ d' v' cx eS F' G' r s _=>
   have h1:F'=[]:=r.zero
   have h2:G'=[]:=s.zero
   subst h1 h2
   have ih:=Gx k (ks:=ks) s
   by_cases hx:x=k
   ·subst hx
    refine⟨fun d h=>?_,fun h=>?_⟩
    ·unfold ir at h
     rw[Qf rfl]at h
     cases h
     exact⟨v',vh rfl,r⟩
    ·unfold ir at h
     rw[Qf rfl]at h
     cases h
   ·have hk:¬ ((Sum.inr x:Key)=.inr k):=fun z=>hx (Ue z)
    have e:fK (mz (x::ks) (v'::eS)) (.inr k)=fK (mz ks eS) (.inr k):=vi hk
    rw[e]
    unfold ir
    rw[Qi hx]
    exact ih
def RN{k:Nat}(hr:aS k X.A)(ho:QD X a fa)(he:QD X b fb)(hf:QD X c fc)(bE:attributeBase a "get" X.env (eval a X.env)=eval a X.env:=by rfl)(cJ:((backTo ak (starEach [b,c] X.env)).all (fun x=>!x.1)&&(backToKw ak (keywordEach [] X.env)).all (fun x=>x.1.isSome)
   && decide (([b,c]:List Expr).length+([]:List Keyword).length+(if([]:List Keyword).isEmpty then 0 else 1)<30))=true:=by rfl) (bF:(apos.endLine==ak.line)=true:=by rfl) (sv:backTo ak (starEach [b,c] X.env)=[(false,eval b X.env),(false,eval c X.env)]:=by rfl):QD X (.Call (.Attribute a "get" apos) [b,c] [] ak) (Cn fa fb fc):=⟨have ho:=ho.o;have he:=he.o;have hf:=hf.o;PE.imp (Od (rG hr) ho he hf ⟨bE,cJ,bF,sv⟩) fun σ H Q ah=>by
 obtain⟨ρ,w,t,r',q,ρ',gd,ee,kk⟩:=ah
 unfold Cn at ee
 split at ee
 next ks ds q1 ρ1 h1=>
  split at ee
  next k0 q2 ρ2 h2=>
   split at ee
   next z q3 eY h3=>
    cases ee
    refine⟨ρ,w,t,_,_,_,gd,h1,fun x H1 w1 F1 g1 aF r1=>?_⟩
    have vX:=r1
    cases vX with
    | @gr _ a0 _ N8 _ vY _ _=>
     refine⟨a0,rfl,.inl ⟨_,.inl vY⟩,ρ1,w1,t+1,_,_,_,g1,h2,fun y H2 w2 F2 g2 bj r2=>⟨ρ2,w2,t+2,_,_,_,g2,h3,fun zv H3 w3 F3 g3 jT r3=>?_⟩⟩
     have hy:y=kV (.inr k0):=by cases r2;rfl
     subst hy
     have RO:=(r1.gone g1.wl (bj.trans jT)).drop (o:=.t t) (Qh t)
     have rz:=r3.drop (o:=.t t) (t':=t) (by omega)
     have go:=(aF.trans bj).trans jT
     cases RO with
     | @gr _ _ _ vs _ hH _ rs=>
      obtain⟨v1,v2⟩:=Gx (ks:=ks) k0 rs
      refine⟨_,iY.k hH,?_⟩
      cases hg:ir ks ds k0 with
      | none=>
       rw[v2 hg]
       rw[hg]at kk
       exact kZ kk gd g3 go rz.i6
      | some d=>
       obtain⟨v,ev,rv⟩:=v1 d hg
       rw[ev]
       rw[hg]at kk
       exact kZ kk gd g3 go rv.i6
   ·cases ee
  ·cases ee
 ·cases ee⟩
def RP{bh:List Expr}{env:Env}{ks:List (Option Expr)}{vs:List Expr}:starEach (.Dict ks vs pos::bh) env=(false,eval (.Dict ks vs pos) env)::starEach bh env:=by simp only[starEach]
end
def RQ{prog:Program}{w:World}{A:Around}(hh:A.handled=none)(it p:Addr)(bK:p≠it)(items:Array Value) :
  Draws prog w A it [it,p] items.size (fun i v=>items[i]? = some v) (fun i h=>h.IsTupleIter it p i/\h.IsTuple p items) where
 live:=fun _ _ st=>by obtain⟨⟨o,ho,_⟩,_⟩:=st;exact⟨o,ho⟩
 frame:=fun _ _ _ st hk=>by
  obtain⟨a,⟨o,e,r⟩⟩:=st
  exact⟨a.at fun o e=>hk it (by simp) o e,⟨o,hk p (by simp) o e,r⟩⟩
 item:=fun i s Q E hi st hQ=>by
  refine Ra st.1 st.2 (v:=items[i]) (by simp[hi]) fun h' oX kg=>?_
  exact hQ _ h' s.toks (by simp[hi]) ⟨oX,st.2.extBut kg.extBut bK⟩ kg
 done:=fun s Q E st hE=>Rb hh st.1 st.2 (by simp) hE
section
variable {prog:Program}{w:World}{A:Around}{E:Value->Shared->Prop}{s:Shared}
theorem RT{xs:Array Value}(t1:s.heap.IsTuple p xs)
  (k:∀ h',IsEnum h' (s.heap.objs.size+1) s.heap.objs.size 0 .none->h'.IsTupleIter s.heap.objs.size p 0->h'.objs.size=s.heap.objs.size+2->
    (∀ b o,s.heap.get? b=some o->h'.get? b=some o)->Q (.ref (s.heap.objs.size+1)) { s with heap:=h' }) :
  wpAny (model prog w) A (call (.type "enumerate") [.ref p]) Q E s:=by
 have mt:Meets (Builtin.«enumerate.__new__» ⟨[.type "enumerate",.ref p],[]⟩) (fun _ R s'=>s'=s /\
   R (.ok (.ret (.ref (s.heap.push { cls:=.type "tuple_iterator",data:=.fields #[.ref p,.int 0 0] }).objs.size)))
    { s with heap:=(s.heap.push { cls:=.type "tuple_iterator",data:=.fields #[.ref p,.int 0 0] }).push { cls:=.type "enumerate",data:=.fields #[.none,.bool false,.ref s.heap.objs.size,rawInt 0,.none,.none] } }):=.of_wp fun prog w A R s' h=>by
  obtain⟨rfl,h⟩:=h
  have cz:=sub_enumerate
  obtain⟨hp,gn,dr,tk,os⟩:=s'
  have q1:Heap.IsTuple (Shared.heap ⟨hp,gn,dr,tk,os⟩) p xs:=t1
  wp_walk using Jy q1
  refine wpAny_stack_any fun st=>Qd ?_
  split
  next c _ _ _ _ _=>
   cases (c==Value.type "enumerate")
   ·wp_walk using Jy q1
    exact⟨_,rfl,h⟩
   ·wp_walk using Jy q1
    exact⟨_,rfl,h⟩
  ·wp_walk using Jy q1
   exact⟨_,rfl,h⟩
 refine callType_new F.called_enumerate (by decide) (F.typeCall_enumerate_1 _) (F.newCall_enumerate_1 _) (fun obj=>F.args_object_init_2 obj _) F.entry_enumerate_new mt ⟨rfl,?_⟩
 have hz:(s.heap.push { cls:=.type "tuple_iterator",data:=.fields #[.ref p,.int 0 0] }).objs.size=s.heap.objs.size+1:=ZJ ..
 show _/\_
 rw[hz]
 have he:IsEnum ((s.heap.push { cls:=.type "tuple_iterator",data:=.fields #[.ref p,.int 0 0] }).push
   { cls:=.type "enumerate",data:=.fields #[.none,.bool false,.ref s.heap.objs.size,rawInt 0,.none,.none] }) (s.heap.objs.size+1) s.heap.objs.size 0 .none:=by
  have:=Qv (s.heap.push { cls:=.type "tuple_iterator",data:=.fields #[.ref p,.int 0 0] })
   (o:={ cls:=.type "enumerate",data:=.fields #[.none,.bool false,.ref s.heap.objs.size,rawInt 0,.none,.none] }) rfl
  rw[hz]at this;exact this
 exact⟨⟨_,he,rfl⟩,k _ he ⟨_,Qe _ (Qv _ rfl),rfl,rfl⟩ (by rw[ZJ,hz]) fun b o x=>Qe _ (Qe _ x)⟩
end
structure Src (P:Program) (w:World) (K:PySem.W.Frag) (it p:Addr) (Sq:Hp->List V->Prop) (tn:Nat->Heap->Prop):Prop where
 keep:∀ i h h',tn i h->(∀ o,h.get? it=some o->h'.get? it=some o)->tn i h'
 obj:∀ i h,tn i h->∃ o vs,h.get? it=some o/\o.data=.fields vs
 draw:∀ (X:Cx),X.prog=P->X.w=w->X.K=K->X.calm=true->∀ (pins:List (Addr×Obj)) (s:Shared) (σ:St) (H:Hp) (xs:List V),Inv X pins σ H s->Sq H xs->∃ (us:List Value) (St:Nat->Heap->Prop),bq xs us /\
  Draws P w X.A.in1 it [it,p] us.length (fun i v=>us[i]? = some v) St/\(∀ i,tn i s.heap->St i s.heap)/\(∀ i h,St i h->tn i h)/\∀ ys,Sq H ys->ys=xs
def RU{w:World}(bK:p≠it):Src P w K it p (fun H xs=>cE K H p xs) (fun i h=>h.IsListIter it p i) where
 keep:=fun i h h' st k=>st.at k
 obj:=fun i h st=>by obtain⟨o,e,c,d⟩:=st;exact⟨o,_,e,d⟩
 draw:=fun X hP hw hK hc pins s σ H xs I hq=>by
  subst hP hw hK
  obtain⟨aq,rv,pl,_⟩:=I.list hq
  have D:=Draws.list (prog:=X.prog) (w:=X.w) (A:=X.A.in1) (I.ok.hd hc) it p bK aq.toArray
  rw[Qn]at D
  exact⟨aq,(fun i h=>h.IsListIter it p i/\h.IsList p aq.toArray),rv,(by simpa using D),fun i st=>⟨st,pl.isList⟩,fun i h st=>st.1,fun ys hy=>I.iV hy hq⟩
def RV{w:World}(bK:p≠it):Src P w K it p (fun H xs=>du K H p xs) (fun i h=>h.IsTupleIter it p i) where
 keep:=fun i h h' st k=>st.at k
 obj:=fun i h st=>by obtain⟨o,e,c,d⟩:=st;exact⟨o,_,e,d⟩
 draw:=fun X hP hw hK hc pins s σ H xs I hq=>by
  subst hP hw hK
  obtain⟨aq,rv,pl,_⟩:=I.tuple hq
  have D:=RQ (prog:=X.prog) (w:=X.w) (A:=X.A.in1) (I.ok.hd hc) it p bK aq.toArray
  rw[Qn]at D
  exact⟨aq,(fun i h=>h.IsTupleIter it p i/\h.IsTuple p aq.toArray),rv,(by simpa using D),fun i st=>⟨st,pl⟩,fun i h st=>st.1,fun ys hy=>I.ij hy hq⟩
def vZ (Sq:Hp->List V->Prop):It:=
 ⟨fun i H=>∃ xs x,Sq H xs/\xs[i]? = some x,
  fun i H v H'=>∃ T x,v=.ref T/\H T=none/\(∀ xs,Sq H xs->xs[i]? = some x)/\H'=upd H T (.tup [.int (Int.ofNat i),x]),
  fun i H=>∃ xs,Sq H xs/\xs.length=i⟩
def RW{w:World}{elts:List Expr}{kt:Nat}{tp:Pos}{e:Addr}{tn:Nat->Heap->Prop}(S:Src P w K it p Sq tn)(bK:e≠it)(hp:e≠p) :
  Turn P w K (.Tuple elts kt tp) (vZ Sq) [e,it] e (fun i h=>(∃ old,IsEnum h e it i old)/\tn i h) where
 mem:=by simp
 obj:=fun i h st b hb=>by
  obtain⟨⟨old,he⟩,st⟩:=st
  simp only[Qs,QJ,Vw]at hb
  rcases hb with rfl|rfl
  ·exact⟨_,he,fun v e=>nomatch e⟩
  ·obtain⟨o,vs,e,d⟩:=S.obj i h st
   exact⟨o,e,fun v z=>by rw[d]at z;cases z⟩
 keep:=fun i h h' st k=>by
  obtain⟨⟨old,he⟩,st⟩:=st
  exact⟨⟨old,k e (by simp) _ he⟩,S.keep i h h' st fun o z=>k it (by simp) o z⟩
 item:=by
  intro X hP hw hK hc i pins s σ H E I hf st hg
  obtain⟨⟨old,he⟩,st⟩:=st
  obtain⟨xs,x,hq,hx⟩:=hg
  obtain⟨us,St,rv,D,s1,s2,inj⟩:=S.draw X hP hw hK hc pins s σ H xs I hq
  obtain⟨u,hu,ru⟩:=rv.get hx
  have bY:i<us.length:=(Qq.mp hu).1
  refine wpAny_pyNext_enum_itemD D he (s1 i st) bY bK (by simp[bK,hp]) fun u' g tk Gy ho kg hT hsz hk=>?_
  have eu:u'=u:=by rw[hu]at Gy;exact(QF Gy).symm
  subst eu
  refine⟨_,rfl,wpAny_letOwnedTupleGo_enum (s:={ s with heap:=g,toks:=tk+1 }) ho fun g' v8 sb=>?_⟩
  have v_:Heap.SameBut e g g':=sb
  have fr:H s.heap.objs.size=none:=I.az.fresh (Qh _)
  have ri:bC (.int (Int.ofNat i)) (.int i tk):=⟨tk,rfl⟩
  have I1:Inv X pins σ (upd H s.heap.objs.size (.tup [.int (Int.ofNat i),x])) { s with heap:=s.heap.push { cls:=.type "tuple",data:=.seq #[.int i tk,u'] } }:=
   I.laid (t':=s.toks) (fun b q e=>Qe _ e) (Qh _) (show cU X.prog X.w _ _ _ (.tup _)from⟨(by show 2<=sizeLine;decide),[.int i tk,u'],.cons ri (.cons ru .nil),l8.new _ _⟩)
  have lt:∀ b ∈ [e,it],b<s.heap.objs.size:=fun b hb=>by
   simp only[Qs,QJ,Vw]at hb
   rcases hb with rfl|rfl
   ·exact Qo he
   ·obtain⟨o,_,e,_⟩:=S.obj i _ st;exact Qo e
  have hn:∀ b ∈ [e,it],upd H s.heap.objs.size (.tup [.int (Int.ofNat i),x]) b=none:=fun b hb=>by rw[bc (QM (lt b hb))];exact(hf b hb).1
  have I2:Inv X pins σ (upd H s.heap.objs.size (.tup [.int (Int.ofNat i),x])) { s with heap:=g',toks:=tk+1 }:=Rc (s:={ s with heap:=s.heap.push { cls:=.type "tuple",data:=.seq #[.int i tk,u'] } }) (t':=tk+1) (ch:=[e,it]) I1 (fun b q nb z=>by
   have b1:b≠e:=fun h=>nb (by simp[h])
   have b2:b≠it:=fun h=>nb (by simp[h])
   rcases Heap.get?_push_cases z with⟨rfl,rfl⟩|z'
   ·exact v_.extBut _ _ b1 hT
   ·exact v_.extBut _ _ b1 (hk b q b1 b2 z')) fun b hb=>by
     obtain⟨f0,f1,f2,f3,f4,f5⟩:=hf b hb
     exact⟨hn b hb,f1,f2,f3,f4,f5⟩
  refine⟨.ref s.heap.objs.size,_,I2,rfl,⟨s.heap.objs.size,x,rfl,fr,fun zs hz=>?_,rfl⟩,⟨⟨_,v8⟩,?_⟩,hn⟩
  ·rw[inj zs hz];exact hx
  ·exact S.keep _ _ _ (s2 _ _ kg) fun o z=>v_.extBut _ _ (Jr bK) z
 done:=by
  intro X hP hw hK hc i pins s σ H E I hf st hg
  obtain⟨⟨old,he⟩,st⟩:=st
  obtain⟨xs,hq,hx⟩:=hg
  obtain⟨us,St,rv,D,s1,s2,inj⟩:=S.draw X hP hw hK hc pins s σ H xs I hq
  have hl:us.length=i:=by rw[<- rv.length];exact hx
  subst hl
  refine wpAny_pyNext_enum_endD D he (s1 _ st) fun g kp=>⟨rfl,?_⟩
  obtain⟨f0,f1,f2,f3,f4,f5⟩:=hf it (by simp)
  exact I.turned (t':=s.toks) (fun b o hb z=>kp b o hb z) f0 f1 f3 f4 f5
 self:=fun _ _ _ _ _ st h=>by
  obtain⟨⟨old,he⟩,_⟩:=st
  exact wpAny_pyIter_enum he h
section
variable {X:Cx}{a b c e:Expr}{es elts:List Expr}{fa fb fc f:aB}{g:b_}{pos p p1 p2 tp:Pos}{kt:Nat}
def RX (K:PySem.W.Frag)(ta:TA):TI:=fun σ H R=>ta σ H fun vs H1=>∃ p,vs=[.ref p]/\(((∃ xs,cE K H1 p xs)/\R (vZ fun H xs=>cE K H p xs) H1)\/((∃ xs,du K H1 p xs)/\R (vZ fun H xs=>du K H p xs) H1))
def RY{ta:TA}(hg:Gl X "enumerate")(hm:X.mg "enumerate" = none)(ha:PA X [a] ta)(hs:starEach [a] X.env=[(false,eval a X.env)]:=by rfl) :
  PI X (.Tuple elts kt tp) (.Call (.Name "enumerate" p) [a] [] pos) (RX X.K ta):=by
 intro pins s σ H R I h
 refine Call_ (tS I hg hm boot_enumerate (Z7 (aV (ha pos pins s σ H _ I h) fun us s1 ⟨vs,H1,I1,r1,q1⟩=>?_) hs rfl))
 obtain⟨q,ee,hq⟩:=q1
 subst ee
 cases r1 with
 | cons r rr=>
  cases rr
  cases r
  have ne1:s1.heap.objs.size+1≠s1.heap.objs.size:=Nat.succ_ne_self _
  have fin:∀ {g:Heap} {Sq:Hp->List V->Prop} {tn:Nat->Heap->Prop},q<s1.heap.objs.size->Src X.prog X.w X.K s1.heap.objs.size q Sq tn->IsEnum g (s1.heap.objs.size+1) s1.heap.objs.size 0 .none->tn 0 g->(∀ b o,s1.heap.get? b=some o->g.get? b=some o)->R (vZ Sq) H1->
    wpAny (model X.prog X.w) X.A (pyIter (.ref (s1.heap.objs.size+1))) (AD X pins σ (.Tuple elts kt tp) R) X.xe { s1 with heap:=g }:=fun {g Sq tn} lq S he ht kp hR=>by
   have ne2:s1.heap.objs.size+1≠q:=VD (Zc lq)
   refine wpAny_pyIter_enum he ⟨s1.heap.objs.size+1,[s1.heap.objs.size+1,s1.heap.objs.size],_,_,H1,rfl,I1.kept (t':=s1.toks) kp,RW S ne1 ne2,⟨⟨_,he⟩,ht⟩,fun b hb=>?_,hR⟩
   have Gz:s1.heap.objs.size<=b:=by
    simp only[Qs,QJ,Vw]at hb
    rcases hb with rfl|rfl
    ·exact Yv _ _
    ·exact Qh _
   exact I1.ot Gz (I1.az.fresh Gz)
  rcases hq with⟨⟨xs,hx⟩,hR⟩|⟨⟨xs,hx⟩,hR⟩
  ·obtain⟨aq,rv,pl,_⟩:=I1.list hx
   have lq:q<s1.heap.objs.size:=by obtain⟨_,e,_⟩:=pl.isList;exact Qo e
   exact call_enumerate_list pl.isList fun g he hi _ kp=>fin lq (RU (QM lq)) he hi kp hR
  ·obtain⟨aq,rv,pl,_⟩:=I1.tuple hx
   have lq:q<s1.heap.objs.size:=by obtain⟨_,e,_⟩:=pl;exact Qo e
   exact RT (show s1.heap.IsTuple q aq.toArray from pl) fun g he hi _ kp=>fin lq (RV (QM lq)) he hi kp hR
def mQ (ds:List D):List D:=ds.zipIdx.map fun x=>.tup [.int (Int.ofNat x.2),x.1]
def zg(ds:List D):(mQ ds).length=ds.length:=by simp[mQ]
def RZ(ds:List D)(i:Nat):(mQ ds)[i]? = (ds[i]?).map fun d=>.tup [.int (Int.ofNat i),d]:=by
 simp only[mQ,Qk,List.getElem?_zipIdx,Option.map_map]
 cases ds[i]? with
 | none=>rfl
 | some d=>simp
@[simp] def wa (g:b_):jB:=fun ρ=>match g ρ with
 | some ([.lst ds],ρ1)=>if ds.length<=1000 then some (mQ ds,ρ1)else none
 | some ([.tup ds],ρ1)=>if ds.length<=1000 then some (mQ ds,ρ1)else none
 | _=>none
def It.enum{P:Hp->Wn->Prop}(hl:ds.length=vs.length)(sq:∀ H w,P H w->Sq H vs/\af K H w .f 0 ds vs [])(ps:∀ H w H' w',P H w->WL K w H->de H w H' w'->P H' w'):mC K (vZ Sq) (mQ ds) P:=by
 refine⟨fun i H w p hi=>⟨vs,vs[i]'(by rw[zg]at hi;omega),(sq H w p).1,by simp⟩,fun i H w x H' d p wl hd y=>?_,fun H w p=>⟨vs,(sq H w p).1,by rw[zg];exact hl.symm⟩,ps⟩
 obtain⟨T,v,rfl,hT,hv,rfl⟩:=y
 obtain⟨q1,r1⟩:=sq H w p
 rw[RZ]at hd
 cases hz:ds[i]? with
 | none=>rw[hz]at hd;cases hd
 | some d0=>
  rw[hz]at hd
  cases hd
  obtain⟨v',wb,rv⟩:=r1.get hz
  have ev:v'=v:=by have:=hv vs q1;rw[wb]at this;exact QF this
  subst ev
  have mo:∀ a o,H a=some o->upd H T (.tup [.int (Int.ofNat i),v']) a=some o:=fun a o e=>by rw[bc (ib e hT)];exact e
  have st:de H w (upd H T (.tup [.int (Int.ofNat i),v'])) w:=fun a x e n=>⟨sm (mo a x e),n⟩
  exact⟨⟨mo,fun t=>t.upd rfl (.inl hT)⟩,.tup fX (.cons (F:=[]) (G:=[]) (.int _) (.cons (F:=[]) (G:=[]) (Rep.oR rv wl st) .nil nM) nM),ps _ _ _ _ p wl st⟩
def R0(hm:X.mg "enumerate" = none)(ha:f9 X [a] g)(hg:Gl X "enumerate":=by rfl)(hs:starEach [a] X.env=[(false,eval a X.env)]:=by rfl):se X (.Tuple elts kt tp) (.Call (.Name "enumerate" p) [a] [] pos) (wa g):=⟨have ha:=ha.o;PI.imp (RY hg hm ha hs) fun σ H R ah=>by
 obtain⟨ρ,w,t,ds,ρ',gd,ee,k⟩:=ah
 unfold wa at ee
 split at ee
 next d1 ρ1 h1=>
  split at ee
  next hl=>
   cases ee
   refine⟨ρ,w,t,_,_,gd,h1,fun vs H1 w1 g1 aF r1=>?_⟩
   obtain⟨v,rfl,rv⟩:=one r1
   have hz:(mQ d1).length<sizeLine:=by rw[zg];exact lP hl
   cases rv with
   | kl h r=>exact⟨_,rfl,.inl ⟨⟨_,h.sq⟩,k _ _ H1 w1 g1 aF (It.enum (P:=fun H w=>(KL X.K _ _\/False)/\af X.K H w .f 0 d1 _ []) r.length (fun H w p=>⟨p.1.elim (fun z=>z.sq) fun z=>z.elim,p.2⟩) fun H w H' w' p wl st=>⟨p.1,af.go wl st p.2 nM⟩) ⟨.inl h,r⟩ hz⟩⟩
   | shr h n r=>exact⟨_,rfl,.inl ⟨⟨_,.inl h⟩,k _ _ H1 w1 g1 aF (It.enum (P:=fun H w=>(Rd H _ (.lst _)/\w _=none)/\af X.K H w .f 0 d1 _ []) r.length (fun H w p=>⟨.inl p.1.1,p.2⟩) fun H w H' w' p wl st=>⟨yE.go st p.1.2 p.1.1,af.go wl st p.2 nM⟩) ⟨⟨h,n⟩,r⟩ hz⟩⟩
  ·cases ee
 next d1 ρ1 h1=>
  split at ee
  next hl=>
   cases ee
   refine⟨ρ,w,t,_,_,gd,h1,fun vs H1 w1 g1 aF r1=>?_⟩
   obtain⟨v,rfl,rv⟩:=one r1
   have hz:(mQ d1).length<sizeLine:=by rw[zg];exact lP hl
   obtain⟨p1,as,rfl,q1,s1⟩:=rv.gZ
   exact⟨p1,rfl,.inr ⟨⟨_,q1⟩,k _ _ H1 w1 g1 aF (It.enum (P:=fun H w=>du X.K H p1 as/\af X.K H w .f 0 d1 as []) s1.length (fun H w p=>p) fun H w H' w' p wl st=>⟨du.go wl st p.1,af.go wl st p.2 nM⟩) ⟨q1,s1⟩ hz⟩⟩
  ·cases ee
 ·cases ee⟩
end
end L3
namespace L3
open PySem PySem.Spec PyProof.Rows PySem.W L2
variable {A:Around}{C:Addr}{E:Value->Shared->Prop}{H:Hp}{K:PySem.W.Frag}{M:Model}{P:Program}{h h':Heap}{i:Nat}{pos:Pos}{w:World}{x:Str}{ρ:aW}{σ:St}
def GA{a:Addr}{o:HO}(x:cU P w H h a o):∃ ob,h.get? a=some ob:=by
 cases o with
 | lst xs=>obtain⟨_,_,_,_,e⟩:=x;exact⟨_,e⟩
 | tup xs=>obtain⟨_,_,_,o,e,_⟩:=x;exact⟨_,e⟩
 | dK ai=>obtain⟨_,_,_,_,o,_,_,e,_⟩:=x;exact⟨_,e⟩
 | dT ai=>obtain⟨_,_,_,_,o,_,_,e,_⟩:=x;exact⟨_,e⟩
 | set S n=>obtain⟨o,_,_,_,e,_⟩:=x;exact⟨_,e⟩
 | ins C dx fs=>obtain⟨_,_,_,e,_⟩:=x;exact⟨_,e⟩
 | own y=>obtain⟨_,e⟩:=x;exact⟨_,e⟩
 | xd fs=>obtain⟨_,⟨_,_,_,e,_⟩,_⟩:=x;exact⟨_,e⟩
 | lL lo hi=>obtain⟨_,_,_,e⟩:=x;exact⟨_,e⟩
 | eE ob u=>obtain⟨e,_⟩:=x;exact⟨_,e⟩
 | jt ps=>exact⟨_,(show h.get? a=some _ from x)⟩
 | met f y=>exact⟨_,(show h.get? a=some _ from x)⟩
 | ext φ=>obtain⟨_,⟨_,e⟩,_⟩:=x;exact⟨_,e⟩
def GB(x:cV P w H h)(k:∀ b u o,H b=some u->h.get? b=some o->h'.get? b=some o):cV P w H h':=fun b u e=>
 (x b u e).fS (fun c o hc q=>by
  rcases hc with z|z
  ·rw[z]at q ⊢;exact k b u o e q
  ·exact k c _ o z q) (fun _ q=>q) fun _ _ q=>q
structure oY (P:Program) (w:World) (outer:List Env) (H:Hp) (s:Shared) (a C t:Addr) (B:Heap) (H':Hp) (s':Shared):Prop where
 os:s'.os=s.os
 bare:AllBare s'.gens
 un:Un (dP outer) [] H H' s.heap s'.heap
 az:cV P w H' s'.heap
 fl:Heap.FlyingW B outer a (.ref C) (.ref t) s'.heap
 old:∀ b o,s.heap.get? b=some o->H b=none->b ∉ dP outer->B.get? b=some o
 wc:∀ b o,s.heap.get? b=some o->b ∉ dP outer->∃ o',B.get? b=some o'
 oa:∀ b u o,H' b=some u->s'.heap.get? b=some o->B.get? b=some o
 free:H' a=none
def GC (P:Program)(w:World):mi:=fun outer H s E e s'=>∃ (a C t:Addr) (B:Heap) (H':Hp),e=.ref a/\oY P w outer H s a C t B H' s'/\E (.ref C) none H'
section
variable {P:Program}{w:World}{K:PySem.W.Frag}{mg:Str->Option Value}{base:Heap}{N:List Str}{qual:Str}{scope:Scope}{f:Addr}{cd:Value}{A:Around}{outer:List Env}{aP:Shared}{cy:Hp}{E:XK}{pins:List (Addr×Obj)}{σ:St}{H:Hp}{s:Shared}
abbrev oZ (P:Program)(w:World)(K:PySem.W.Frag)(mg:Str->Option Value)(base:Heap)(N:List Str)(qual:Str)(scope:Scope)(f:Addr)(cd:Value)(A:Around)(outer:List Env)(aP:Shared)(cy:Hp)(E:XK):Cx:=lO (GC P w) P w K mg base N qual scope f cd A outer aP cy E
def R1(I:Inv (oZ P w K mg base N qual scope f cd A outer aP cy E) pins σ H s){b:Addr}(hb:b∈dP outer){o:Obj}(e:s.heap.get? b=some o):∀ vs,o.data ≠ .fields vs:=by
 obtain⟨_,o',ho,hd⟩:=I.fh.mem hb
 rw[e]at ho;cases ho
 exact hd
def R3{e:Addr}{vs:List Value}(I:Inv (oZ P w K mg base N qual scope f cd A outer aP cy E) pins σ H s)(hm:Heap.MadeExcOf s.heap h' e (.ref C) vs)(hE:E (.ref C) none H) :
  (oZ P w K mg base N qual scope f cd A outer aP cy E).xe (.ref e) { s with heap:=h' }:=by
 have nL:∀ b o,aP.heap.get? b=some o->b≠aP.heap.objs.size:=fun b o q=>QM (Qo q)
 have sx:∀ b o,s.heap.get? b=some o->b≠aP.heap.objs.size->b ∉ dP outer->(hideAll s.heap (dP (envOfC qual scope aP.heap.objs.size f cd::outer))).get? b=some o:=fun b o q n1 n2=>hideAll_get _ q fun hm=>by
  rcases Qs.mp (show b∈aP.heap.objs.size::dP outer from hm)with z|z
  ·exact n1 z
  ·exact n2 z
 have jc:∀ env∈(envOfC qual scope aP.heap.objs.size f cd::outer),∀ b,env.frame=some b->b∈dP (envOfC qual scope aP.heap.objs.size f cd::outer):=fun env he b hb=>Yc.mpr ⟨env,he,hb⟩
 have we:∀ b u,H b=some u->b≠aP.heap.objs.size/\b ∉ dP outer:=fun b u q=>by
  refine⟨fun z=>?_,fun z=>?_⟩
  ·have:=I.free
   rw[z]at q
   have wg:H aP.heap.objs.size=none:=this
   rw[wg]at q;cases q
  ·have:=I.fY b (Qj _ z)
   rw[this]at q;cases q
 have fO:Un (dP outer) [] cy H aP.heap s.heap:=I.base
 show wpAny _ _ (leaving (envOfC qual scope aP.heap.objs.size f cd) (.ref e)) _ _ _
 refine wpAny_leaves_madeW (s:={ s with heap:=h' }) (L:=aP.heap.objs.size) (outer:=outer) I.ok.frames rfl (fun b o q=>of_hideAll _ q) (funFrames_hide I.stack jc) hm fun h2 t fl _ _ up=>?_
 have old:∀ b o,aP.heap.get? b=some o->cy b=none->b ∉ dP outer->(hideAll s.heap (dP (envOfC qual scope aP.heap.objs.size f cd::outer))).get? b=some o:=fun b o q n hb=>sx b o (fO.keep b o q n hb (by simp)) (nL b o q) hb
 have slot:∀ b o,s.heap.get? b=some o->b∈dP outer->∃ sl,h2.get? b=some { o with slots:=sl }:=fun b o q hb=>up b o (hm.keeps b o q) (R1 I hb q)
 have oa:∀ b u o,H b=some u->s.heap.get? b=some o->(hideAll s.heap (dP (envOfC qual scope aP.heap.objs.size f cd::outer))).get? b=some o:=fun b u o q e=>sx b o e (we b u q).1 (we b u q).2
 refine⟨e,C,t,_,H,rfl,⟨I.os,I.bare,⟨fun b o q n hb _=>fl.1 b o (old b o q n hb),fun b o q n hb _=>?_,fun b o q n _=>fO.free b o q n (by simp),fun b o q _=>?_,fO.e_,fO.eF,fO.fg⟩,GB I.az fun b u o q e=>fl.1 b o (oa b u o q e),fl,old,fun b o q hb=>?_,fun b u o q e=>?_,?_⟩,hE⟩
 ·obtain⟨sl,q1⟩:=fO.slot b o q n hb (by simp)
  obtain⟨tR,q2⟩:=slot b _ q1 hb
  exact⟨tR,q2⟩
 ·obtain⟨o',q1⟩:=fO.there b o q (by simp)
  by_cases hb:b∈dP outer
  ·obtain⟨sl,q2⟩:=slot b o' q1 hb
   exact⟨_,q2⟩
  ·exact⟨o',fl.1 b o' (sx b o' q1 (nL b o q) hb)⟩
 ·obtain⟨o',q1⟩:=fO.there b o q (by simp)
  exact⟨o',sx b o' q1 (nL b o q) hb⟩
 ·obtain⟨o1,q1⟩:=GA (I.az b u q)
  have q2:=oa b u o1 q q1
  have q3:=fl.1 b o1 q2
  have e':h2.get? b=some o:=e
  rw[q3]at e';cases e'
  exact q2
 ·cases q:H e with
  | none=>rfl
  | some u=>
   obtain⟨o1,q1⟩:=GA (I.az e u q)
   rw[hm.new]at q1;cases q1
end
structure Co (K:Frag) (mg:Str->Option Value) (nm:Str) (C:Addr):Prop extends i7 K nm C where
 mg:mg nm=some (.ref C)
def R4{K:Frag}{GD:List Value}{newId:String}(X:K.In h)(q:excIn K C GD newId=true) :
  ∃ bm N nm q bs hdct sn sub ab col dd k0 k1 k2 k3 k5 mN,h.get? C=some (excClassObj nm q C N bs bm hdct sn sub ab col dd k0 k1 k2 k3 k5 newId)/\h.Ns N mN/\mN "__init__" = none/\OwnTail h GD bm:=by
 unfold excIn at q
 split at q
 next dd cd sl ho=>
  split at q
  next C' bm k0 k1 k2 k3 n k5 hm hs=>
   simp only[Jt,Zy,Bool.not_eq_true']at q
   obtain⟨⟨⟨⟨⟨rfl,rfl⟩,wj⟩,ht⟩,az⟩,jX⟩:=q
   obtain⟨nm,bs,mro,ns,qn,hd,sn,sub,ab,col,del⟩:=cd
   dsimp only at hm wj az jX
   subst hm wj
   have R5:sl = #[k0,k1,k2,k3,some (.builtin n),k5]:=by
    obtain⟨l⟩:=sl
    simp only at hs
    rw[hs]
   subst R5
   exact⟨bm,ns,nm,qn,bs,hd,sn,sub,ab,col,dd,k0,k1,k2,k3,k5,_,X _ _ ho,.of_isNs (isNs_of_in X az),nsMap_none_of_in X az jX,tail_of_in X ht⟩
  ·cases q
 ·cases q
section
variable {P:Program}{w:World}{K:PySem.W.Frag}{mg:Str->Option Value}{base:Heap}{N:List Str}{qual:Str}{scope:Scope}{f:Addr}{cd:Value}{A:Around}{outer:List Env}{aP:Shared}{cy:Hp}{E:XK}{pins:List (Addr×Obj)}{σ:St}{H:Hp}{s:Shared}
def R6{nm txt:Str}{j:Nat}{np ak my pos:Pos}(hA:A.handled=none)(hC:Co K mg nm C)(hg:Gl (oZ P w K mg base N qual scope f cd A outer aP cy E) nm)(gU:(nm==("__debug__":Str))=false:=by decide) :
  PS (oZ P w K mg base N qual scope f cd A outer aP cy E) (.Raise (some (.Call (.Name nm np) [.Constant (.str txt) j my] [] ak)) none pos) (fun _ _ H=>E (.ref C) none H):=by
 intro pins s σ H D I h
 obtain⟨tl,Nn,wk,q,bs,hdct,sn,sub,ab,col,dd,k0,k1,k2,k3,k5,mN,R7,hN,jX,T⟩:=R4 I.mod.uZ hC.ex
 refine wpAny_Raise_call_subT (C:=C) (nm:=wk) (q:=q) (N:=Nn) (bs:=bs) (bm:=tl) (hdct:=hdct) (sn:=sn) (sub:=sub) (ab:=ab) (col:=col) (dd:=dd) (k0:=k0) (k1:=k1) (k2:=k2) (k3:=k3) (k5:=k5)
  Y8 (mN:=mN) (T.hasType Y8.hasBase) hA rfl jX (u7 I hg hC.mg ⟨rfl,?_⟩ gU)
 refine ZY (ZC (aV (ye (j:=j) (pos:=my) pins s σ H (fun v H1=>v=.str txt/\H1=H) I ⟨rfl,rfl⟩) fun u s1 ah=>?_))
 obtain⟨v,H1,I1,r1,e1,e2⟩:=ah
 subst e1 e2
 refine Jh ⟨rfl,by show 1<=sizeLine;decide,I1.bk _ _ R7,hN.keeps I1.bk,T.keeps I1.bk,fun h' e hm=>R3 I1 hm h⟩
end
abbrev gP:=aW->Option Str
def tX (K:PySem.W.Frag)(x:gP)(E:XK):TS:=fun _ σ H=>∃ ρ w nm,Good K ρ σ H w 0/\x ρ=some nm/\∀ C H' w',nsIn K mainGlobals nm=some (some (.ref C))->WL K w' H'->Go H w H' w'->E (.ref C) none H'
def GF (K:PySem.W.Frag)(n:Nat)(F:List D->Option Str):Sp:=fun vs H _ E=>vs.length=n/\∃ ds w nm,(∀ a o,w a=some o->o=.f)/\WL K w H/\af K H w .f 0 ds vs []/\F ds=some nm /\
 ∀ C H' w',nsIn K mainGlobals nm=some (some (.ref C))->WL K w' H'->Go H w H' w'->E (.ref C) none H'
def fnX (n:Nat)(x:gP):List D->Option Str:=fun ds=>x (oS n ds)
def o7 (P:Program)(w:World)(K:PySem.W.Frag)(mg:Str->Option Value)(base:Heap)(k:Nat)(x:Str)(n:Nat)(F:List D->Option Str):Prop:=
 ∃ f fd ps,dS P w K mg base (GC P w) k f fd ps (GF K n F)/\mg x=some (.ref f)/\PySem.W.keepIn K (.ref f)=true/\oy K fd ps []
theorem o7.mk{mg:Str->Option Value}{base:Heap}{k:Nat}{st:Stmt}{N ps:List Str}{xb:gP}(a:At K mg x st ps)(S:aj N ps (bD st))
  (h:∀ (f:Addr) (bS:Value) (A:Around) (outer:List Env) (s:Shared) (H:Hp) (E:XK),aS k (A.deeper (envOfC x (bD st) s.heap.objs.size f bS))->gm (oZ P w K mg base N x (bD st) f bS A outer s H E) (jw st) (tX K xb E)) :
  o7 P w K mg base (k+1) x ps.length (fnX N.length xb):=by
 obtain⟨f,fd,F,m,b⟩:=a
 refine⟨f,fd,ps,?_,m,F.kp,b⟩
 obtain⟨oc,od,kV,doc,pm,an,bS,ct,nN,rfl,lk,gS⟩:=F.ex
 refine E4 lk gS S (fun vs H Q E h=>h.1) fun A outer s H vs Q E hr jP=>⟨_,h f bS A outer s H E hr,?_⟩
 obtain⟨hn,ds,w,nm,hw,wl,rs,e,k⟩:=jP
 exact⟨_,w,nm,BO hw wl rs,e,k⟩
def R8{K:Frag}{s:Shared}{x R:Addr}{ox:Obj}{Q:Bool->Shared->Prop}(X:K.In s.heap)(I:jy s.heap x ox C)(hR:fu K R)(oB:typeIn K (.ref R)=some (.type "type"))
  (cz:subIn K (.ref C) (.ref R)=some true) (h:Q true s):wpAny M A (excMatches (.ref x) (.ref R)) Q E s:=by
 obtain⟨h0,g,d,tt,os⟩:=s
 have L0:=I.type (M:=M)
 have L1:=looks_typeIn (M:=M) X oB
 have L2:=Bw (M:=M) X hR.ci
 have L3:=looks_mroIn (M:=M) X hR.mb
 have L4:=VX (M:=M) X cz
 have f:=tc_notTuple
 have L5:Looks M h0 (isSubtype (.type "type") (.type "tuple")) false:=YA f
 unfold excMatches isInstance isExcClass
 repeat (first|lk|wp_step)
 exact h
section
variable {X:Cx}{pins:List (Addr×Obj)}{σ:St}{H H':Hp}{s s':Shared}{a C t:Addr}{B:Heap}
def R9{Q:Unit->Shared->Prop}(I:Inv X pins σ H s)(hN:X.N.Nodup)(hi:X.N[i]? = some x)(hx:X.env.scope.names.lookup x=some .local)
  (h:∀ s',Inv X pins (σ.set i none) H s'->Q () s'):wpAny M A (do bindName X.env x .none;unbindBehindTheSuite X.env x pos) Q E s:=by
 obtain⟨m,hn,hl⟩:=id I.loc
 have rn:(X.env.scope.kind == .class||(X.env.scope.kind == .module&&X.env.locals != X.env.globals))=false:=by rw[I.ok.kind];rfl
 have kT:i<σ.length:=by rw[I.len];exact(Qq.mp hi).1
 have l_:=I.l_
 refine wpAny_nameGoes_keeps hx hn rn fun h' v oi hs=>?_
 obtain⟨oL,_,_,Ey,_⟩:=id hn
 have tracked:cV X.prog X.w H h':=fun b ob e=>by
  refine(I.az b ob e).fS (fun c w' hc q=>(hs.2 c ?_).trans q) (fun _ q=>q) fun _ _ q=>q
  rintro rfl
  rcases hc with rfl|hc
  ·rw[I.free]at e;cases e
  ·rw[I.free]at hc;cases hc
 refine h _ ⟨I.ok,I.os,I.bare,⟨fun b o e n hb hx=>?_,fun b o e n hb hx=>?_,I.base.free,fun b o e hx=>?_,I.base.e_,I.base.eF,I.base.fg⟩,⟨_,oi,fun j y v' e1 e2 e3=>?_⟩,fun y c e=>?_,I.free,I.cH,fun p hp=>?_,tracked,by simpa using I.len⟩
 ·exact(hs.2 b (QM (Qw (Qo e) I.ok.above))).trans (I.base.keep b o e n hb hx)
 ·obtain⟨sl,e1⟩:=I.base.slot b o e n hb hx
  exact⟨sl,(hs.2 b (QM (Qw (Qo e) I.ok.above))).trans e1⟩
 ·obtain⟨o',e1⟩:=I.base.there b o e hx
  exact⟨o',(hs.2 b (QM (Qw (Qo e) I.ok.above))).trans e1⟩
 ·by_cases hj:j=i
  ·subst hj
   rw[QP kT]at e2
   cases e2
  ·rw[QR (Jr hj)]at e2
   obtain⟨u',r',q⟩:=hl j y v' e1 e2 e3
   refine⟨u',r',?_⟩
   rcases q with⟨k,e⟩|⟨k,c,e,z⟩
   ·refine .inl ⟨k,?_⟩
    have:y≠x:=fun e=>hj (Au hN e1 (e ▸ hi))
    simp[this,e]
   ·exact .inr ⟨k,c,e,z.sameBut hs (l_ y c e)⟩
 ·obtain⟨w',z⟩:=I.cell y c e
  exact⟨w',z.sameBut hs (l_ y c e)⟩
 ·obtain⟨e,n,ne,nf,d⟩:=I.pin p hp
  exact⟨(hs.2 p.1 ne).trans e,n,ne,nf,d⟩
def uj (a:Addr)(oe:Obj):HO:=.eE oe (.ext fun h=>h.get? a=some oe)
theorem oY.Cp(I:Inv X pins σ H s)(F:oY X.prog X.w X.stack H s a C t B H' s')(fl:Heap.FlyingW B X.stack a (.ref C) (.ref t) h')(up:s'.heap.UpToSlots h'):Un (dP X.stack) [] H H' s.heap h'/\cV X.prog X.w H' h':=by
 have slot:∀ b o,s.heap.get? b=some o->H b=none->b∈dP X.stack->∃ sl,h'.get? b=some { o with slots:=sl }:=fun b o q n hb=>by
  obtain⟨sl,q1⟩:=F.un.slot b o q n hb (by simp)
  obtain⟨_,o',ho,hd⟩:=I.stack.mem hb
  rw[q]at ho;cases ho
  obtain⟨tR,q2⟩:=up b _ q1 hd
  exact⟨tR,q2⟩
 refine⟨⟨fun b o q n hb _=>fl.1 b o (F.old b o q n hb),fun b o q n hb _=>slot b o q n hb,F.un.free,fun b o q _=>?_,F.un.e_,F.un.eF,F.un.fg⟩,GB F.az fun b u o q e=>fl.1 b o (F.oa b u o q e)⟩
 by_cases hb:b∈dP X.stack
 ·obtain⟨sl,q2⟩:=slot b o q (I.fY b hb) hb
  exact⟨_,q2⟩
 ·obtain⟨o2,q2⟩:=F.wc b o q hb
  exact⟨o2,fl.1 b o2 q2⟩
theorem oY.inv(I:Inv X pins σ H s)(F:oY X.prog X.w X.stack H s a C t B H' s')(fl:Heap.FlyingW B X.stack a (.ref C) (.ref t) h')(up:s'.heap.UpToSlots h'):Inv X pins σ H' { s' with heap:=h' }:=
 I.ma (s':={ s' with heap:=h' }) F.os (F.Cp I fl up).1 (F.Cp I fl up).2 F.bare (fun b hb=>nomatch hb)
theorem oY.inv2(I:Inv X pins σ H s)(F:oY X.prog X.w X.stack H s a C t B H' s')(fl:Heap.FlyingW B X.stack a (.ref C) (.ref t) h')(up:s'.heap.UpToSlots h'){oe:Obj}{vs:Array Value}(ho:h'.get? a=some oe)(hd:oe.data=.fields vs) :
  Inv X pins σ (upd H' a (uj a oe)) { s' with heap:=h' }:=by
 obtain⟨u,hk⟩:=F.Cp I fl up
 have na:∀ b x,H' b=some x->upd H' a (uj a oe) b=some x:=fun b x q=>by
  unfold upd
  rw[Qi (fun z=>by rw[z,F.free]at q;cases q)]
  exact q
 have R_:a ∉ dP X.stack:=fun hb=>by
  obtain⟨_,o',fJ,ic⟩:=fl.2.2.1.mem hb
  rw[ho]at fJ;cases fJ
  exact ic vs hd
 refine I.ma (s':={ s' with heap:=h' }) F.os ⟨u.keep,u.slot,fun b o q n e=>?_,u.there,fun b xs q=>na b _ (u.e_ b xs q),fun b o' u' q=>na b _ (u.eF b o' u' q),fun b ps q=>?_⟩ (fun b x q=>?_) F.bare (fun b hb=>nomatch hb)
 ·unfold upd
  rw[Qi (fun z=>?_)]
  ·exact u.free b o q n e
  ·subst z
   obtain⟨o2,q2⟩:=F.wc b o q R_
   rw[fl.2.1]at q2;cases q2
 ·obtain⟨m,q1⟩:=u.fg b ps q
  exact⟨m,na b _ q1⟩
 ·by_cases hb:b=a
  ·subst hb
   unfold upd at q
   rw[Qf rfl]at q
   cases q
   exact⟨ho,ho,⟨_,ho⟩,fun h1 h2 q1 q2=>q2 _ q1⟩
  ·have q':=q
   unfold upd at q
   rw[Qi hb]at q
   exact(hk b x q).fS (fun _ _ _ z=>z) (fun c z=>na c _ z) (fun c xs z=>na c _ z)
abbrev Cx.mark (X:Cx)(e:Value):Cx:={ X with A:=X.A.mark (some e),calm:=false,xe:=fun _ _=>False }
def Inv.mark(I:Inv X pins σ H s)(e:Value):Inv (Cx.mark X e) pins σ H s:=
 ⟨⟨I.ok.mod,I.ok.kind,I.ok.glob,I.ok.blt,I.ok.above,I.ok.inj,I.ok.has,I.ok.tP,(fun z=>by cases z),I.ok.frames,I.ok.u0,I.ok.yb,I.ok.bs,I.ok.l9,I.ok.kR,I.ok.kS,I.ok.fh,I.ok.rl⟩,I.os,I.bare,I.base,I.loc,I.cell,I.free,I.cH,I.pin,I.az,I.len⟩
def Inv.unmark{e:Value}(hX:X.Ok)(I:Inv (Cx.mark X e) pins σ H s):Inv X pins σ H s:=⟨hX,I.os,I.bare,I.base,I.loc,I.cell,I.free,I.cH,I.pin,I.az,I.len⟩
theorem Sa{R n kx:Str}{RA:Addr}{np kp vp apos:Pos}{ie ik:Nat}{Q:Flow->Shared->Prop}(I:Inv X pins σ H s)(F:oY X.prog X.w X.stack H s a C t B H' s')(dZ:X.stack=X.env::X.outer)(Cq:X.env.frame=some X.env.locals)
  (hN:X.N.Nodup) (sy:X.N[ie]? = some n) (uc:X.N[ik]? = some kx) (bK:X.env.scope.names.lookup n=some .local) (zh:X.env.scope.names.lookup kx=some .local) (hR:fu X.K RA) (Cr:typeIn X.K (.ref RA)=some (.type "type")) (cz:subIn X.K (.ref C) (.ref RA)=some true) (hmg:X.mg R=some (.ref RA)) (hg:Gl X R)
  (gU:(R==("__debug__":Str))=false) (wm:(n==("__debug__":Str))=false) (Cs:(n==("__classdict__":Str))=false) (rS:swapsWith (.Name n vp) (some (.Name kx kp)) apos.line X.env=pure false)
  (hQ:∀ s5 oe,oe.cls=.ref C->Inv X pins (((σ.set ie (some (.ref a))).set ik (some (.ref a))).set ie none) (upd H' a (uj a oe)) s5->Q .next s5) :
  wpAny (model X.prog X.w) X.A (noteFrame (.ref a) X.env) (fun _ fj=>wpAny (model X.prog X.w) X.A (setFlight (.ref a) none) (fun _ gV=>
   wpAny (model X.prog X.w) X.A (handleBy (.ref a) X.env [.ExceptHandler (some (.Name R np)) (some n) [.Assign [.Name kx kp] (.Name n vp) apos] pos]) Q E gV) E fj) E s':=by
 have kT:ie<σ.length:=by rw[I.len];exact(Qq.mp sy).1
 have GG:=F.fl
 have wo:=dZ
 rw[dZ]at GG
 refine wpAny_looks_onW (L:=X.env.locals) (outer:=X.outer) (by rw[<- dZ];exact I.ok.frames) Cq GG fun vo mR qu=>?_
 refine wpAny_landsW mR fun vq qw qx=>?_
 have jY:=qw
 rw[<- dZ]at jY
 have I5:=F.inv I jY (qu.trans qx)
 obtain⟨ob,Sb,Ct⟩:=jY.there
 have J5:=Inv.mark I5 (.ref a)
 refine wpAny_handleBy_cons (codeAny_handlers_test (u7 (X:=Cx.mark X (.ref a)) J5 hg hmg ?_ gU)) (by intro q;cases q)
 refine R8 J5.fi ⟨Sb,Ct⟩ hR Cr cz ?_
 refine codeAny_handlers_suite_as ?_
 refine lands_againW qw fun Sd wq wu=>?_
 have jZ:=wq
 rw[<- dZ]at jZ
 obtain⟨oe,ws,Se,Cu,Cv,Sf⟩:=jZ.first
 have I6:=F.inv2 I jZ ((qu.trans qx).trans wu) Se Cv
 refine Ax (v:=.ref a) I6 hN sy (.inl bK) rfl (fun s7 I7=>?_) (.inr bK)
 have J7:=Inv.mark I7 (.ref a)
 have body:=EC (EH (X:=Cx.mark X (.ref a)) (i:=ik) (x:=kx) (pos:=apos) (pos':=kp) hN uc (.inl zh) (pv (X:=Cx.mark X (.ref a)) ie (x:=n) (pos:=vp) sy (.inl bK) wm Cs) rS (.inr zh))
 refine Zs (body pins s7 _ _ { nx:=fun aM H1=>aM=(σ.set ie (some (.ref a))).set ik (some (.ref a))/\H1=upd H' a (uj a oe),rt:=fun _ _=>False } J7 ⟨.ref a,QP kT,rfl,rfl⟩) (fun fl s8 q=>?_) (fun _ _ z=>False.elim z)
 cases fl with
 | next=>
  obtain⟨σ8,H8,J8,rfl,rfl⟩:=q
  exact R9 (Inv.unmark I.ok J8) hN sy bK fun s9 I9=>hQ s9 oe Cu I9
 | brk=>obtain⟨_,_,_,z⟩:=q;exact z.elim
 | cont=>obtain⟨_,_,_,z⟩:=q;exact z.elim
 | ret u=>obtain⟨_,_,_,_,_,z⟩:=q;exact z.elim
end
def Good.unset{w:Wn}{t:Nat}{v:Option V}(g:Good K ρ σ H w t)(hi:i<σ.length) :
  Good K (ρ.set i none) (σ.set i v) H (iz i w) t/\Go H w H (iz i w):=by
 have st:de H w H (iz i w):=fun a x h n=>⟨sm h,vz n⟩
 refine⟨⟨⟨fun a o h=>g.wl a o (oM h).1,g.wl.tb⟩,fun a j h=>by rw[QS];exact g.ws a j (oM h).1,fun a j h=>g.wt a j (oM h).1,by rw[QS,QS];exact g.len,fun j d' q' e'=>?_⟩,⟨st,fun a o h n=>⟨rfl,t_ h (n i)⟩⟩⟩
 by_cases hj:i=j
 ·subst hj
  rw[QP (by rw[g.len];exact hi)]at e'
  cases e'
 ·rw[QR hj]at e'
  obtain⟨v',F,h1,h2⟩:=g.slot j d' q' e'
  exact⟨v',F,by rw[QR hj];exact h1,Rep.go g.wl st h2 fun a m=>⟨rfl,t_ (h2.aC a m) (fun z=>hj (by cases z;rfl))⟩⟩
def Good.grow{H':Hp}{w:Wn}{t:Nat}(g:Good K ρ σ H w t)(h:∀ b o,H b=some o->Sm o (H' b))(tb:TB K H'):Good K ρ σ H' w t/\Go H w H' w:=by
 have st:de H w H' w:=fun a x e n=>⟨h a x e,n⟩
 have kp:∀ a o,w a=some o->H' a=H a:=fun a o e=>by
  obtain⟨vs,q⟩:=g.wl a o e
  rw[q,(h a _ q).eq (by cases vs<;>rfl)]
 refine⟨⟨⟨fun a o e=>?_,tb⟩,g.ws,g.wt,g.len,fun i d q e=>?_⟩,st,fun a o e _=>⟨kp a o e,e⟩⟩
 ·obtain⟨vs,q⟩:=g.wl a o e
  exact⟨vs,(h a _ q).eq (by cases vs<;>rfl)⟩
 ·obtain⟨v,F,h1,h2⟩:=g.slot i d q e
  exact⟨v,F,h1,Rep.go g.wl st h2 fun a m=>⟨kp a _ (h2.aC a m),h2.aC a m⟩⟩
def o8 (K:Frag)(mg:Str->Option Value)(R:Str)(L:List Str):Prop:=∃ RA,fu K RA/\typeIn K (.ref RA)=some (.type "type")/\mg R=some (.ref RA) /\
 ∀ nm∈L,∀ C,nsIn K mainGlobals nm=some (some (.ref C))->i7 K nm C/\subIn K (.ref C) (.ref RA)=some true
end L3
namespace L3
open PySem PySem.Spec PyProof.Rows PySem.W L2 PySem.SeqAt
variable {K:PySem.W.Frag}{L:List Str}
def fE (K:Frag)(mg:Str->Option Value)(L:List Str)(nm:Str):Prop:=∃ C,mg nm=some (.ref C)/\∀ n∈L,∀ B,nsIn K mainGlobals n=some (some (.ref B))->(n=nm->isIn K (.ref B) C=true)/\(n≠nm->kin_not K B C=true)
section
variable {X:Cx}{a b c e:Expr}{es:List Expr}{fa fb fc f:aB}{ga gb:cF}{g:b_}{pos p p1 p2 pT ak apos:Pos}
def Sg{C:Addr}{nm:Str}(h:∀ n∈L,∀ B,nsIn X.K mainGlobals n=some (some (.ref B))->(n=nm->isIn X.K (.ref B) C=true)/\(n≠nm->kin_not X.K B C=true)) :
  jM X (.builtin "isinstance") (fun xs H Q=>∃ x w o q F n,xs=[x,.ref C]/\n∈L/\Rep X.K H w o q (.exc n) x F/\Q (.bl (n==nm)) H):=by
 intro pins s σ H xs us Q I r hh
 obtain⟨x,w,o,q,F,n,rfl,hn,rd,hq⟩:=hh
 obtain⟨u,v,rfl,ru,rv⟩:=yj r
 cases rv
 cases rd with
 | exc ha xo _=>
  obtain⟨B,hc,k⟩:=xo
  cases ru
  obtain⟨e1,_⟩:=(show cU X.prog X.w H s.heap _ (.eE _ _)from I.az _ _ ha)
  obtain⟨h1,h2⟩:=h n hn B k.ns
  by_cases z:n=nm
  ·rw[Zy.mpr z]at hq
   exact OK I.fi ⟨e1,hc⟩ (h1 z) ⟨.bl true,H,I,rfl,hq⟩
  ·rw[ZM.mpr z]at hq
   exact OJ I.fi ⟨e1,hc⟩ k.xc (h2 z) ⟨.bl false,H,I.tok _,rfl,hq⟩
def qy (L:List Str)(nm:Str)(fa:aB):aB:=fun ρ=>match fa ρ with
 | some (.exc n,_,ρ1)=>if n∈L then some (.bl (n==nm),9,ρ1)else none
 | _=>none
def uk{nm:Str}(hC:fE X.K X.mg L nm)(hm:X.mg "isinstance" = none)(ha:QD X a fa)(hg:Gl X "isinstance":=by rfl)(vS:Gl X nm:=by rfl)(Ce:(nm==("__debug__":Str))=false:=by decide)(hs:starEach [a,.Name nm pT] X.env=(false,eval a X.env)::starEach [.Name nm pT] X.env:=by rfl)(cu:(backTo pos (starEach [.Name nm pT] X.env)).any (·.1)=false:=by rfl):QD X (.Call (.Name "isinstance" p) [a,.Name nm pT] [] pos) (qy L nm fa):=⟨have ha:=ha.o;by
 obtain⟨C,Si,df⟩:=hC
 refine PE.imp (oz (Sg df) hg hm JF (gp ha (gp (LS (v:=.ref C) vS Si rfl Ce) jO d_) hs) (by decide) (by decide) hs cu) fun σ H Q ah=>?_
 obtain⟨ρ,w,t,r',q,ρ',gd,ee,k⟩:=ah
 unfold qy at ee
 split at ee
 next n q1 ρ1 h1=>
  split at ee
  next hL=>
   cases ee
   refine⟨ρ,w,t,_,_,_,gd,h1,fun v H1 w1 F1 g1 aF r1=>?_⟩
   exact⟨v,w1,_,_,F1,n,rfl,hL,r1,k _ H1 (bG t w1) [] g1.drop.up (aF.drop gd.wt) (.bl _)⟩
  ·cases ee
 ·cases ee⟩
def Sj:jM X (.builtin "isinstance") (fun xs H Q=>∃ x w o q F n,xs=[x,.ty "ValueError"]/\Rep X.K H w o q (.exc n) x F/\Q (.bl true) H):=by
 intro pins s σ H xs us Q I r hh
 obtain⟨x,w,o,q,F,n,rfl,rd,hq⟩:=hh
 obtain⟨u,v,rfl,ru,rv⟩:=yj r
 cases rv
 cases rd with
 | exc ha xo _=>
  obtain⟨B,hc,k⟩:=xo
  cases ru
  obtain⟨e1,_⟩:=(show cU X.prog X.w H s.heap _ (.eE _ _)from I.az _ _ ha)
  exact OL I.fi ⟨e1,hc⟩ (by kernel_rfl) k.ve ⟨.bl true,H,I,rfl,hq⟩
def Cw (fa:aB):aB:=fun ρ=>match fa ρ with
 | some (.exc n,_,ρ1)=>some (.bl true,9,ρ1)
 | _=>none
def Sk(hm:X.mg "isinstance" = none)(Cd:X.mg "ValueError" = none)(ha:QD X a fa)(hg:Gl X "isinstance":=by rfl)(vS:Gl X "ValueError":=by rfl)(hs:starEach [a,.Name "ValueError" pT] X.env=(false,eval a X.env)::starEach [.Name "ValueError" pT] X.env:=by rfl)(cu:(backTo pos (starEach [.Name "ValueError" pT] X.env)).any (·.1)=false:=by rfl):QD X (.Call (.Name "isinstance" p) [a,.Name "ValueError" pT] [] pos) (Cw fa):=⟨have ha:=ha.o;by
 refine PE.imp (oz Sj hg hm JF (gp ha (gp (EA (v:=.ty "ValueError") vS Cd (by kernel_rfl) rfl (by decide) (by decide)) jO d_) hs) (by decide) (by decide) hs cu) fun σ H Q ah=>?_
 obtain⟨ρ,w,t,r',q,ρ',gd,ee,k⟩:=ah
 unfold Cw at ee
 split at ee
 next n q1 ρ1 h1=>
  cases ee
  refine⟨ρ,w,t,_,_,_,gd,h1,fun v H1 w1 F1 g1 aF r1=>?_⟩
  exact⟨v,w1,_,_,F1,n,rfl,r1,k _ H1 (bG t w1) [] g1.drop.up (aF.drop gd.wt) (.bl _)⟩
 ·cases ee⟩
def o9:D->D->Option D
 | .aK,.aK=>some (.bl true)
 | .exc _,.aK=>some (.bl false)
 | .int _,.aK=>some (.bl false)
 | .tup _,.aK=>some (.bl false)
 | .str _,.aK=>some (.bl false)
 | _,_=>none
def GH:R2:=fun x y H Q=>y=.aK/\((x=.aK/\Q (.bl true) H)\/((∃ i,x=.int i)\/(∃ i,x=.str i)\/(∃ i,x=.ref i))/\Q (.bl false) H)
def AO:dC X (compareOp .Is) GH:=by
 intro pins s σ H x y v u Q I rx ry h
 obtain⟨rfl,h⟩:=h
 cases ry
 rcases h with⟨rfl,q⟩|⟨⟨i,rfl⟩|⟨i,rfl⟩|⟨i,rfl⟩,q⟩
 ·cases rx
  exact Qd ⟨.bl true,H,I,rfl,q⟩
 ·obtain⟨t,rfl⟩:=rx
  exact Qd ⟨.bl false,H,I,rfl,q⟩
 ·obtain⟨t,rfl⟩:=rx
  exact Qd ⟨.bl false,H,I,rfl,q⟩
 ·cases rx
  exact Qd ⟨.bl false,H,I,rfl,q⟩
def GI:∀ σ H Q,tD K (e2 o9 fa fb) σ H Q->iO GH (tD K fa) (tD K fb) σ H Q:=p_ fun x y d h=>by
 unfold o9 at h
 split at h
 ·cases h
  exact⟨_,rfl,fun H w o o' q q' u u' F F' r1 r2 _ Q hq=>by cases r1;cases r2;exact⟨rfl,.inl ⟨rfl,hq⟩⟩⟩
 ·cases h
  exact⟨_,rfl,fun H w o o' q q' u u' F F' r1 r2 _ Q hq=>by cases r1;cases r2;exact⟨rfl,.inr ⟨.inr (.inr ⟨_,rfl⟩),hq⟩⟩⟩
 ·cases h
  exact⟨_,rfl,fun H w o o' q q' u u' F F' r1 r2 _ Q hq=>by cases r1;cases r2;exact⟨rfl,.inr ⟨.inl ⟨_,rfl⟩,hq⟩⟩⟩
 ·cases h
  exact⟨_,rfl,fun H w o o' q q' u u' F F' r1 r2 _ Q hq=>by cases r1;cases r2;exact⟨rfl,.inr ⟨.inr (.inr ⟨_,rfl⟩),hq⟩⟩⟩
 ·cases h
  exact⟨_,rfl,fun H w o o' q q' u u' F F' r1 r2 _ Q hq=>by cases r1;cases r2;exact⟨rfl,.inr ⟨.inr (.inl ⟨_,rfl⟩),hq⟩⟩⟩
 ·cases h
def Sl(ha:QD X a fa)(hb:QD X b fb):QD X (.Compare a [.Is] [b] pos) (e2 o9 fa fb):=⟨have ha:=ha.o;have hb:=hb.o;BM AO GI ha hb (pQ _)⟩
def Sn(ha:QD X a fa)(hb:QD X b fb):f_ X (.Compare a [.Is] [b] pos) (a_ (e2 o9 fa fb)):=⟨have ha:=ha.o;have hb:=hb.o;qe AO GI ha hb (pQ _)⟩
def wx (d:D)(ds:List D):Nat:=(cZ ds).countP fun y=>PyData.eqv y (ck d)
def Sr (K:PySem.W.Frag):V->List V->Hp->VK->Prop:=fun x xs H Q=>∃ ds d y,xs=[y]/\Is K H (.lst ds) x/\Is K H d y/\dH (.lst ds)=true/\dH d=true/\Q (.int (Int.ofNat (wx d ds))) H
def Ss(hu:X.A.units+65<cLine):yo X "list.count" (Sr X.K):=by
 intro pins s σ H x xs v us Q I rx rs ⟨ds,d,y,e,⟨w,o,q,F,h1⟩,⟨w',o',q',F',h2⟩,k1,k2,hq⟩
 subst e
 obtain⟨u,rfl,ru⟩:=lN rs
 obtain⟨as,ra⟩:=h1.reads I rx (ko k1)
 obtain⟨bs,rb⟩:=h2.reads I ru (ko k2)
 replace k1:=kq k1
 replace k2:=kq k2
 unfold ck at ra k1
 have mH:PyData.canLayAll0 (cZ ds)=true:=QT k1
 have qr:=QT k2
 cases ra with
 | @list a ob vs n _ _ ho mJ hd nS=>
  obtain⟨cls,dd,data,sl⟩:=ob
  simp only at mJ hd
  subst mJ hd
  have jV:=Y5 _ _ _ mH nS
  have Cy:vs.toList.countP (fun y=>PyData.eqv (SeqAt.readOf s.heap y) (ck d))=wx d ds:=by
   unfold wx
   rw[<- jV,List.countP_map]
   rfl
  refine Jo Vx ⟨_,ho,rfl⟩ PySem.F.entry_list_count (PySem.F.args_list_count_2 _ _)
   (list_countAt a vs n dd sl u (fun y=>PyData.eqv (SeqAt.readOf s.heap y) (ck d))) ⟨ho,Vv nS rb mH qr (Ju k2 hu),?_⟩
  rw[Cy]
  exact⟨.int (Int.ofNat (wx d ds)),H,I.tok _,⟨_,rfl⟩,hq⟩
def Cz (fo:aB)(g:b_):aB:=fun ρ=>match fo ρ with
 | some (.lst ds,_,ρ1)=>match g ρ1 with
  | some ([d],ρ2)=>if dH (.lst ds)=true/\dH d=true then some (.int (Int.ofNat (wx d ds)),9,ρ2)else none
  | _=>none
 | _=>none
def Su (K:PySem.W.Frag):V->List V->Hp->VK->Prop:=fun x xs H Q=>∃ ds d y j,xs=[y]/\Is K H (.lst ds) x/\Is K H d y/\dH (.lst ds)=true/\dH d=true/\ud d ds=some j/\(j:Int)<1000/\Q (.int (Int.ofNat j)) H
def Sv(hu:X.A.units+65<cLine):yo X "list.index" (Su X.K):=by
 intro pins s σ H x xs v us Q I rx rs ⟨ds,d,y,j,e,⟨w,o,q,F,h1⟩,⟨w',o',q',F',h2⟩,k1,k2,hj,sA,hq⟩
 subst e
 obtain⟨u,rfl,ru⟩:=lN rs
 obtain⟨as,ra⟩:=h1.reads I rx (ko k1)
 obtain⟨bs,rb⟩:=h2.reads I ru (ko k2)
 replace k1:=kq k1
 replace k2:=kq k2
 unfold ck at ra k1
 have mH:PyData.canLayAll0 (cZ ds)=true:=QT k1
 have qr:=QT k2
 cases ra with
 | @list a ob vs n _ _ ho mJ hd nS=>
  obtain⟨cls,dd,data,sl⟩:=ob
  simp only at mJ hd
  subst mJ hd
  have jV:=Y5 _ _ _ mH nS
  have B1:=Yg.mp hj
  obtain⟨ue,B2,B3⟩:=B1
  have hlen:vs.size=(cZ ds).length:=by rw[<- jV];simp
  have mK:∀ m (hm:m<vs.size) (fD:m<(cZ ds).length),SeqAt.readOf s.heap vs[m]=(cZ ds)[m]:=fun m hm fD=>by
   have:(vs.toList.map (SeqAt.readOf s.heap))[m]? = (cZ ds)[m]?:=by rw[jV]
   simpa [hm,fD]using this
  refine Jo Vy ⟨_,ho,rfl⟩ PySem.F.entry_list_index (PySem.F.args_list_index_2 _ _)
   (list_indexAt a vs n dd sl u (fun y=>PyData.eqv (SeqAt.readOf s.heap y) (ck d)) j (by omega) (by omega) (by rw[mK j (by omega) ue];simpa using B2) (fun m hm B4=>by rw[mK m hm (by omega)];simpa using B3 m B4)) ⟨ho,Vv nS rb mH qr (Ju k2 hu),?_⟩
  exact⟨.int (Int.ofNat j),H,I.tok _,⟨_,rfl⟩,hq⟩
def CA (fo:aB)(g:b_):aB:=fun ρ=>match fo ρ with
 | some (.lst ds,_,ρ1)=>match g ρ1 with
  | some ([d],ρ2)=>if dH (.lst ds)=true/\dH d=true then match ud d ds with
   | some j=>if(j:Int)<1000 then some (.int (Int.ofNat j),9,ρ2)else none
   | none=>none
   else none
  | _=>none
 | _=>none
def Rep.GJ{H:Hp}{w:Wn}{ds:List D}{v:V}{F:List Addr}(r:Rep K H w .f 0 (.lst ds) v F):∃ a us,v=.ref a/\cE K H a us:=by
 cases r with
 | kl h _=>exact⟨_,_,rfl,.inr h⟩
 | shr h _ _=>exact⟨_,_,rfl,.inl h⟩
def Sw{k:Nat}(hr:aS k X.A)(ho:QD X a fa)(ha:f9 X [e] g)(bE:attributeBase a "count" X.env (eval a X.env)=eval a X.env:=by rfl)(cJ:((backTo ak (starEach [e] X.env)).all (fun x=>!x.1)&&(backToKw ak (keywordEach [] X.env)).all (fun x=>x.1.isSome)
   && decide ([e].length+([]:List Keyword).length+(if([]:List Keyword).isEmpty then 0 else 1)<30))=true:=by rfl) (bF:(apos.endLine==ak.line)=true:=by rfl) (hs:starEach [e] X.env=(false,eval e X.env)::starEach [] X.env:=by rfl) (bW:(backTo ak (starEach [] X.env)).any (·.1)=false:=by rfl):QD X (.Call (.Attribute a "count" apos) [e] [] ak) (Cz fa g):=⟨have ho:=ho.o;have ha:=ha.o;PE.imp (tZ Z1 Vx PySem.F.type_list_count (Ss (sh hr)) ho ha bE cJ bF hs bW) fun σ H Q ah=>by
 obtain⟨ρ,w,t,r',q,ρ',gd,ee,k⟩:=ah
 unfold Cz at ee
 split at ee
 next ds q1 ρ1 h1=>
  split at ee
  next d ρ2 h2=>
   split at ee
   next az=>
    cases ee
    refine⟨ρ,w,t,_,_,_,gd,h1,fun v H1 w1 F1 g1 aF r1=>?_⟩
    have r0:=r1.drop (o:=.f) (Qh t)
    have gg:=g1.drop (t':=t)
    obtain⟨p0,us,rfl,hq⟩:=Rep.GJ r0
    refine⟨.inl ⟨rfl,us,hq⟩,ρ1,bG t w1,t,_,_,gg,h2,fun Gi H2 w2 g2 bj r2=>?_⟩
    obtain⟨v2,rfl,vI⟩:=one r2
    have r3:Rep X.K H2 w2 .f 0 (.lst ds) (.ref p0) []:=r0.oR gg.wl bj.bA
    exact⟨ds,d,v2,rfl,⟨_,_,_,_,r3⟩,⟨_,_,_,_,vI⟩,az.1,az.2,k _ H2 w2 [] g2.up ((aF.drop gd.wt).trans bj) (.int _)⟩
   ·cases ee
  ·cases ee
 ·cases ee⟩
def Sx{k:Nat}(hr:aS k X.A)(ho:QD X a fa)(ha:f9 X [e] g)(bE:attributeBase a "index" X.env (eval a X.env)=eval a X.env:=by rfl)(cJ:((backTo ak (starEach [e] X.env)).all (fun x=>!x.1)&&(backToKw ak (keywordEach [] X.env)).all (fun x=>x.1.isSome)
   && decide ([e].length+([]:List Keyword).length+(if([]:List Keyword).isEmpty then 0 else 1)<30))=true:=by rfl) (bF:(apos.endLine==ak.line)=true:=by rfl) (hs:starEach [e] X.env=(false,eval e X.env)::starEach [] X.env:=by rfl) (bW:(backTo ak (starEach [] X.env)).any (·.1)=false:=by rfl):QD X (.Call (.Attribute a "index" apos) [e] [] ak) (CA fa g):=⟨have ho:=ho.o;have ha:=ha.o;PE.imp (tZ Z1 Vy PySem.F.type_list_index (Sv (sh hr)) ho ha bE cJ bF hs bW) fun σ H Q ah=>by
 obtain⟨ρ,w,t,r',q,ρ',gd,ee,k⟩:=ah
 unfold CA at ee
 split at ee
 next ds q1 ρ1 h1=>
  split at ee
  next d ρ2 h2=>
   split at ee
   next az=>
    split at ee
    next j hj=>
     split at ee
     next sA=>
      cases ee
      refine⟨ρ,w,t,_,_,_,gd,h1,fun v H1 w1 F1 g1 aF r1=>?_⟩
      have r0:=r1.drop (o:=.f) (Qh t)
      have gg:=g1.drop (t':=t)
      obtain⟨p0,us,rfl,hq⟩:=Rep.GJ r0
      refine⟨.inl ⟨rfl,us,hq⟩,ρ1,bG t w1,t,_,_,gg,h2,fun Gi H2 w2 g2 bj r2=>?_⟩
      obtain⟨v2,rfl,vI⟩:=one r2
      have r3:Rep X.K H2 w2 .f 0 (.lst ds) (.ref p0) []:=r0.oR gg.wl bj.bA
      exact⟨ds,d,v2,j,rfl,⟨_,_,_,_,r3⟩,⟨_,_,_,_,vI⟩,az.1,az.2,hj,sA,k _ H2 w2 [] g2.up ((aF.drop gd.wt).trans bj) (.int _)⟩
     ·cases ee
    ·cases ee
   ·cases ee
  ·cases ee
 ·cases ee⟩
end
end L3
namespace L3
open PySem PySem.Spec PyProof.Rows L2
end L3
namespace L3
open PySem PySem.Spec PyProof.Rows PySem.W L2
def qz:gP:=fun _=>none
def sC (x y:gP):gP:=fun ρ=>match x ρ with
 | some nm=>some nm
 | none=>y ρ
def wy (f:aN)(x:gP):gP:=fun ρ=>match f ρ with
 | some (.nx ρ1)=>x ρ1
 | _=>none
def lg (g:cF)(x y:gP):gP:=fun ρ=>match g ρ with
 | some (b,ρ1)=>if b=true then x ρ1 else y ρ1
 | none=>none
def qA (nm:Str):gP:=fun _=>some nm
def mU (pt:eV)(s:aN)(xb:gP):List D->aW->Option Str
 | [],_=>none
 | d::ds,ρ=>match pt d ρ with
  | none=>none
  | some ρ1=>match xb ρ1 with
   | some nm=>some nm
   | none=>match s ρ1 with
    | some (.nx ρ2)=>mU pt s xb ds ρ2
    | some (.ct ρ2)=>mU pt s xb ds ρ2
    | _=>none
def zi (it:jB)(pt:eV)(s:aN)(xb:gP):gP:=fun ρ=>match it ρ with
 | some (ds,ρ1)=>mU pt s xb ds ρ1
 | none=>none
abbrev Sy (X:Cx)(E:XK)(st:Stmt)(x:gP):Prop:=PS X st (tX X.K x E)
structure zj (X:Cx) (E:XK) (e:Stmt) (x:gP):Prop where mk::o:Sy X E e x
abbrev Sz (X:Cx)(E:XK)(ss:List Stmt)(x:gP):Prop:=gm X ss (tX X.K x E)
structure mV (X:Cx) (E:XK) (e:List Stmt) (x:gP):Prop where mk::o:Sz X E e x
section
variable {X:Cx}{E:XK}{st:Stmt}{ss bh a b:List Stmt}{x y:gP}{f:aN}{g:cF}{c e:Expr}{es:List Expr}{pos pos' p:Pos}
def GK:mV X E ss qz:=⟨fun _ _ _ _ _ _ h=>by
 obtain⟨_,_,_,_,e,_⟩:=h
 cases e⟩
def SA(hx:mV X E ss x)(hy:mV X E ss y):mV X E ss (sC x y):=⟨have hx:=hx.o;have hy:=hy.o;fun pins s σ H D I h=>by
 obtain⟨ρ,w,nm,g,e,k⟩:=h
 unfold sC at e
 split at e
 next wk h1=>
  cases e
  exact hx pins s σ H D I ⟨ρ,w,_,g,h1,k⟩
 ·exact hy pins s σ H D I ⟨ρ,w,nm,g,e,k⟩⟩
def GL(h1:jA X st f)(h2:mV X E bh x):mV X E (st::bh) (wy f x):=⟨have h1:=h1.o;have h2:=h2.o;gm.imp (EB h1 h2) fun D σ H ah=>by
 obtain⟨ρ,w,nm,g,e,k⟩:=ah
 unfold wy at e
 split at e
 next ρ1 h1=>
  exact⟨ρ,w,.nx ρ1,g,h1,fun aM H' w' hl g' fU=>⟨ρ1,w',nm,g',e,fun C H2 w2 n wl bj=>k C H2 w2 n wl (fU.trans bj)⟩⟩
 ·cases e⟩
def wz(h:zj X E st x):mV X E (st::bh) x:=⟨have h:=h.o;by
 intro pins s σ H D I hh
 refine Yt (aV (h pins s σ H { nx:=fun _ _=>False,rt:=fun _ _=>False } I hh) fun fl s1 q=>?_)
 cases fl with
 | next=>obtain⟨_,_,_,z⟩:=q;exact z.elim
 | brk=>obtain⟨_,_,_,z⟩:=q;exact z.elim
 | cont=>obtain⟨_,_,_,z⟩:=q;exact z.elim
 | ret u=>obtain⟨_,_,_,_,_,z⟩:=q;exact z.elim⟩
def GN(hc:f_ X c g)(ha:mV X E a x)(hb:mV X E b y):zj X E (.If c a b pos) (lg g x y):=⟨have hc:=hc.o;have ha:=ha.o;have hb:=hb.o;PS.imp (EE hc ha hb) fun D σ H ah=>by
 obtain⟨ρ,w,nm,gd,e,k⟩:=ah
 unfold lg at e
 split at e
 next b' ρ1 h1=>
  refine⟨ρ,w,0,b',ρ1,gd,h1,fun H1 w1 g1 aF=>?_⟩
  cases b' with
  | true=>exact⟨ρ1,w1,nm,g1,e,fun C H2 w2 n wl bj=>k C H2 w2 n wl (aF.trans bj)⟩
  | false=>exact⟨ρ1,w1,nm,g1,e,fun C H2 w2 n wl bj=>k C H2 w2 n wl (aF.trans bj)⟩
 ·cases e⟩
def SD{tg iter:Expr}{it:jB}{pt:eV}{body:List Stmt}{s:aN}{xb:gP}(hp:PassesOwn (model X.prog X.w) X.A X.env X.xe)(hc:X.calm=true)(hi:se X tg iter it)(hg:qh X 0 tg pt)(hb:fV X body s)(hx:mV X E body xb)(hs:∀ x,foldedSetIterable iter X.env x=pure x:=by intro _;rfl):zj X E (.For tg iter body [] pos) (zi it pt s xb):=⟨have hi:=hi.o;have hg:=hg.o;have hb:=hb.o;have hx:=hx.o;by
 have gQ:gm X body (fun D σ H=>vD X.K s D σ H\/tX X.K xb E D σ H):=fun pins s σ H D I h=>h.elim (fun z=>hb pins s σ H D I z) fun z=>hx pins s σ H D I z
 refine PS.imp (EJ hp hc hi hg gQ hs) fun D σ H ah=>?_
 obtain⟨ρ,w,nm,g,ee,k⟩:=ah
 unfold zi at ee
 split at ee
 next ds ρ1 h1=>
  refine⟨ρ,w,0,ds,ρ1,g,h1,fun J P H1 w1 g1 aF ok p1 hl=>?_⟩
  refine⟨fun i m aM H'=>m=ds.length-i/\i<=ds.length/\aM.length=σ.length/\∃ ρ' w',Good X.K ρ' aM H' w' 0/\P H' w'/\mU pt s xb (ds.drop i) ρ'=some nm/\∀ C H2 w2,nsIn X.K mainGlobals nm=some (some (.ref C))->WL X.K w2 H2->Go H' w' H2 w2->E (.ref C) none H2,
   ⟨ds.length,by simp,QL _,rfl,ρ1,w1,g1,p1,ee,fun C H2 w2 n wl bj=>k C H2 w2 n wl (aF.trans bj)⟩,?_⟩
  rintro i m aM H' ⟨rfl,mD,cL,ρ',w',g',p',e',k'⟩
  by_cases bY:i<ds.length
  ·refine .inr ⟨ok.go i H' w' p' bY,fun jK H2=>ds.length-(i+1)=ds.length-(i+1)/\i+1<=ds.length/\jK.length=σ.length/\∃ ρ2 w2,Good X.K ρ2 jK H2 w2 0/\P H2 w2/\mU pt s xb (ds.drop (i+1)) ρ2=some nm/\∀ C H3 w3,nsIn X.K mainGlobals nm=some (some (.ref C))->WL X.K w3 H3->Go H2 w2 H3 w3->E (.ref C) none H3,
    fun jK H2 n2=>⟨ds.length-(i+1),by omega,n2⟩,fun x H2 hy=>?_⟩
   obtain⟨mo,rx,p2⟩:=ok.pM i H' w' x H2 ds[i] p' g'.wl (Qb bY) hy
   obtain⟨g2,bj⟩:=g'.more mo
   have ed:ds.drop i=ds[i]::ds.drop (i+1):=JU bY
   rw[ed]at e'
   unfold mU at e'
   split at e'
   ·cases e'
   next eY h3=>
    refine⟨ds[i],ρ',w',0,eY,g2,rx,h3,fun p6 H4 w4 l4 _ g4 ja=>?_⟩
    have p4:=ok.st _ _ _ _ p2 g2.wl ja.bA
    split at e'
    next wk h5=>
     cases e'
     exact .inr ⟨eY,w4,_,g4,h5,fun C H5 w5 n wl gf=>k' C H5 w5 n wl ((bj.trans ja).trans gf)⟩
    ·refine .inl ?_
     have nx:∀ {fB:aW},mU pt s xb (ds.drop (i+1)) fB=some nm->∀ g7 H5 w5,g7.length=p6.length->Good X.K fB g7 H5 w5 0->Go H4 w4 H5 w5->ds.length-(i+1)=ds.length-(i+1)/\i+1<=ds.length/\g7.length=σ.length/\∃ ρ2 w2,Good X.K ρ2 g7 H5 w2 0/\P H5 w2/\mU pt s xb (ds.drop (i+1)) ρ2=some nm/\∀ C H3 w3,nsIn X.K mainGlobals nm=some (some (.ref C))->WL X.K w3 H3->Go H5 w2 H3 w3->E (.ref C) none H3:=fun {fB} e5 g7 H5 w5 l5 g5 gf=>
      ⟨rfl,bY,by rw[l5,l4,cL],fB,w5,g5,ok.st _ _ _ _ p4 g4.wl gf.bA,e5,fun C H6 w6 n wl vE=>k' C H6 w6 n wl (((bj.trans ja).trans gf).trans vE)⟩
     split at e'
     next fB h6=>
      exact⟨eY,w4,.nx fB,g4,h6,nx e'⟩
     next fB h6=>
      exact⟨eY,w4,.ct fB,g4,h6,nx e'⟩
     ·cases e'
  ·have cT:i=ds.length:=J9 mD (Y3.mp bY)
   subst cT
   have ed:ds.drop ds.length=[]:=by simp
   rw[ed]at e'
   cases e'
 ·cases ee⟩
end
section
variable {P:Program}{w:World}{K:PySem.W.Frag}{mg:Str->Option Value}{base:Heap}{N:List Str}{qual:Str}{scope:Scope}{f:Addr}{cd:Value}{A:Around}{outer:List Env}{aP:Shared}{cy:Hp}{E:XK}
def GO{nm txt:Str}{k j:Nat}{np ak my pos:Pos}(hr:aS k (A.deeper (envOfC qual scope aP.heap.objs.size f cd)))(hC:∃ C,Co K mg nm C)(hg:Gl (oZ P w K mg base N qual scope f cd A outer aP cy E) nm:=by rfl)(gU:(nm==("__debug__":Str))=false:=by decide):zj (oZ P w K mg base N qual scope f cd A outer aP cy E) E (.Raise (some (.Call (.Name nm np) [.Constant (.str txt) j my] [] ak)) none pos) (qA nm):=⟨by
 obtain⟨C,hC⟩:=hC
 refine PS.imp (R6 hr.hd hC hg gU) fun D σ H ah=>?_
 obtain⟨ρ,w',wk,g,e,k⟩:=ah
 cases e
 exact k C H w' hC.ns g.wl Go.refl⟩
end
abbrev sD:=aW->Option (Str×aW)
def CE (Y:Cx)(pins:List (Addr×Obj))(σ:St)(H:Hp)(w:Wn)(nm:Str)(ρ1:aW)(ev:Value)(s':Shared):Prop:=
 ∃ s1 H1 w1 a C t B H',ev=.ref a/\Inv Y.iW pins σ H1 s1/\Good Y.K ρ1 σ H1 w1 0/\Go H w H1 w1/\oY Y.prog Y.w Y.stack H1 s1 a C t B H' s'/\nsIn Y.K mainGlobals nm=some (some (.ref C))/\(∀ b o,H1 b=some o->Sm o (H' b))/\TB Y.K H'
def SE (Y:Cx)(st:Stmt)(y:sD):Prop:=∀ (pins:List (Addr×Obj)) (s:Shared) (σ:St) (H:Hp) (ρ:aW) (w:Wn) (nm:Str) (ρ1:aW),Inv Y.iW pins σ H s->Good Y.K ρ σ H w 0->y ρ=some (nm,ρ1)->
 wpAny (model Y.prog Y.w) Y.A (exec st Y.env) (fun _ _=>False) (CE Y pins σ H w nm ρ1) s
structure GP (Y:Cx) (e:Stmt) (y:sD):Prop where mk::o:SE Y e y
def SF (Y:Cx)(ss:List Stmt)(y:sD):Prop:=∀ (pins:List (Addr×Obj)) (s:Shared) (σ:St) (H:Hp) (ρ:aW) (w:Wn) (nm:Str) (ρ1:aW),Inv Y.iW pins σ H s->Good Y.K ρ σ H w 0->y ρ=some (nm,ρ1)->
 wpAny (model Y.prog Y.w) Y.A (execs ss Y.env) (fun _ _=>False) (CE Y pins σ H w nm ρ1) s
structure GQ (Y:Cx) (e:List Stmt) (y:sD):Prop where mk::o:SF Y e y
def wA (Fx:List D->Option Str)(n:Nat)(g:b_):sD:=fun ρ=>match g ρ with
 | some (ds,ρ1)=>if ds.length=n then(Fx ds).map fun nm=>(nm,ρ1)else none
 | none=>none
def wB (L:List Str)(f:aN)(y:sD)(ie ik:Nat):aN:=fun ρ=>match y ρ with
 | some (nm,ρ1)=>if nm∈L then some (.nx (((ρ1.set ie (some (.exc nm,9))).set ik (some (.exc nm,9))).set ie none))else none
 | none=>f ρ
section
variable {Y:Cx}{c e:Expr}{es:List Expr}{g:b_}{gt:cF}{x y:sD}{a b ss:List Stmt}{st:Stmt}{pos:Pos}
def SG(h:GP Y st y):GQ Y [st] y:=⟨have h:=h.o;fun pins s σ H ρ w nm ρ1 I gd e=>
 Yt (aV (h pins s σ H ρ w nm ρ1 I gd e) fun _ _ z=>z.elim)⟩
def SH{z u:Str}{Fx:List D->Option Str}{j k n:Nat}{yp fp ak iZ:Pos}(CX:o7 Y.prog Y.w Y.K Y.mg Y.base k z n Fx)(hr:aS j Y.A)(hk:k<=j)(ha:f9 Y.iW (e::es) g)(SI:Gl Y z:=by rfl)(SJ:(z==("__debug__":Str))=false:=by decide)(SK:swapsWith (.Call (.Name z fp) (e::es) [] ak) (some (.Name u yp)) iZ.line Y.env=pure false:=by rfl)(he:starEach (e::es) Y.env=(false,eval e Y.env)::starEach es Y.env:=by rfl)(cu:(backTo ak (starEach es Y.env)).any (·.1)=false:=by rfl):GP Y (.Assign [.Name u yp] (.Call (.Name z fp) (e::es) [] ak) iZ) (wA Fx n g):=⟨have ha:=ha.o;by
 intro pins s σ H ρ w nm ρ1 I gd ee
 unfold wA at ee
 split at ee
 next ds ρ2 h1=>
  split at ee
  next hn=>
   obtain⟨wk,hx,e0⟩:=Qx.mp ee
   cases e0
   obtain⟨fn,fd,ps,G,hm,sr,hb⟩:=CX
   refine wpAny_Assign_Name ?_ SK
   refine Yd (u7 (X:=Y.iW) I SI hm ?_ SJ)
   refine PySem.W.callWith_K (h₀:=Y.base) I.ok.mod.uZ sr (Zs (ha ak pins s σ H (fun vs H1=>∃ w1,Good Y.K ρ1 σ H1 w1 0/\Go H w H1 w1/\af Y.K H1 w1 .f 0 ds vs []) I ⟨ρ,w,0,ds,ρ1,gd,h1,fun vs H1 w1 g1 aF r1=>⟨w1,g1,aF,r1⟩⟩) (fun us s1 BS=>?_) (fun _ _ z=>False.elim z)) he cu
   obtain⟨vs,H1,I1,rv,w1,g1,aF,r1⟩:=BS
   refine⟨I1.fi,?_⟩
   have jP:GF Y.K n Fx vs H1 (fun _ _=>False) (fun c _ H'=>∃ C,c=.ref C/\nsIn Y.K mainGlobals nm=some (some (.ref C))/\(∀ b o,H1 b=some o->Sm o (H' b))/\TB Y.K H'):=by
    refine⟨by rw[<- r1.length];exact hn,ds,fun a=>(w1 a).map fun _=>Ow.f,nm,fun a o e=>?_,⟨fun a o e=>?_,g1.wl.tb⟩,?_,hx,fun C H2 w2 pV BJ bj=>⟨C,rfl,pV,fun b o e=>?_,BJ.tb⟩⟩
    ·try dsimp only at e
     cases ew:w1 a with
     | none=>rw[ew]at e;cases e
     | some o'=>rw[ew]at e;cases e;rfl
    ·try dsimp only at e
     cases ew:w1 a with
     | none=>rw[ew]at e;cases e
     | some o'=>exact g1.wl a o' ew
    ·exact af.freeze (fun a n=>by show(w1 a).map _=_;rw[n];rfl) r1 nM
    ·cases ew:w1 b with
     | none=>exact(bj.bA b o e (by show(w1 b).map _=_;rw[ew];rfl)).1
     | some o'=>exact sm (((bj.keep b .f (by show(w1 b).map _=_;rw[ew];rfl) (fun i z=>nomatch z)).1).trans e)
   have hl:us.length=ps.length:=by rw[<- rv.length];exact G.len _ _ _ _ jP
   have yr:=hb s1 us I1.fi (by rw[ZQ];exact hl)
   rw[ZQ]at yr
   refine VE (JP (G.run Y.A Y.stack s1 H1 ⟨us,[]⟩ us vs _ _ (hr.mono hk) I1.va yr rv jP) fun r s' hq=>?_)
   cases r with
   | ok fl=>
    cases fl with
    | ret u=>obtain⟨_,_,_,z⟩:=I1.after hq;exact z.2.elim
    | next=>exact False.elim hq
    | brk=>exact False.elim hq
    | cont=>exact False.elim hq
   | error ev=>
    obtain⟨a,C,t,B,H',rfl,F',C',eC,pV,o_,CB⟩:=hq
    cases eC
    exact⟨s1,H1,w1,a,C,t,B,H',rfl,I1,g1,aF,F',pV,o_,CB⟩
  ·cases ee
 ·cases ee⟩
def SM{R nn kx:Str}{L:List Str}{f:aN}{ie ik:Nat}{np kp vp apos mO:Pos}(hU:o8 Y.K Y.mg R L)(hf:fV Y.iW ss f)(hx:GQ Y ss y)(hN:Y.N.Nodup)(sy:Y.N[ie]? = some nn)(uc:Y.N[ik]? = some kx)(dZ:Y.stack=Y.env::Y.outer:=by rfl)(Cq:Y.env.frame=some Y.env.locals:=by rfl)(bK:Y.env.scope.names.lookup nn=some .local:=by rfl)(zh:Y.env.scope.names.lookup kx=some .local:=by rfl)(hg:Gl Y R:=by rfl)(gU:(R==("__debug__":Str))=false:=by decide)(wm:(nn==("__debug__":Str))=false:=by decide)(Cs:(nn==("__classdict__":Str))=false:=by decide)(rS:swapsWith (.Name nn vp) (some (.Name kx kp)) apos.line Y.env=pure false:=by rfl):jA Y.iW (.Try ss [.ExceptHandler (some (.Name R np)) (some nn) [.Assign [.Name kx kp] (.Name nn vp) apos] mO] [] [] pos) (wB L f y ie ik):=⟨have hf:=hf.o;have hx:=hx.o;by
 intro pins s σ H Dn I hh
 obtain⟨ρ,w,o,gd,ee,K'⟩:=hh
 unfold wB at ee
 refine wpAny_Try_except ?_
 split at ee
 next nm ρ1 h1=>
  split at ee
  next hL=>
   cases ee
   obtain⟨RA,hR,Cr,hmg,df⟩:=hU
   refine Zs (hx pins s σ H ρ w nm ρ1 I gd h1) (fun _ _ z=>z.elim) fun ev s' q=>?_
   obtain⟨s1,H1,w1,a,C,t,B,H',rfl,I1,g1,aF,F',pV,o_,CB⟩:=q
   obtain⟨SN,cz⟩:=df nm hL C pV
   refine Sa (X:=Y.iW) I1 F' dZ Cq hN sy uc bK zh hR Cr cz hmg hg gU wm Cs rS fun s5 oe yd I5=>?_
   have wC:ie<σ.length:=by rw[I.len];exact(Qq.mp sy).1
   have CC:ik<σ.length:=by rw[I.len];exact(Qq.mp uc).1
   have CD:=F'.free
   obtain⟨g2,bj⟩:=g1.grow (H':=upd H' a (uj a oe)) (fun b o q=>by
    obtain⟨y,ey,_⟩:=(o_ b o q).is
    unfold upd
    rw[Qi (fun z=>by rw[<- z,ey]at CD;cases CD)]
    exact o_ b o q) (CB.upd rfl (.inl CD))
   have rep:∀ w',Rep Y.K (upd H' a (uj a oe)) w' .f 0 (.exc nm) (.ref a) []:=fun w'=>.exc (ob:=oe) (u:=.ext fun h=>h.get? a=some oe) (by unfold upd;rw[Qf rfl];rfl) ⟨C,yd,SN⟩ (fun _ z=>nomatch z)
   obtain⟨g3,jT⟩:=g2.sf (i:=ie) wC (rep _)
   obtain⟨g4,ja⟩:=g3.sf (i:=ik) (by rw[QS];exact CC) (rep _)
   obtain⟨g5,gf⟩:=g4.unset (i:=ie) (v:=none) (by rw[QS,QS];exact wC)
   exact⟨_,_,I5,K' _ _ _ (by rw[QS,QS,QS]) g5 ((((aF.trans bj).trans jT).trans ja).trans gf)⟩
  ·cases ee
 ·refine Zs (hf pins s σ H Dn I ⟨ρ,w,o,gd,ee,K'⟩) (fun fl s1 q=>?_) (fun _ _ z=>False.elim z)
  cases fl with
  | next=>exact J4 q
  | brk=>exact q
  | cont=>exact q
  | ret u=>exact q⟩
end
end L3
namespace L3
open PySem PySem.Spec PyProof.Rows L2
def Rep.wD{K:PySem.W.Frag}{H:Hp}{w:Wn}{o:Ow}{q:Nat}{ds:List D}{v:V}{F:List Addr}(r:Rep K H w o q (.lst ds) v F)(hq:q<=1):∃ a vs,v=.ref a/\cE K H a vs/\af K H w o 0 ds vs []:=by
 cases r with
 | kl h r=>exact⟨_,_,rfl,h.sq,r⟩
 | shr h n r=>exact⟨_,_,rfl,.inl h,r⟩
 | own h n r ne=>
  rename_i q' _ _ _
  obtain rfl:q'=0:=by omega
  have e:=r.zero
  subst e
  exact⟨_,_,rfl,cE.of h,r⟩
end L3
namespace L3
open PySem PySem.Spec PyProof.Rows PySem.W L2
variable {Q:Bool->Shared->Prop}
abbrev met (ks:List Int):List Int:=firstMet (fun i=>ks.getD i 0) ks.length
theorem GR{K:PySem.W.Frag}{H:Hp}{w:Wn}{o:Ow}:∀ {ks:List Int} {vs:List V} {F:List Addr},af K H w o 0 (ks.map D.int) vs F->vs=ks.map V.int
 | [],_,_,h=>by cases h;rfl
 | k::ks,_,_,h=>by
  cases h with
  | cons r rs _=>rw[d7 r,GR rs];rfl
def bl (m:Nat):List Nat:=(List.range 5).filter fun i=>m.testBit i
def bt (m:Nat)(led:Bool):SetTable:={ mask:=if(bl m).length<5 then 7 else 31,place:=(bl m).toArray,dummies:=#[],finger:=0,led:=led,moves:=if(bl m).length<5 then 0 else 1,plain:=true }
def SO (m:Nat)(z:Nat->Tok):Array (Int×Value):=((bl m).map fun v:Nat=>(Int.ofNat v,Value.int (Int.ofNat v) (z v))).toArray
def so (m:Nat)(z:Nat->Tok)(ep:Nat)(led:Bool):Obj:={ cls:=.type "set",dict:=none,data:=.set (SO m z) ep (bt m led) }
def bor (m v:Nat):Nat:=m ||| 1 <<< v
def mb (val:Nat->Nat):Nat->Nat
 | 0=>0
 | i+1=>bor (mb val i) (val i)
section
variable {prog:Program}{w:World}{A:Around}{E:Value->Shared->Prop}{s:Shared}
abbrev gA (w:World):Bool:=w.params.followText "set-order"
def GS(led:Bool):(so 0 (fun _=>0) 0 led)={ cls:=.type "set",dict:=none,data:=.set #[] 0 (.fresh 0 0 led) }:=by unfold so;congr 1
def SQ(a:Value){Q₁:Value->Shared->Prop}(h:Q₁ (.ref s.heap.objs.size) { s with heap:=s.heap.push (so 0 (fun _=>0) 0 (!gA w)) }) :
  codeAny (model prog w) A (.call (.builtin "set.__new__") ⟨[.type "set",a],[]⟩) (wants Q₁ E) s:=by
 refine codeAny_of_tree ?_
 show wpAny _ A.in1 (do checkBuiltinCall "set.__new__" ⟨[.type "set",a],[]⟩;again (.builtin "set.__new__" ⟨[.type "set",a],[]⟩)) _ _ s
 refine Qa (V0 (PySem.F.newCall_set_1 a) (Qd ⟨plainId_quiet VQ _,Z4 PySem.F.entry_set_new ?_⟩))
 rw[Jk VQ _]
 unfold Builtin.«set.__new__» Builtin.Frozenset.newClass
 have cz:=sub_set_self
 obtain⟨hp,g,d,tk,os⟩:=s
 dsimp only
 wp_walk
 refine Vz (Qd ?_)
 dsimp only
 simp only[newObj]
 refine Qa (wpAny_alloc (Qd ?_))
 rw[GS]at h
 exact Qd h
end
theorem GU{α:Type}(next:Nat->Nat):∀ (fuel k:Nat) (bP:List α) (out:Array α),bP.length=fuel->(pickOrder.go next fuel k bP out).toList.Perm (out.toList++bP)
 | 0,k,bP,out,h=>by
  rw[List.eq_nil_of_length_eq_zero h,ZQ];exact .rfl
 | fuel+1,k,bP,out,h=>by
  unfold pickOrder.go
  have bY:next k % bP.length<bP.length:=VH _ (by omega)
  rw[Qb bY]
  dsimp only
  refine(GU next fuel (k+1) _ _ (by rw[V1,Qf bY];omega)).trans ?_
  rw[Array.toList_push,Zz]
  refine VR _ ?_
  rw[List.eraseIdx_eq_take_drop_succ]
  have e:bP=bP.take (next k % bP.length)++bP[next k % bP.length]::bP.drop (next k % bP.length+1):=by
   rw[List.getElem_cons_drop];exact(Yq _ _).symm
  conv=>rhs;rw[e]
  show List.Perm (bP[next k % bP.length]::(bP.take (next k % bP.length)++bP.drop (next k % bP.length+1))) _
  exact List.perm_middle.symm
def SR{α:Type}(next:Nat->Nat)(xs:Array α):(pickOrder next xs).toList.Perm xs.toList:=by
 unfold pickOrder
 exact GU next _ 0 _ #[] (by simp)
def SS:entryFor table "set.__iter__" = some Builtin.«frozenset.__iter__»:=
 entryFor_alias (id':="frozenset.__iter__") (by kernel_rfl) rfl (by decide +kernel) (by kernel_rfl)
def um:Slot "set_iterator" "__next__" "set_iterator.__next__" :=
 .of (owner:="set_iterator") (n:="__next__") (by rw[YJ,JH];kernel_rfl) (by decide +kernel) (by decide +kernel) (by decide +kernel)
  (by first|exact .inl (by decide +kernel)|exact .inr (by decide +kernel)) (by rw[Yk];kernel_rfl)
def GV:entryFor table "set_iterator.__next__" = some Builtin.«set_iterator.__next__»:=entryFor_of_tree (by kernel_rfl)
def GW(a:Value):argsOk "set_iterator.__next__" ⟨[a],[]⟩:=by unfold argsOk;kernel_rfl
def GX:Slot "set_iterator" "__iter__" "set_iterator.__iter__" :=
 .of (owner:="set_iterator") (n:="__iter__") (by rw[YJ,JH];kernel_rfl) (by decide +kernel) (by decide +kernel) (by decide +kernel)
  (by first|exact .inl (by decide +kernel)|exact .inr (by decide +kernel)) (by rw[Yk];kernel_rfl)
def SU(a:Value):argsOk "set_iterator.__iter__" ⟨[a],[]⟩:=by unfold argsOk;kernel_rfl
def SV:entryFor table "set_iterator.__iter__" = some Builtin.«dict_keyiterator.__iter__»:=
 entryFor_alias (id':="dict_keyiterator.__iter__") (by kernel_rfl) rfl (by decide +kernel) (by kernel_rfl)
def io (a:Addr)(sl i n ep:Nat):Obj:={ cls:=.type "set_iterator",dict:=none,data:=.fields #[.int (Int.ofNat sl) 0,.int (Int.ofNat i) 0,.ref a,.int (Int.ofNat n) 0,.int (Int.ofNat ep) 0],slots:=#[] }
section
variable {prog:Program}{w:World}{A:Around}{E:Value->Shared->Prop}{s:Shared}{a I:Addr}{m ep:Nat}{z:Nat->Tok}
def CF(h:Q (gA w) s):wpAny (model prog w) A setsByText Q E s:=by
 unfold setsByText
 exact Qa (Vz (Qd h))
def SW(hT:s.TypeIs (.ref a) "set")(h:Q false s):wpAny (model prog w) A (Builtin.List.listLengthHint (.ref a)) Q E s:=by
 unfold Builtin.List.listLengthHint
 refine Qa (YI hT PySem.F.slot_set_len.lookup ?_)
 generalize sx:("set.__len__":String)=SX
 wp_delta
 rw[show splitId SX=some ("set","__len__")from by subst sx;decide +kernel]
 subst sx
 refine Qa (Yx (T:="set") (b:=true) hT (by rw[Yk];kernel_rfl) ?_)
 refine wpAny_ite_split (fun lh=>absurd lh (by decide)) (fun _=>?_)
 refine wpAny_ite_split (fun _=>?_) (fun lh=>absurd (by decide +kernel) lh)
 refine Qa (VG hT ?_)
 exact Qd h
end
section
variable {X:Cx}{pins:List (Addr×Obj)}{σ:St}{H:Hp}{s:Shared}{a:Addr}{h1 h':Heap}{o:HO}{t':Nat}
def CG{P:Program}{w:World}{h:Heap}(x:cV P w H h)(k:∀ b u,h.get? b=some u->h1.get? b=some u)(hp:h1.objs.size<=a):H a=none:=by
 cases q:H a with
 | none=>rfl
 | some u=>exact absurd (Qw ((x a u q).fS (h':=h1) (H':=H) (fun b u _ e=>k b u e) (fun _ e=>e) (fun _ _ e=>e)).lt hp) (Q2 _)
def GY(I:Inv X pins σ H s)(k1:∀ b u,s.heap.get? b=some u->h1.get? b=some u)(hp:h1.objs.size<=a)(k:∀ b u,s.heap.get? b=some u->h'.get? b=some u)(new:cU X.prog X.w (upd H a o) h' a o) :
  Inv X pins σ (upd H a o) { s with heap:=h',toks:=t' }:=by
 have hn:=CG I.az k1 hp
 refine I.un ⟨fun b u q _ _ _=>k b u q,fun b u q _ _ _=>⟨u.slots,k b u q⟩,fun b u q n _=>?_,fun b u q _=>⟨u,k b u q⟩,fun b xs q=>by rw[bc (ib q hn)];exact q,fun b u xs q=>by rw[bc (ib q hn)];exact q,
  fun b ps q=>⟨#[],by rw[bc (ib q hn),q];simp⟩⟩ fun b u e=>?_
 ·rw[bc (QM (Qw (Qo (k1 b u q)) hp))];exact n
 ·by_cases hb:b=a
  ·subst hb;rw[fX]at e;cases e;exact new
  ·rw[bc hb]at e
   exact(I.az b u e).fS (fun c v _ q=>k c v q) (fun c q=>by rw[bc (ib q hn)];exact q) fun c xs q=>by rw[bc (ib q hn)];exact q
end
theorem yq:∀ {ks:List Int} {us:List Value},IntsAre us ks->bq (ks.map V.int) us
 | _,_,.nil=>.nil
 | _,_,.cons k t r=>.cons ⟨t,rfl⟩ (yq r)
end L3
namespace L3
open PySem PySem.Spec PyProof.Rows L2
end L3
namespace L3
open PySem PySem.Spec PyProof.Rows PySem.W L2
end L3
namespace L3
open PySem PySem.Spec PyProof.Rows L2
variable {i:Nat}
def qB (fa:aB)(i:Nat):aB:=fun ρ=>match fa ρ with
 | some (d,_,ρ1)=>match ρ1[i]? with
  | some (some (e,_))=>match fM d e with
   | some r=>some (r,9,ρ1)
   | none=>none
  | _=>none
 | none=>none
section
variable {X:Cx}{a:Expr}{fa:aB}{pos p1:Pos}
def SY{K:PySem.W.Frag}:∀ σ H Q,tD K (qB fa i) σ H Q->iO (vF K true) (tD K fa) (eR i) σ H Q:=fun σ H Q ah=>by
 obtain⟨ρ,w,t,r',q,ρ',gd,ee,k⟩:=ah
 unfold qB at ee
 split at ee
 next d q0 ρ1 h1=>
  split at ee
  next e q1 e1=>
   split at ee
   next r hd=>
    cases ee
    unfold fM at hd
    split at hd
    next hk=>
     cases hi:inD d e with
     | none=>rw[hi]at hd;cases hd
     | some b=>
      rw[hi]at hd
      cases hd
      refine⟨ρ,w,t,d,q0,ρ',gd,h1,fun v H1 w1 F g1 aF r1=>?_⟩
      obtain⟨u,F',h3,h4⟩:=g1.slot i _ q1 e1
      exact⟨u,h3,d,e,b,⟨_,_,_,_,r1⟩,⟨_,_,_,_,h4⟩,hk.1,hk.2,hi,k _ H1 _ [] (g1.drop (t':=t)).up (aF.drop gd.wt) (.bl _)⟩
    ·cases hd
   ·cases ee
  ·cases ee
 ·cases ee
def GZ{k:Nat}{x:Str}(hr:aS k X.A)(ha:QD X a fa)(hb:QE X (.Name x p1) (eR i))(hm:behindInMarks .NotIn (.Name x p1)=false:=by with_unfolding_all rfl):f_ X (.Compare a [.NotIn] [.Name x p1] pos) (a_ (qB fa i)):=⟨have ha:=ha.o;have hb:=hb.o;PT.imp (ER (BR (sh hr)) ha hb hm) (BL SY)⟩
end
end L3
namespace L3
open PySem PySem.Spec PyProof.Rows PySem.W L2
end L3
namespace L3
open PySem PySem.Spec PyProof.Rows L2
end L3
namespace L3
open PySem PySem.Spec PyProof.Rows PySem.W L2
def S0{α β:Type}{f:α->β}{ps qs:List β}(h:ps.Perm qs):∀ {l:List α},qs=l.map f->∃ l':List α,l'.Perm l/\ps=l'.map f:=by
 induction h with
 | nil=>
  intro l e
  have:=YT.mp e.symm
  subst this
  exact⟨[],.nil,rfl⟩
 | cons x _ ih=>
  intro l e
  cases l with
  | nil=>cases e
  | cons a l=>
   rw[QI]at e
   cases e
   obtain⟨l',p,e'⟩:=ih rfl
   exact⟨a::l',p.cons a,by rw[e'];rfl⟩
 | swap x y _=>
  intro l e
  match l,e with
  | [],e=>cases e
  | [a],e=>simp at e
  | a::b::l,e=>
   rw[QI,QI]at e
   cases e
   exact⟨b::a::l,.swap a b l,rfl⟩
 | trans _ _ kX kY=>
  intro l e
  obtain⟨l2,p2,e2⟩:=kY e
  obtain⟨l1,p1,e1⟩:=kX e2
  exact⟨l1,p1.trans p2,e1⟩
end L3
namespace L3
open PySem PySem.SetTable
variable {Q:Bool->Shared->Prop}{a bx:Addr}{e ep i j m mask n:Nat}{h h':Heap}{hs kx:List Int}{o:Obj}{xs:Array Nat}
def Rs (xs:Array Nat):Prop:=∀ a b,a<b->b<xs.size->xs.getD a 0<xs.getD b 0
def G0(h:i<xs.size)(a b:Nat):xs.getD i a=xs.getD i b:=by
 unfold Array.getD
 rw[V5 h,V5 h]
theorem CH(r:Rs xs)(j:Nat):∀ (fuel lo hi:Nat),hi-lo<=fuel->lo<=hi->hi<=xs.size->(∀ i,i<lo->xs.getD i 0<j)->(∀ i,hi<=i->i<xs.size->j<=xs.getD i 0)->
  below.go xs j fuel lo hi<=xs.size/\(∀ i,i<below.go xs j fuel lo hi->xs.getD i 0<j)/\(∀ i,below.go xs j fuel lo hi<=i->i<xs.size->j<=xs.getD i 0)
 | 0,lo,hi,hf,hl,hs,h1,h2=>by
  unfold below.go
  exact⟨by omega,h1,fun i a b=>h2 i (by omega) b⟩
 | fuel+1,lo,hi,hf,hl,hs,h1,h2=>by
  unfold below.go
  by_cases c:lo<hi
  ·rw[Qf c]
   have hm:(lo+hi) / 2<xs.size:=by omega
   by_cases d:xs.getD ((lo+hi) / 2) j<j
   ·rw[Qf d]
    rw[G0 hm j 0]at d
    refine CH r j fuel _ hi (by omega) (by omega) hs (fun i cT=>?_) h2
    by_cases e:i=(lo+hi) / 2
    ·rw[e];exact d
    ·exact YW (r i _ (by omega) hm) d
   ·rw[Qi d]
    rw[G0 hm j 0]at d
    refine CH r j fuel lo _ (by omega) (by omega) (by omega) h1 (fun i a b=>?_)
    by_cases e:i=(lo+hi) / 2
    ·rw[e];omega
    ·have:=r ((lo+hi) / 2) i (by omega) b
     omega
  ·rw[Qi c]
   exact⟨by omega,h1,fun i a b=>h2 i (by omega) b⟩
def wF(r:Rs xs)(j:Nat):below xs j<=xs.size/\(∀ i,i<below xs j->xs.getD i 0<j)/\(∀ i,below xs j<=i->i<xs.size->j<=xs.getD i 0):=
 CH r j xs.size 0 xs.size (by omega) (by omega) (Qh _) (fun _ h=>absurd h (Q1 _)) (fun i a b=>by omega)
def S2(r:Rs xs)(h:xs[i]? = some j):below xs j=i:=by
 obtain⟨a,b,c⟩:=wF r j
 have hi:i<xs.size:=(Jd.mp h).1
 have e:xs.getD i 0=j:=by rw[QH,h];rfl
 by_cases l:i<below xs j
 ·have:=b i l;omega
 ·by_cases l2:below xs j<i
  ·have h1:=c (below xs j) (Qh _) (by omega)
   have h2:=r (below xs j) i l2 hi
   omega
  ·omega
def wG{t:SetTable}(r:Rs t.place)(h:t.place[i]? = some j):t.slot j=.live i:=by
 unfold SetTable.slot
 rw[S2 r h]
 show(if(t.place[i]? == some j)=true then Slot.live i else _)=_
 rw[h]
 simp
def S3{t:SetTable}(hd:t.dummies = #[])(h:∀ i:Nat,t.place[i]? ≠ some j):t.slot j=.empty:=by
 unfold SetTable.slot SetTable.has
 rw[hd]
 have:(t.place[below t.place j]? == some j)=false:=by
  rw[ZM];exact h _
 simp[this]
def wH{t:SetTable}(r:Rs t.place)(hd:t.dummies = #[])(j:Nat):(∃ i:Nat,t.place[i]? = some j/\t.slot j=.live i)\/((∀ i:Nat,t.place[i]? ≠ some j)/\t.slot j=.empty):=by
 by_cases h:∃ i:Nat,t.place[i]? = some j
 ·obtain⟨i,e⟩:=h
  exact .inl ⟨i,e,wG r e⟩
 ·have h':∀ i:Nat,t.place[i]? ≠ some j:=fun i e=>h ⟨i,e⟩
  exact .inr ⟨h',S3 hd h'⟩
def kB (mask:Nat)(p:Probe):Probe:=if p.more > 0 then { p with j:=p.j+1,more:=p.more-1 }else { p with j:=(leap mask p.i p.perturb).1,more:=runEnd mask (leap mask p.i p.perturb).1-(leap mask p.i p.perturb).1,i:=(leap mask p.i p.perturb).1,perturb:=(leap mask p.i p.perturb).2 }
def bR (mask:Nat)(h:Int):Probe:={ j:=bits h % (mask+1),more:=runEnd mask (bits h % (mask+1))-bits h % (mask+1),i:=bits h % (mask+1),perturb:=bits h,dummy:=none }
def bg (mask:Nat)(p:Probe):Nat->Probe
 | 0=>p
 | m+1=>bg mask (kB mask p) m
theorem mW(mask:Nat):∀ (m k:Nat) (p:Probe),bg mask p (m+k)=bg mask (bg mask p m) k
 | 0,k,p=>by rw[Ym];rfl
 | m+1,k,p=>by
  rw[Ua]
  exact mW mask m k (kB mask p)
def lp (mask a pb:Nat):Probe:={ j:=a,more:=runEnd mask a-a,i:=a,perturb:=pb,dummy:=none }
def CI(mask:Nat):∀ (k:Nat) (p:Probe),k<=p.more->bg mask p k={ p with j:=p.j+k,more:=p.more-k }
 | 0,p,_=>rfl
 | k+1,p,h=>by
  show bg mask (kB mask p) k=_
  have e:kB mask p={ p with j:=p.j+1,more:=p.more-1 }:=by unfold kB;rw[Qf (by omega)]
  rw[e,CI mask k _ (by show k<=p.more-1;omega)]
  show({ p with j:=p.j+1+k,more:=p.more-1-k }:Probe)={ p with j:=p.j+(k+1),more:=p.more-(k+1) }
  congr 1
  ·omega
  ·omega
def S4(mask a:Nat):runEnd mask a-a<=9:=by unfold runEnd;split<;>omega
def G1(mask a pb:Nat):bg mask (lp mask a pb) (runEnd mask a-a+1)=lp mask (leap mask a pb).1 (leap mask a pb).2:=by
 rw[mW,CI mask (runEnd mask a-a) (lp mask a pb) (Qh _)]
 show kB mask { lp mask a pb with j:=a+(runEnd mask a-a),more:=runEnd mask a-a-(runEnd mask a-a) }=_
 unfold kB
 rw[Qi (by show ¬ runEnd mask a-a-(runEnd mask a-a) > 0;omega)]
 rfl
def lst (mask:Nat):Nat->Nat×Nat->Nat×Nat
 | 0,x=>x
 | s+1,x=>lst mask s (leap mask x.1 x.2)
theorem G2(mask:Nat):∀ (s:Nat) (x:Nat×Nat),∃ m,m<=10*s/\bg mask (lp mask x.1 x.2) m=lp mask (lst mask s x).1 (lst mask s x).2
 | 0,x=>⟨0,Qh _,rfl⟩
 | s+1,x=>by
  obtain⟨m,hm,e⟩:=G2 mask s (leap mask x.1 x.2)
  have h:=S4 mask x.1
  refine⟨runEnd mask x.1-x.1+1+m,by omega,?_⟩
  rw[mW,G1]
  exact e
theorem G3(mask:Nat):∀ (s r:Nat) (x:Nat×Nat),lst mask (s+r) x=lst mask r (lst mask s x)
 | 0,r,x=>by rw[Ym];rfl
 | s+1,r,x=>by rw[Ua];exact G3 mask s r _
theorem G4(mask:Nat):∀ (s:Nat) (x:Nat×Nat),(lst mask s x).2=x.2 / 32 ^ s
 | 0,x=>by rw[Nat.pow_zero,Nat.div_one];rfl
 | s+1,x=>by
  show(lst mask s (leap mask x.1 x.2)).2=_
  rw[G4 mask s,Nat.pow_succ']
  show x.2 / 32 / 32 ^ s=_
  rw[Nat.div_div_eq_div_mul]
theorem G5(mask:Nat):∀ (s:Nat) (x:Nat×Nat),x.1<=mask->(lst mask s x).1<=mask
 | 0,_,h=>h
 | s+1,x,_=>G5 mask s _ (by show(x.1*5+1+x.2 / 32) % (mask+1)<=mask;exact YL.mp (VH _ (Jz mask)))
def nW (mask:Nat):Nat->Nat->Nat
 | 0,a=>a
 | s+1,a=>nW mask s ((a*5+1) % (mask+1))
theorem G6(mask:Nat):∀ (s a:Nat),lst mask s (a,0)=(nW mask s a,0)
 | 0,_=>rfl
 | s+1,a=>by
  show lst mask s ((a*5+1+0 / 32) % (mask+1),0 / 32)=_
  rw[Nat.zero_div,Nat.add_zero]
  exact G6 mask s _
theorem zk(mask:Nat):∀ (s r a:Nat),nW mask (s+r) a=nW mask r (nW mask s a)
 | 0,r,a=>by rw[Ym];rfl
 | s+1,r,a=>by rw[Ua];exact zk mask s r _
def CJ (mask:Nat):Nat->Nat->List Nat
 | 0,_=>[]
 | s+1,a=>a::CJ mask s ((a*5+1) % (mask+1))
theorem G7(mask:Nat):∀ (n a:Nat) {e:Nat},e∈CJ mask n a->∃ s,s<n/\nW mask s a=e
 | 0,_,_,h=>nomatch h
 | n+1,a,e,h=>by
  rcases Qs.mp h with rfl|h
  ·exact⟨0,Jz _,rfl⟩
  ·obtain⟨s,hs,q⟩:=G7 mask n _ h
   exact⟨s+1,Nat.succ_lt_succ hs,q⟩
structure Mk (mask:Nat):Prop where
 all:∀ e,e<=mask->∃ s,s<mask+1/\nW mask s 0=e
 back:nW mask (mask+1) 0=0
 odd:mask % 2=1
 di:mask<=511
def Mk.of(mask:Nat)(o:mask % 2=1)(fw:mask<=511)(h:((List.range (mask+1)).all fun e=>(CJ mask (mask+1) 0).contains e)=true)(b:nW mask (mask+1) 0=0):Mk mask:=
 ⟨fun e he=>G7 mask _ 0 (by
   have:=Yu.mp h e (QA.mpr (by omega))
   exact List.contains_iff_mem.mp this),b,o,fw⟩
def G8:Mk 7:=.of 7 rfl (by decide) (by decide +kernel) (by decide +kernel)
def S5:Mk 31:=.of 31 rfl (by decide) (by decide +kernel) (by decide +kernel)
def S6:Mk 127:=.of 127 rfl (by decide) (by decide +kernel) (by decide +kernel)
def S7:Mk 511:=.of 511 rfl (by decide) (by decide +kernel) (by decide +kernel)
def Mk.any(k:Mk mask){a:Nat}(ha:a<=mask)(he:e<=mask):∃ s,s<mask+1/\nW mask s a=e:=by
 obtain⟨s0,h0,e0⟩:=k.all a ha
 obtain⟨s1,h1,e1⟩:=k.all e he
 by_cases c:s0<=s1
 ·refine⟨s1-s0,by omega,?_⟩
  rw[<- e0,<- zk,show s0+(s1-s0)=s1 by omega]
  exact e1
 ·refine⟨s1+(mask+1)-s0,by omega,?_⟩
  rw[<- e0,<- zk,show s0+(s1+(mask+1)-s0)=(mask+1)+s1 by omega,zk,k.back]
  exact e1
def S8(h:Int):bits h<2 ^ 64:=by unfold bits;omega
def CK(k:Mk mask)(h:Int)(he:e<=mask):∃ m,m<10*turns mask/\(bg mask (bR mask h) m).j=e/\∃ s,s<turns mask/\(lst mask s (bits h % (mask+1),bits h)).1=e:=by
 have h0:bits h % (mask+1)<=mask:=YL.mp (VH _ (Jz mask))
 have z:(lst mask 13 (bits h % (mask+1),bits h)).2=0:=by
  rw[G4]
  exact VA (Qw (S8 h) (by decide))
 have S_:=G5 mask 13 (bits h % (mask+1),bits h) h0
 obtain⟨s,hs,es⟩:=k.any S_ he
 have e1:lst mask (13+s) (bits h % (mask+1),bits h)=(e,0):=by
  rw[G3]
  have:lst mask 13 (bits h % (mask+1),bits h)=((lst mask 13 (bits h % (mask+1),bits h)).1,0):=by rw[<- z]
  rw[this,G6,es]
 obtain⟨m,hm,em⟩:=G2 mask (13+s) (bits h % (mask+1),bits h)
 rw[e1]at em
 refine⟨m,by unfold turns;omega,?_,13+s,by unfold turns;omega,by rw[e1]⟩
 have:bR mask h=lp mask (bits h % (mask+1)) (bits h):=rfl
 rw[this,em]
 rfl
theorem G9(mask:Nat):∀ (m:Nat) (p:Probe),p.dummy=none->(bg mask p m).dummy=none
 | 0,_,h=>h
 | m+1,p,h=>G9 mask m _ (by unfold kB;split<;>exact h)
theorem G_(t:SetTable)(hashAt:Nat->Int)(h:Int)(r:Rs t.place)(hd:t.dummies = #[]):∀ (fuel:Nat) (p:Probe),p.dummy=none->(∃ m,m<fuel/\t.slot (bg t.mask p m).j=.empty)->
  ∃ m,m<fuel/\(∀ m',m'<m->∃ i,t.slot (bg t.mask p m').j=.live i/\hashAt i≠h)/\((t.slot (bg t.mask p m).j=.empty/\probe.go t hashAt h fuel p=some (.empty (bg t.mask p m).j none))\/∃ i,t.slot (bg t.mask p m).j=.live i/\hashAt i=h/\probe.go t hashAt h fuel p=some (.candidate (bg t.mask p m).j i (bg t.mask p (m+1))))
 | 0,_,_,⟨m,hm,_⟩=>absurd hm (Q1 _)
 | fuel+1,p,hp,⟨M,hM,eM⟩=>by
  rcases wH r hd p.j with⟨i,_,e⟩|⟨_,e⟩
  ·by_cases c:hashAt i=h
   ·refine⟨0,Jz _,fun _ z=>absurd z (Q1 _),.inr ⟨i,e,c,?_⟩⟩
    show probe.go t hashAt h (fuel+1) p=some (.candidate p.j i (kB t.mask p))
    unfold probe.go
    rw[e]
    show(if(hashAt i==h)=true then _ else _)=_
    rw[Qf (by rw[c];exact Ja h)]
    rfl
   ·have n0:M≠0:=fun z=>by
     subst z
     have:t.slot p.j=.empty:=eM
     rw[e]at this;cases this
    obtain⟨M',rfl⟩:=YD n0
    have lQ:(kB t.mask p).dummy=none:=by unfold kB;split<;>exact hp
    obtain⟨m,hm,a,b⟩:=G_ t hashAt h r hd fuel (kB t.mask p) lQ ⟨M',by omega,eM⟩
    have go:probe.go t hashAt h (fuel+1) p=probe.go t hashAt h fuel (kB t.mask p):=by
     conv=>lhs;unfold probe.go
     rw[e]
     show(if(hashAt i==h)=true then _ else _)=_
     rw[Qi (by rw[Zy];exact c)]
     rfl
    refine⟨m+1,by omega,fun m' fD=>?_,?_⟩
    ·match m' with
     | 0=>exact⟨i,e,c⟩
     | m'+1=>exact a m' (by omega)
    ·rw[go]
     exact b
  ·refine⟨0,Jz _,fun _ z=>absurd z (Q1 _),.inl ⟨e,?_⟩⟩
   show probe.go t hashAt h (fuel+1) p=some (.empty p.j none)
   unfold probe.go
   rw[e]
   show some (Met.empty p.j p.dummy)=_
   rw[hp]
structure fW (t:SetTable) (hs:List Int):Prop where
 sz:t.place.size=hs.length
 rs:Rs t.place
 nd:t.dummies = #[]
 rd:Mk t.mask
 le:∀ (i j:Nat),t.place[i]? = some j->j<=t.mask
 room:hs.length<=t.mask
 wI:∀ (i j:Nat) (h:Int),t.place[i]? = some j->hs[i]? = some h->∃ m,m<10*turns t.mask/\(bg t.mask (bR t.mask h) m).j=j/\∀ m',m'<m->∃ i',t.slot (bg t.mask (bR t.mask h) m').j=.live i'
theorem CL:∀ {l l':List Nat},l.Nodup->(∀ x∈l,x∈l')->l.length<=l'.length
 | [],_,_,_=>QL _
 | a::l,l',nd,h=>by
  have ha:=h a Ql
  have i:=CL (l:=l) (l':=l'.erase a) (Q4.mp nd).2 fun x hx=>by
   have ne:x≠a:=fun z=>(Q4.mp nd).1 (z ▸ hx)
   exact(YE ne).mpr (h x (Qj _ hx))
  rw[J0 ha]at i
  have:0<l'.length:=JA ha
  show l.length+1<=l'.length
  omega
section
variable {t:SetTable}{hs:List Int}(T:fW t hs)
include T
theorem fW.hole:∃ e,e<=t.mask/\t.slot e=.empty:=by
 by_cases h:∃ e,e<=t.mask/\t.slot e=.empty
 ·exact h
 ·have all:∀ e∈List.range (t.mask+1),e∈t.place.toList:=fun e he=>by
   have v8:=QA.mp he
   rcases wH T.rs T.nd e with⟨i,a,_⟩|⟨_,a⟩
   ·obtain⟨hi,q⟩:=Jd.mp a
    rw[<- q]
    exact YB.mpr (Vh hi)
   ·exact absurd ⟨e,by omega,a⟩ h
  have:=CL Yy all
  rw[QB,QU,T.sz]at this
  have:=T.room
  omega
theorem fW.met(h:Int):∃ m,m<10*turns t.mask/\t.slot (bg t.mask (bR t.mask h) m).j=.empty/\∀ m',m'<m->∃ i,t.slot (bg t.mask (bR t.mask h) m').j=.live i:=by
 obtain⟨e,he,q⟩:=T.hole
 obtain⟨M,hM,eM,_⟩:=CK T.rd h he
 have ex:∃ m,t.slot (bg t.mask (bR t.mask h) m).j=.empty:=⟨M,by rw[eM];exact q⟩
 have key:∀ k,(∃ m,m<k/\t.slot (bg t.mask (bR t.mask h) m).j=.empty)->∃ m,m<k/\t.slot (bg t.mask (bR t.mask h) m).j=.empty/\∀ m',m'<m->t.slot (bg t.mask (bR t.mask h) m').j ≠ .empty:=by
  intro k
  induction k with
  | zero=>exact fun⟨m,hm,_⟩=>absurd hm (Q1 _)
  | succ k ih=>
   intro ⟨m,hm,em⟩
   by_cases c:∃ m,m<k/\t.slot (bg t.mask (bR t.mask h) m).j=.empty
   ·obtain⟨m',a,b⟩:=ih c
    exact⟨m',by omega,b⟩
   ·exact⟨m,hm,em,fun m' fD z=>c ⟨m',by omega,z⟩⟩
 obtain⟨m,hm,em,bm⟩:=key (10*turns t.mask) ⟨M,hM,by rw[eM];exact q⟩
 refine⟨m,hm,em,fun m' fD=>?_⟩
 rcases wH T.rs T.nd (bg t.mask (bR t.mask h) m').j with⟨i,_,a⟩|⟨_,a⟩
 ·exact⟨i,a⟩
 ·exact absurd a (bm m' fD)
end
def tU{α:Type}(xs:Array α)(p:Nat)(x:α)(hp:p<=xs.size)(i:Nat):(insertAt xs p x)[i]? = if i<p then xs[i]? else if i=p then some x else xs[i-1]?:=by
 have e:(insertAt xs p x).toList=xs.toList.take p++x::xs.toList.drop p:=by
  unfold insertAt
  simp
  exact VI (by rw[JQ,QU];exact Qh _)
 rw[<- Ze,e]
 by_cases h1:i<p
 ·rw[Qf h1,QW (by rw[Za,QU];omega),ZW h1,Ze]
 ·rw[Qi h1,Zm (by rw[Za,QU];omega),Za,QU,Nat.min_eq_left hp]
  by_cases h2:i=p
  ·rw[Qf h2,h2,Ub];rfl
  ·rw[Qi h2]
   obtain⟨k,rfl⟩:∃ k,i=p+k+1:=⟨i-p-1,by omega⟩
   rw[show p+k+1-p=k+1 by omega,Zu,List.getElem?_drop,Ze]
   rfl
def Ha{α:Type}(xs:Array α)(p:Nat)(x:α)(hp:p<=xs.size):(insertAt xs p x).size=xs.size+1:=by
 unfold insertAt
 simp
 omega
def CM(h:xs[i]? = some j):xs.getD i 0=j:=by rw[QH,h];rfl
def zm(h:i<xs.size):xs[i]? = some (xs.getD i 0):=by
 unfold Array.getD
 rw[V5 h]
 exact Q7 h
def Ta(r:Rs xs)(hj:∀ i:Nat,xs[i]? ≠ some j):Rs (insertAt xs (below xs j) j):=by
 obtain⟨a,b,c⟩:=wF r j
 have sz:=Ha xs (below xs j) j a
 have g:∀ i,i<xs.size+1->(insertAt xs (below xs j) j).getD i 0=if i<below xs j then xs.getD i 0 else if i=below xs j then j else xs.getD (i-1) 0:=fun i hi=>by
  refine CM ?_
  rw[tU xs _ j a]
  by_cases h1:i<below xs j
  ·rw[Qf h1,Qf h1];exact zm (by omega)
  ·rw[Qi h1,Qi h1]
   by_cases h2:i=below xs j
   ·rw[Qf h2,Qf h2]
   ·rw[Qi h2,Qi h2];exact zm (by omega)
 have c':∀ i,below xs j<=i->i<xs.size->j<xs.getD i 0:=fun i h1 h2=>by
  have:=c i h1 h2
  have ne:xs.getD i 0≠j:=fun z=>hj i (by rw[zm h2,z])
  omega
 intro x y Tb hy
 rw[sz]at hy
 rw[g x (by omega),g y hy]
 by_cases h1:y<below xs j
 ·rw[Qf (by omega),Qf h1];exact r x y Tb (by omega)
 ·rw[Qi h1]
  by_cases h2:y=below xs j
  ·rw[Qf h2,Qf (by omega)];exact b x (by omega)
  ·rw[Qi h2]
   by_cases h3:x<below xs j
   ·rw[Qf h3]
    have:=b x h3
    have:=c' (y-1) (by omega) (by omega)
    omega
   ·rw[Qi h3]
    by_cases h4:x=below xs j
    ·rw[Qf h4];exact c' (y-1) (by omega) (by omega)
    ·rw[Qi h4];exact r (x-1) (y-1) (by omega) (by omega)
def g9 {α:Type}(l:List α)(p:Nat)(x:α):List α:=l.take p++x::l.drop p
def CN{α:Type}(l:List α)(p:Nat)(x:α)(hp:p<=l.length)(i:Nat):(g9 l p x)[i]? = if i<p then l[i]? else if i=p then some x else l[i-1]?:=by
 unfold g9
 by_cases h1:i<p
 ·rw[Qf h1,QW (by rw[Za];omega),ZW h1]
 ·rw[Qi h1,Zm (by rw[Za];omega),Za,Nat.min_eq_left hp]
  by_cases h2:i=p
  ·rw[Qf h2,h2,Ub];rfl
  ·rw[Qi h2]
   obtain⟨k,rfl⟩:∃ k,i=p+k+1:=⟨i-p-1,by omega⟩
   rw[show p+k+1-p=k+1 by omega,Zu,List.getElem?_drop]
   rfl
def sE{α:Type}(l:List α)(p:Nat)(x:α):(g9 l p x).length=l.length+1:=by
 unfold g9
 rw[Qm,Zb,Za,JQ]
 omega
def fW.put{t:SetTable}(T:fW t hs){h:Int}(hm:m<10*turns t.mask)(em:t.slot (bg t.mask (bR t.mask h) m).j=.empty)(bm:∀ m',m'<m->∃ i,t.slot (bg t.mask (bR t.mask h) m').j=.live i)(hj:(bg t.mask (bR t.mask h) m).j<=t.mask)(hr:hs.length+1<=t.mask) :
  (t.put (bg t.mask (bR t.mask h) m).j).2<=hs.length/\(t.put (bg t.mask (bR t.mask h) m).j).1.mask=t.mask/\fW (t.put (bg t.mask (bR t.mask h) m).j).1 (g9 hs (t.put (bg t.mask (bR t.mask h) m).j).2 h):=by
 generalize CO:(bg t.mask (bR t.mask h) m).j=j at *
 have ne:∀ i:Nat,t.place[i]? ≠ some j:=fun i e=>by rw[wG T.rs e]at em;cases em
 have pe:t.put j=({ t with place:=insertAt t.place (below t.place j) j,dummies:=#[] },below t.place j):=by
  unfold SetTable.put SetTable.has
  rw[T.nd]
  simp
 rw[pe]
 obtain⟨a,b,c⟩:=wF T.rs j
 have sz:=T.sz
 have mM:Rs (insertAt t.place (below t.place j) j):=Ta T.rs ne
 have lv:∀ (k i:Nat),t.slot k=.live i->∃ i',({ t with place:=insertAt t.place (below t.place j) j,dummies:=#[] }:SetTable).slot k=.live i':=fun k i e=>by
  rcases wH T.rs T.nd k with⟨i',e',_⟩|⟨_,e'⟩
  ·refine⟨if i'<below t.place j then i' else i'+1,wG mM ?_⟩
   show(insertAt t.place (below t.place j) j)[_]? = some k
   rw[tU t.place _ j a]
   by_cases h1:i'<below t.place j
   ·rw[Qf h1,Qf h1];exact e'
   ·rw[Qi h1,Qi (by omega),Qi (by omega)]
    exact e'
  ·rw[e]at e';cases e'
 refine⟨by show below t.place j<=hs.length;omega,rfl,?_⟩
 refine⟨by show(insertAt t.place (below t.place j) j).size=_;rw[Ha _ _ _ a,sE];omega,mM,rfl,T.rd,fun i k e=>?_,by rw[sE];exact hr,fun i k h' e eh=>?_⟩
 ·have e':(insertAt t.place (below t.place j) j)[i]? = some k:=e
  rw[tU t.place _ j a]at e'
  by_cases h1:i<below t.place j
  ·rw[Qf h1]at e';exact T.le i k e'
  ·rw[Qi h1]at e'
   by_cases h2:i=below t.place j
   ·rw[Qf h2]at e';cases e';exact hj
   ·rw[Qi h2]at e';exact T.le _ k e'
 ·have e':(insertAt t.place (below t.place j) j)[i]? = some k:=e
  have qD:(g9 hs (below t.place j) h)[i]? = some h':=eh
  rw[tU t.place _ j a]at e'
  rw[CN hs _ h (by omega)]at qD
  have old:∀ i0,t.place[i0]? = some k->hs[i0]? = some h'->∃ m,m<10*turns t.mask/\(bg t.mask (bR t.mask h') m).j=k/\∀ m',m'<m->∃ i',({ t with place:=insertAt t.place (below t.place j) j,dummies:=#[] }:SetTable).slot (bg t.mask (bR t.mask h') m').j=.live i':=fun i0 x y=>by
   obtain⟨m0,q1,q2,q3⟩:=T.wI i0 k h' x y
   refine⟨m0,q1,q2,fun m' fD=>?_⟩
   obtain⟨i',q⟩:=q3 m' fD
   exact lv _ _ q
  by_cases h1:i<below t.place j
  ·rw[Qf h1]at e' qD;exact old _ e' qD
  ·rw[Qi h1]at e' qD
   by_cases h2:i=below t.place j
   ·rw[Qf h2]at e' qD
    cases e'
    cases qD
    refine⟨m,hm,CO,fun m' fD=>?_⟩
    obtain⟨i',q⟩:=bm m' fD
    exact lv _ _ q
   ·rw[Qi h2]at e' qD;exact old _ e' qD
def wJ(mask:Nat)(h:Int)(m:Nat):(bg mask (bR mask h) m).j<=mask:=by
 have key:∀ (m:Nat) (p:Probe),p.j+p.more<=mask->(bg mask p m).j<=mask:=by
  intro m
  induction m with
  | zero=>intro p hp;show p.j<=mask;omega
  | succ m ih=>
   intro p hp
   refine ih _ ?_
   unfold kB
   split
   ·show p.j+1+(p.more-1)<=mask;omega
   ·show(leap mask p.i p.perturb).1+(runEnd mask (leap mask p.i p.perturb).1-(leap mask p.i p.perturb).1)<=mask
    have:(leap mask p.i p.perturb).1<=mask:=YL.mp (VH _ (Jz mask))
    unfold runEnd
    split<;>omega
 refine key m _ ?_
 show bits h % (mask+1)+(runEnd mask (bits h % (mask+1))-bits h % (mask+1))<=mask
 have:bits h % (mask+1)<=mask:=YL.mp (VH _ (Jz mask))
 unfold runEnd
 split<;>omega
def fW.fresh(finger moves:Nat)(led:Bool):fW (.fresh finger moves led) []:=
 ⟨rfl,fun a b _ h=>absurd h (Q1 _),rfl,G8,fun i j e=>by
   have:(#[]:Array Nat)[i]? = some j:=e
   simp at this,QL _,fun i j h e _=>by
   have:(#[]:Array Nat)[i]? = some j:=e
   simp at this⟩
abbrev lV:=Array (Option Nat)
def j0 (ow:lV)(j:Nat):Bool:=(ow.getD j (some 0)).isNone
def Tc{p:Nat->Bool}:(∃ k,k<n/\(List.range n).find? p=some k/\p k=true/\∀ k',k'<k->p k'=false)\/((List.range n).find? p=none/\∀ k',k'<n->p k'=false):=by
 cases h:(List.range n).find? p with
 | none=>exact .inr ⟨rfl,fun k' hk=>by
   have:=List.find?_eq_none.mp h k' (QA.mpr hk)
   simpa using this⟩
 | some k=>
  rw[List.find?_range_eq_some]at h
  refine .inl ⟨k,QA.mp h.2.1,rfl,h.1,fun k' kA=>?_⟩
  have:=h.2.2 k' kA
  simpa using this
theorem Hb(mask:Nat)(ow:lV):∀ (fuel:Nat) (x:Nat×Nat),(∃ s,s<fuel/\j0 ow (lst mask s x).1=true)->∃ m,layClean.free mask ow fuel x.1 x.2=some (bg mask (lp mask x.1 x.2) m).j/\j0 ow (bg mask (lp mask x.1 x.2) m).j=true/\∀ m',m'<m->j0 ow (bg mask (lp mask x.1 x.2) m').j=false
 | 0,_,⟨s,hs,_⟩=>absurd hs (Q1 _)
 | fuel+1,x,⟨s,hs,es⟩=>by
  have run:∀ k,k<=runEnd mask x.1-x.1->(bg mask (lp mask x.1 x.2) k).j=x.1+k:=fun k hk=>by rw[CI mask k _ hk];rfl
  have ge:x.1<=runEnd mask x.1:=by unfold runEnd;split<;>omega
  rcases Tc (n:=runEnd mask x.1+1-x.1) (p:=fun k=>(ow.getD (x.1+k) (some 0)).isNone)with⟨k,hk,e,pk,bk⟩|⟨e,bk⟩
  ·refine⟨k,?_,?_,fun m' fD=>?_⟩
   ·unfold layClean.free
    rw[e,run k (by omega)]
   ·rw[run k (by omega)];exact pk
   ·rw[run m' (by omega)];exact bk m' fD
  ·have s0:s≠0:=fun z=>by
    subst z
    have h1:(ow.getD (x.1+0) (some 0)).isNone=false:=bk 0 (by omega)
    have h2:(ow.getD x.1 (some 0)).isNone=true:=es
    rw[Nat.add_zero,h2]at h1
    cases h1
   obtain⟨s',rfl⟩:=YD s0
   obtain⟨m,a,b,c⟩:=Hb mask ow fuel (leap mask x.1 x.2) ⟨s',by omega,es⟩
   have go:∀ m,bg mask (lp mask x.1 x.2) (runEnd mask x.1-x.1+1+m)=bg mask (lp mask (leap mask x.1 x.2).1 (leap mask x.1 x.2).2) m:=fun m=>by rw[mW,G1]
   refine⟨runEnd mask x.1-x.1+1+m,?_,?_,fun m' fD=>?_⟩
   ·rw[go,<- a]
    conv=>lhs;unfold layClean.free
    rw[e]
   ·rw[go];exact b
   ·by_cases h1:m'<=runEnd mask x.1-x.1
    ·rw[run m' h1];exact bk m' (by omega)
    ·obtain⟨q,rfl⟩:∃ q,m'=runEnd mask x.1-x.1+1+q:=⟨m'-(runEnd mask x.1-x.1+1),by omega⟩
     rw[go]
     exact c q (by omega)
def fP (mask:Nat)(ow:lV):List (Nat×Nat):=(List.range (mask+1)).filterMap fun j=>(ow.getD j none).map (j,·)
theorem CP{α β:Type}{f g:α->Option β}:∀ {l:List α},(∀ x∈l,g x=f x)->l.filterMap g=l.filterMap f
 | [],_=>rfl
 | x::l,h=>by
  rw[Jq,Jq,h x Ql,CP fun y hy=>h y (Qj _ hy)]
theorem Hc{α β:Type}[DecidableEq α]{f g:α->Option β}{a:α}{b:β}(hf:f a=none)(hg:g a=some b):∀ {l:List α},l.Nodup->a∈l->(∀ x∈l,x≠a->g x=f x)->(l.filterMap g).Perm (b::l.filterMap f)
 | [],_,h,_=>nomatch h
 | x::l,nd,h,e=>by
  by_cases c:x=a
  ·subst c
   have same:l.filterMap g=l.filterMap f:=CP fun y hy=>e y (Qj _ hy) fun z=>(Q4.mp nd).1 (z ▸ hy)
   rw[Jp hg,J1 hf,same]
  ·have ha:a∈l:=by
    rcases Qs.mp h with z|z
    ·exact absurd z.symm c
    ·exact z
   have ih:=Hc hf hg (Q4.mp nd).2 ha fun y hy=>e y (Qj _ hy)
   have ex:=e x Ql c
   cases q:f x with
   | none=>
    rw[q]at ex
    rw[J1 ex,J1 q]
    exact ih
   | some y=>
    rw[q]at ex
    rw[Jp ex,Jp q]
    exact(ih.cons y).trans (List.Perm.swap b y _)
structure iC (mask:Nat) (hs:List Int) (ow:lV) (js:List Nat):Prop where
 sz:ow.size=mask+1
 pm:(fP mask ow).Perm js.zipIdx
 wI:∀ j k,j<=mask->ow.getD j none=some k->∃ h m,hs[k]? = some h/\m<10*turns mask/\(bg mask (bR mask h) m).j=j/\∀ m',m'<m->j0 ow (bg mask (bR mask h) m').j=false
def wK{ow:lV}(h:j<ow.size):j0 ow j=(ow.getD j none).isNone:=by
 unfold j0 Array.getD
 rw[V5 h,V5 h]
def zo{ow:lV}{k:Nat}:(j,k)∈fP mask ow ↔ j<=mask/\ow.getD j none=some k:=by
 unfold fP
 rw[Yc]
 constructor
 ·rintro ⟨x,hx,e⟩
  rw[Qx]at e
  obtain⟨y,a,b⟩:=e
  cases b
  exact⟨by have:=QA.mp hx;omega,a⟩
 ·rintro ⟨a,b⟩
  exact⟨j,QA.mpr (by omega),by rw[b];rfl⟩
def Td{ow:lV}(sz:ow.size=mask+1)(h:(fP mask ow).length<=mask):∃ e,e<=mask/\j0 ow e=true:=by
 by_cases c:∃ e,e<=mask/\j0 ow e=true
 ·exact c
 ·have all:∀ e∈List.range (mask+1),e∈(fP mask ow).map (·.1):=fun e he=>by
   have v8:=QA.mp he
   cases q:ow.getD e none with
   | none=>exact absurd ⟨e,by omega,by rw[wK (by omega),q];rfl⟩ c
   | some k=>exact Qy.mpr ⟨(e,k),zo.mpr ⟨by omega,q⟩,rfl⟩
  have:=CL Yy all
  rw[QB,Qc]at this
  omega
def iC.add(K:Mk mask){ow:lV}{js:List Nat}(O:iC mask hs ow js)(h:Int)(hh:hs[js.length]? = some h)(room:js.length<=mask) :
  ∃ j,layClean.free mask ow (turns mask) (bits h % (mask+1)) (bits h)=some j/\iC mask hs (ow.setIfInBounds j (some js.length)) (js++[j]):=by
 have len:(fP mask ow).length=js.length:=by rw[O.pm.length_eq,Y9]
 obtain⟨e,he,q⟩:=Td O.sz (by omega)
 obtain⟨_,_,_,s,kg,es⟩:=CK K h he
 obtain⟨m,a,b,c⟩:=Hb mask ow (turns mask) (bits h % (mask+1),bits h) ⟨s,kg,by rw[es];exact q⟩
 have a':layClean.free mask ow (turns mask) (bits h % (mask+1)) (bits h)=some (bg mask (bR mask h) m).j:=a
 have b':j0 ow (bg mask (bR mask h) m).j=true:=b
 have c':∀ m',m'<m->j0 ow (bg mask (bR mask h) m').j=false:=c
 have hm:m<10*turns mask:=by
  obtain⟨M,hM,eM,_⟩:=CK K h he
  by_cases z:m<10*turns mask
  ·exact z
  ·have:=c' M (by omega)
   rw[eM,q]at this
   cases this
 have jl:=wJ mask h m
 refine⟨(bg mask (bR mask h) m).j,a',?_⟩
 generalize hj:(bg mask (bR mask h) m).j=j at *
 have sz:=O.sz
 have get:∀ x,(ow.setIfInBounds j (some js.length)).getD x none=if x=j then some js.length else ow.getD x none:=fun x=>by
  rw[QH,QH,Array.getElem?_setIfInBounds]
  by_cases z:x=j
  ·subst z;rw[Qf rfl,Qf (by omega),Qf rfl];rfl
  ·rw[Qi fun y=>z y.symm,Qi z]
 have jn:ow.getD j none=none:=by
  have:=b'
  rw[wK (by omega)]at this
  exact Option.isNone_iff_eq_none.mp this
 have hl:∀ x,x<=mask->j0 ow x=false->j0 (ow.setIfInBounds j (some js.length)) x=false:=fun x hx y=>by
  rw[wK (by omega)]at y
  rw[wK (by rw[Vl];omega),get]
  by_cases z:x=j
  ·rw[Qf z];rfl
  ·rw[Qi z];exact y
 refine⟨by rw[Vl];exact sz,?_,fun x k hx e=>?_⟩
 ·have p1:(fP mask (ow.setIfInBounds j (some js.length))).Perm ((j,js.length)::fP mask ow):=Hc (a:=j) (by rw[jn];rfl) (by rw[get,Qf rfl];rfl) Yy (QA.mpr (by omega)) fun x _ z=>by rw[get,Qi z]
  have e:(js++[j]).zipIdx=js.zipIdx++[(j,js.length)]:=by rw[List.zipIdx_append];simp
  rw[e]
  exact p1.trans ((O.pm.cons _).trans (List.perm_append_singleton _ _).symm)
 ·rw[get]at e
  by_cases z:x=j
  ·rw[Qf z]at e
   cases e
   subst z
   exact⟨h,m,hh,hm,hj,fun m' fD=>hl _ (wJ mask h m') (c' m' fD)⟩
  ·rw[Qi z]at e
   obtain⟨h',m0,q1,q2,q3,q4⟩:=O.wI x k hx e
   exact⟨h',m0,q1,q2,q3,fun m' fD=>hl _ (wJ mask h' m') (q4 m' fD)⟩
def iC.start(mask:Nat)(hs:List Int):iC mask hs (Array.replicate (mask+1) none) []:=by
 have g:∀ j,(Array.replicate (mask+1) (none:Option Nat)).getD j none=none:=fun j=>by
  rw[QH,Array.getElem?_replicate]
  split<;>rfl
 refine⟨Array.size_replicate,?_,fun j k _ e=>by rw[g]at e;cases e⟩
 have:fP mask (Array.replicate (mask+1) none)=[]:=by
  unfold fP
  exact List.filterMap_eq_nil_iff.mpr fun j _=>by rw[g];rfl
 rw[this]
 exact List.Perm.nil
def Te(K:Mk mask)(hs:List Int)(room:hs.length<=mask):∃ ow js,layClean mask hs.toArray=some ow/\js.length=hs.length/\iC mask hs ow js:=by
 have key:∀ (r:List Int) (ow:lV) (js:List Nat),iC mask hs ow js->(∀ i h,r[i]? = some h->hs[js.length+i]? = some h)->js.length+r.length<=mask->
   ∃ zq wM,r.foldl (fun(acc:Option (lV×Nat)) h=>(do
    let (owner,k) <- acc
    let j <- layClean.free mask owner (turns mask) (bits h % (mask+1)) (bits h)
    pure (owner.setIfInBounds j (some k),k+1))) (some (ow,js.length))=some (zq,wM.length)/\wM.length=js.length+r.length/\iC mask hs zq wM:=by
  intro r
  induction r with
  | nil=>intro ow js O _ _;exact⟨ow,js,rfl,rfl,O⟩
  | cons h r ih=>
   intro ow js O e len
   rw[Zb]at len
   obtain⟨j,ej,O'⟩:=O.add K h (e 0 h rfl) (by omega)
   obtain⟨zq,wM,e1,e2,e3⟩:=ih _ (js++[j]) O' (fun i x hx=>by
    have:=e (i+1) x (by rw[Zu];exact hx)
    rw[Qm]
    show hs[js.length+1+i]? = some x
    rw[show js.length+1+i=js.length+(i+1)by omega]
    exact this) (by rw[Qm];show js.length+1+r.length<=mask;omega)
   refine⟨zq,wM,?_,by rw[e2,Qm];show js.length+1+r.length=js.length+(r.length+1);omega,e3⟩
   rw[List.foldl_cons]
   have:(do
    let (owner,k) <- some (ow,js.length)
    let j <- layClean.free mask owner (turns mask) (bits h % (mask+1)) (bits h)
    pure (owner.setIfInBounds j (some k),k+1):Option (lV×Nat))=some (ow.setIfInBounds j (some js.length),(js++[j]).length):=by
    show(layClean.free mask ow (turns mask) (bits h % (mask+1)) (bits h)).bind _=_
    rw[ej,Qm]
    rfl
   rw[this]
   exact e1
 obtain⟨ow,js,e1,e2,e3⟩:=key hs _ [] (iC.start mask hs) (fun i h e=>by rw[Jg,Ym];exact e) (by rw[Jg,Ym];exact room)
 refine⟨ow,js,?_,by rw[e2,Jg,Ym],e3⟩
 unfold layClean
 rw[List.foldl_toArray]
 have Hd:=e1
 rw[Jg]at Hd
 rw[Hd]
 rfl
def Tf(mask:Nat)(ow:lV):(fP mask ow).Pairwise fun a b=>a.1<b.1:=by
 unfold fP
 refine List.Pairwise.filterMap _ (fun a a' h b hb b' gQ=>?_) List.pairwise_lt_range
 have e1:(ow.getD a none).map (a,·)=some b:=hb
 have e2:(ow.getD a' none).map (a',·)=some b':=gQ
 obtain⟨_,_,rfl⟩:=Qx.mp e1
 obtain⟨_,_,rfl⟩:=Qx.mp e2
 exact h
def Tg(K:Mk mask)(hs:List Int)(room:hs.length<=mask)(finger moves:Nat)(led plain:Bool):∃ (pl od:List Nat),laid mask finger moves led plain hs.toArray=some ({ mask,place:=pl.toArray,dummies:=#[],finger,led,moves,plain },od.toArray)/\od.Perm (List.range hs.length) /\
  fW { mask,place:=pl.toArray,dummies:=#[],finger,led,moves,plain } (od.map fun k=>hs.getD k 0):=by
 obtain⟨ow,js,e,hl,O⟩:=Te K hs room
 have up:=Tf mask ow
 have len:(fP mask ow).length=hs.length:=by rw[O.pm.length_eq,Y9,hl]
 refine⟨(fP mask ow).map (·.1),(fP mask ow).map (·.2),?_,?_,?_⟩
 ·unfold laid
  rw[e]
  rfl
 ·have:=O.pm.map (·.2)
  rw[List.zipIdx_map_snd,hl,<- YC]at this
  exact this
 ·have get:∀ (i j:Nat),((fP mask ow).map (·.1)).toArray[i]? = some j->∃ k,(fP mask ow)[i]? = some (j,k):=fun i j h=>by
   rw[Je,Qk,Qx]at h
   obtain⟨⟨a,b⟩,h1,h2⟩:=h
   exact⟨b,by rw[h1];cases h2;rfl⟩
  have rs:Rs ((fP mask ow).map (·.1)).toArray:=fun a b lh hb=>by
   rw[Qn,Qc]at hb
   have h1:((fP mask ow).map (·.1)).toArray[a]? = some ((fP mask ow)[a]'(by omega)).1:=by rw[Je,Qk,Qb (by omega)];rfl
   have h2:((fP mask ow).map (·.1)).toArray[b]? = some ((fP mask ow)[b]'hb).1:=by rw[Je,Qk,Qb hb];rfl
   rw[CM h1,CM h2]
   exact JV.mp up a b (by omega) hb lh
  have mem:∀ {i:Nat} {x:Nat×Nat},(fP mask ow)[i]? = some x->x∈fP mask ow:=fun h=>by
   obtain⟨hi,q⟩:=Qq.mp h
   rw[<- q];exact Q0 hi
  refine⟨?_,rs,rfl,K,fun i j h=>?_,?_,fun i j h hp hh=>?_⟩
  ·show((fP mask ow).map (·.1)).toArray.size=_
   rw[Qn,Qc,Qc,Qc]
  ·obtain⟨k,q⟩:=get i j h
   exact(zo.mp (mem q)).1
  ·rw[Qc,Qc,len];exact room
  ·obtain⟨k,q⟩:=get i j hp
   rw[Qk,Qk,q]at hh
   have Th:hs.getD k 0=h:=by cases hh;rfl
   obtain⟨jm,ek⟩:=zo.mp (mem q)
   obtain⟨h',m,q1,q2,q3,q4⟩:=O.wI j k jm ek
   have:h'=h:=by rw[<- Th,Qg,q1];rfl
   subst this
   refine⟨m,q2,q3,fun m' fD=>?_⟩
   have sF:=q4 m' fD
   have Ti:=wJ mask h' m'
   rw[wK (by rw[O.sz];omega)]at sF
   cases c:ow.getD (bg mask (bR mask h') m').j none with
   | none=>rw[c]at sF;cases sF
   | some k'=>
    have mm:=zo.mpr ⟨Ti,c⟩
    obtain⟨i',cT,qi⟩:=Zh mm
    refine⟨i',wG rs ?_⟩
    show((fP mask ow).map (·.1)).toArray[i']? = some _
    rw[Je,Qk,Qb cT,qi]
    rfl
def He:∀ n,n<512->(sizeAbove n-1=7/\n<8)\/(sizeAbove n-1=15/\8<=n/\n<16)\/(sizeAbove n-1=31/\16<=n/\n<32)\/(sizeAbove n-1=63/\32<=n/\n<64)\/(sizeAbove n-1=127/\64<=n/\n<128)\/(sizeAbove n-1=255/\128<=n/\n<256)\/(sizeAbove n-1=511/\256<=n/\n<512):=by decide +kernel
def Tj:Mk 15:=.of 15 rfl (by decide) (by decide +kernel) (by decide +kernel)
def Tn:Mk 63:=.of 63 rfl (by decide) (by decide +kernel) (by decide +kernel)
def To:Mk 255:=.of 255 rfl (by decide) (by decide +kernel) (by decide +kernel)
def Hf(h:n<512):Mk (sizeAbove n-1)/\n<=sizeAbove n-1:=by
 rcases He n h with⟨e,a⟩|⟨e,_,a⟩|⟨e,_,a⟩|⟨e,_,a⟩|⟨e,_,a⟩|⟨e,_,a⟩|⟨e,_,a⟩<;>rw[e]
 ·exact⟨G8,by omega⟩
 ·exact⟨Tj,by omega⟩
 ·exact⟨S5,by omega⟩
 ·exact⟨Tn,by omega⟩
 ·exact⟨S6,by omega⟩
 ·exact⟨To,by omega⟩
 ·exact⟨S7,by omega⟩
section
variable {prog:Program}{w:World}{K:Type}[DecidableEq K]{knd:KeyKind prog w K}{A:Around}{E:Value->Shared->Prop}{s:Shared}
def Tp(n:Nat){v:Value}(h:carriedByValue v=true):ofAClassStatement n v=pure false:=by
 cases v with
 | ref a=>simp[carriedByValue]at h
 | _=>first|rfl|simp[ofAClassStatement]|(unfold ofAClassStatement;rfl)
def Hg{ks:List K}(n:Nat)(hk:IsTupleKey knd s.heap ks a)(h:Q false s):wpAny (model prog w) A (ofAClassStatement (n+1) (.ref a)) Q E s:=by
 have hT:=hk.typeIs
 obtain⟨o,items,k,ho,hc,hd,hi⟩:=hk
 unfold ofAClassStatement
 refine Qa (VG hT ?_)
 dsimp only
 rw[Qf (by decide)]
 refine Qa (Qd ?_)
 simp only[ZX,Qu,Zj]
 refine Qa (Y6 ho hd ?_)
 dsimp only
 refine Qa ?_
 show wpAny _ _ (forIn items _ _) _ _ s
 rw[<- Array.forIn_toList]
 refine JR _ (fun bh r s'=>r.1=none/\s'=s/\∀ v∈bh,carriedByValue v=true) _ ?_ ?_ _ _ ⟨rfl,rfl,hi.byValue⟩
 ·rintro v bh r s' ⟨hr,rfl,df⟩
  rw[Tp _ (df v Ql)]
  refine Qa (Qd ?_)
  simp only[Qu,Zj]
  exact Qd ⟨rfl,rfl,fun u rW=>df u (Qj _ rW)⟩
 ·rintro ⟨r1,r2⟩ s' ⟨hr,rfl,_⟩
  simp only at hr
  subst hr
  exact Qd h
def Tq{kx:List K}(hx:IsTupleKey knd s.heap kx bx)(l:List Value)(hl:∀ y∈l,∃ k b,y=.ref b/\IsTupleKey knd s.heap k b)(h:Q false s):wpAny (model prog w) A (searchCouldBeSeen (.ref bx) l) Q E s:=by
 unfold searchCouldBeSeen
 refine Qa ?_
 refine JR _ (fun bh r s'=>r.1=none/\s'=s/\∀ y∈bh,∃ k b,y=.ref b/\IsTupleKey knd s.heap k b) _ ?_ ?_ _ _ ⟨rfl,rfl,hl⟩
 ·rintro y bh r s' ⟨hr,rfl,df⟩
  obtain⟨k,b,rfl,hb⟩:=df y Ql
  have qE:∀ y∈bh,∃ k b,y=.ref b/\IsTupleKey knd s'.heap k b:=fun u hu=>df u (Qj _ hu)
  dsimp only
  by_cases c:(bx==b||(carriedByValue (.ref bx)&&carriedByValue (.ref b)))=true
  ·rw[Qf c]
   exact Qd ⟨rfl,rfl,qE⟩
  ·rw[Qi c]
   refine Qa (wpAny_eqIsQuiet_tuple hx ?_)
   simp only[ZX,Qu,Zj]
   refine Qa (wpAny_eqIsQuiet_tuple hb ?_)
   simp only[ZX,Qu,Zj]
   refine Qa (Hg 7 hx ?_)
   simp only[Qu,Zj]
   refine Qa (Hg 7 hb ?_)
   simp only[Qu,Zj]
   exact Qd ⟨rfl,rfl,qE⟩
 ·rintro ⟨r1,r2⟩ s' ⟨hr,rfl,_⟩
  simp only at hr
  subst hr
  exact Qd h
structure dJ (knd:KeyKind prog w K) (h:Heap) (es:Array (Int×Value)) (t:SetTable) (kl:List (List K)) (bs:List Addr):Prop where
 es:es.toList=(kl.zip bs).map fun x=>(tupleKeyHash knd x.1,Value.ref x.2)
 len:kl.length=bs.length
 is:∀ (i:Nat) (k:List K) (b:Addr),kl[i]? = some k->bs[i]? = some b->IsTupleKey knd h k b
 tb:fW t (kl.map (tupleKeyHash knd))
 nd:kl.Nodup
section
variable {es:Array (Int×Value)}{t:SetTable}{kl:List (List K)}{bs:List Addr}
def dJ.size(S:dJ knd h es t kl bs):es.size=kl.length:=by
 rw[<- QU,S.es,Qc,Z5,S.len,JB]
def dJ.fits(S:dJ knd h es t kl bs):t.fits es.size=true:=by
 unfold SetTable.fits SetTable.fill
 have e1:=S.tb.sz
 have e2:=S.tb.room
 have e3:=S.size
 rw[Qc]at e1 e2
 rw[S.tb.nd,e3,e1]
 simp
 exact e2
def dJ.get(S:dJ knd h es t kl bs){k:List K}(hk:kl[i]? = some k):∃ b,bs[i]? = some b/\es[i]? = some (tupleKeyHash knd k,Value.ref b)/\IsTupleKey knd h k b:=by
 obtain⟨hi,_⟩:=Qq.mp hk
 have hb:bs[i]? = some (bs[i]'(by rw[<- S.len];exact hi)):=Qb _
 refine⟨_,hb,?_,S.is i k _ hk hb⟩
 rw[<- Ze,S.es,Qk,List.zip,Yr,hk,hb]
 rfl
def dJ.of(S:dJ knd h es t kl bs){x:Int×Value}(hx:es[i]? = some x):∃ k b,kl[i]? = some k/\x=(tupleKeyHash knd k,Value.ref b)/\IsTupleKey knd h k b:=by
 have hi:i<kl.length:=by rw[<- S.size];exact(Jd.mp hx).1
 obtain⟨b,_,e,q⟩:=S.get (Qb hi)
 rw[hx]at e
 exact⟨_,b,Qb hi,QF e,q⟩
theorem Tr{kx:List K}{Q:SetFound->Shared->Prop}(hu:A.units<cLine)(ho:s.heap.get? a=some o)(hd:o.data=.set es ep t)(S:dJ knd s.heap es t kl bs)(hx:IsTupleKey knd s.heap kx bx)
  {M:Nat} (hM:M<10*turns t.mask) (eM:t.slot (bg t.mask (bR t.mask (tupleKeyHash knd kx)) M).j=.empty) (bM:∀ m',m'<M->∃ i,t.slot (bg t.mask (bR t.mask (tupleKeyHash knd kx)) m').j=.live i)
  (q1:kx∈kl->Q (.there none) s) (q2:kx ∉ kl->Q (.free (bg t.mask (bR t.mask (tupleKeyHash knd kx)) M).j false) s) :
  ∀ (fuel m:Nat) (kC:Option Probe),kC.getD (t.probeStart (tupleKeyHash knd kx))=bg t.mask (bR t.mask (tupleKeyHash knd kx)) m->m<=M->M-m<fuel->
   (∀ m',m'<m->∀ i,t.slot (bg t.mask (bR t.mask (tupleKeyHash knd kx)) m').j=.live i->kl[i]? ≠ some kx)->wpAny (model prog w) A (setSearchFrom a (.ref bx) (tupleKeyHash knd kx) true fuel kC) Q E s:=by
 intro fuel
 induction fuel with
 | zero=>intro m kC _ _ h _;exact absurd h (Q1 _)
 | succ fuel ih=>
  intro m kC dZ hm hf inv
  generalize hh:tupleKeyHash knd kx=h at *
  unfold setSearchFrom
  refine Qa (Z2 ho hd S.fits ?_)
  dsimp only
  have gw:t.gaveWay=false:=by
   unfold SetTable.gaveWay
   rw[S.tb.rd.odd]
   rfl
  rw[gw]
  simp only[Qu,Zj]
  rw[dZ]
  have pn:(bg t.mask (bR t.mask h) m).dummy=none:=G9 _ _ _ rfl
  have ex:∃ m1,m1<10*turns t.mask/\t.slot (bg t.mask (bg t.mask (bR t.mask h) m) m1).j=.empty:=⟨M-m,by omega,by rw[<- mW,show m+(M-m)=M by omega];exact eM⟩
  have key:∀ (hashAt:Nat->Int),(∀ i x,es[i]? = some x->hashAt i=x.1)->∃ met,t.probe hashAt h (bg t.mask (bR t.mask h) m)=some met/\((∃ j,met=.empty j none/\kx ∉ kl/\j=(bg t.mask (bR t.mask h) M).j)\/∃ m1 i k b,m+m1<M/\met=.candidate (bg t.mask (bR t.mask h) (m+m1)).j i (bg t.mask (bR t.mask h) (m+m1+1))/\t.slot (bg t.mask (bR t.mask h) (m+m1)).j=.live i/\kl[i]? = some k/\es[i]? = some (tupleKeyHash knd k,Value.ref b)/\IsTupleKey knd s.heap k b/\∀ m',m'<m+m1->∀ i,t.slot (bg t.mask (bR t.mask h) m').j=.live i->kl[i]? ≠ some kx):=by
   intro hashAt hA
   obtain⟨m1,h1,bf,c⟩:=G_ t hashAt h S.tb.rs S.tb.nd (10*turns t.mask) (bg t.mask (bR t.mask h) m) pn ex
   have mX:∀ m',m'<m+m1->∀ i,t.slot (bg t.mask (bR t.mask h) m').j=.live i->kl[i]? ≠ some kx:=fun m' fD i e z=>by
    by_cases l:m'<m
    ·exact inv m' l i e z
    ·obtain⟨i',e',ne⟩:=bf (m'-m) (by omega)
     rw[<- mW,show m+(m'-m)=m' by omega,e]at e'
     cases e'
     obtain⟨b,_,q,_⟩:=S.get z
     exact ne (by rw[hA i _ q];exact hh)
   rcases c with⟨e,g⟩|⟨i,e,eh,g⟩
   ·rw[<- mW]at e g
    have Ts:m+m1=M:=by
     by_cases l:m+m1<M
     ·obtain⟨i,q⟩:=bM _ l
      rw[e]at q;cases q
     ·by_cases l2:M<m+m1
      ·obtain⟨i',e',_⟩:=bf (M-m) (by omega)
       rw[<- mW,show m+(M-m)=M by omega,eM]at e'
       cases e'
      ·omega
    refine⟨_,g,.inl ⟨_,rfl,fun z=>?_,by rw[Ts]⟩⟩
    obtain⟨i,hi,q⟩:=Zh z
    have hk:kl[i]? = some kx:=by rw[Qb hi,q]
    have cu:t.place[i]? = some (t.place[i]'(by rw[S.tb.sz,Qc];exact hi)):=Q7 _
    obtain⟨m0,z1,z2,z3⟩:=S.tb.wI i _ h cu (by rw[Qk,hk];exact Jb some hh)
    have lv:=wG S.tb.rs cu
    rw[<- z2]at lv
    by_cases l:m0<M
    ·exact mX m0 (by omega) i lv hk
    ·by_cases l2:m0=M
     ·rw[l2,eM]at lv;cases lv
     ·obtain⟨i',q'⟩:=z3 M (by omega)
      rw[eM]at q';cases q'
   ·rw[<- mW]at e g
    have lt:m+m1<M:=by
     by_cases l:m+m1<M
     ·exact l
     ·by_cases l2:m+m1=M
      ·rw[l2,eM]at e;cases e
      ·obtain⟨i',e',_⟩:=bf (M-m) (by omega)
       rw[<- mW,show m+(M-m)=M by omega,eM]at e'
       cases e'
    have cu:∃ j,t.place[i]? = some j:=by
     rcases wH S.tb.rs S.tb.nd (bg t.mask (bR t.mask h) (m+m1)).j with⟨i',a',b'⟩|⟨_,b'⟩
     ·rw[e]at b';cases b';exact⟨_,a'⟩
     ·rw[e]at b';cases b'
    obtain⟨j,hj⟩:=cu
    have hi:i<kl.length:=by
     have:=(Jd.mp hj).1
     rw[S.tb.sz,Qc]at this
     exact this
    obtain⟨b,_,q,r⟩:=S.get (Qb hi)
    refine⟨_,g,.inr ⟨m1,i,_,b,lt,?_,e,Qb hi,q,r,mX⟩⟩
    rw[<- mW]
    rfl
  obtain⟨met,pr,cs⟩:=key _ fun i x hx=>show(es[i]?.map (·.1)).getD 0=x.1 by rw[hx];rfl
  generalize hp:t.probe _ h (bg t.mask (bR t.mask h) m)=Tt
  have Hh:Tt=some met:=by rw[<- hp];exact pr
  subst Hh
  clear hp
  dsimp only
  rcases cs with⟨j,rfl,nk,rfl⟩|⟨m1,i,k,b,lt,rfl,lv,ek,ee,kb,mX⟩
  ·exact Qd (q2 nk)
  ·dsimp only
   have sm:t.sameMemory t.moves t.mask=some true:=by unfold SetTable.sameMemory;simp
   cases wN:t.led with
   | false=>
    simp only[V2,Zv]
    refine Qa (Tq hx _ (fun y hy=>?_) ?_)
    ·obtain⟨e,he,rfl⟩:=Qy.mp hy
     have v8:=(Array.mem_filter.mp (YB.mp he)).1
     obtain⟨i',cT,q⟩:=V3 v8
     obtain⟨k',b',_,r1,r2⟩:=S.of (i:=i') (x:=e) (by rw[Q7 cT,q])
     exact⟨k',b',by rw[r1],r2⟩
    simp only[Qu,Zj]
    rw[ee]
    dsimp only
    refine Qa (Q9 (wpAny_eqBool_tuple hu kb hx ?_))
    refine Qa (Z2 ho hd S.fits ?_)
    dsimp only
    by_cases c:k=kx
    ·rw[Qt c]
     simp only[Vm,Zv]
     exact Qd (q1 (by rw[<- c];exact QK ek))
    ·rw[QC c]
     simp only[VW,Qu,Zj,sm,Zv,lv,ee]
     refine Qa (wpAny_isSame_ref_self ?_)
     simp only[Zv]
     refine Qa (Qd ?_)
     dsimp only
     exact ih (m+m1+1) (some (bg t.mask (bR t.mask h) (m+m1+1))) rfl (by omega) (by omega) fun m' fD i' e'=>by
      by_cases l:m'<m+m1
      ·exact mX m' l i' e'
      ·have:m'=m+m1:=by omega
       subst this
       rw[lv]at e'
       cases e'
       rw[ek]
       exact fun z=>c (QF z)
   | true=>
    simp only[ZX,Qu,Zj]
    rw[ee]
    dsimp only
    refine Qa (Q9 (wpAny_eqBool_tuple hu kb hx ?_))
    refine Qa (Z2 ho hd S.fits ?_)
    dsimp only
    by_cases c:k=kx
    ·rw[Qt c]
     simp only[Vm,Zv]
     exact Qd (q1 (by rw[<- c];exact QK ek))
    ·rw[QC c]
     simp only[VW,Qu,Zj,sm,Zv,lv,ee]
     refine Qa (wpAny_isSame_ref_self ?_)
     simp only[Zv]
     refine Qa (Qd ?_)
     dsimp only
     exact ih (m+m1+1) (some (bg t.mask (bR t.mask h) (m+m1+1))) rfl (by omega) (by omega) fun m' fD i' e'=>by
      by_cases l:m'<m+m1
      ·exact mX m' l i' e'
      ·have:m'=m+m1:=by omega
       subst this
       rw[lv]at e'
       cases e'
       rw[ek]
       exact fun z=>c (QF z)
end
end
section
variable {prog:Program}{w:World}{A:Around}{E:Value->Shared->Prop}{s:Shared}
def Tu{x:List Int}{vs:List Value}(hx:ItemsAre (intKind prog w) x vs):∀ v∈vs,∃ i t,v=.int i t:=by
 induction hx with
 | nil=>intro v hv;simp at hv
 | @cons k v' ks vs h1 _ ih=>
  intro v hv
  rcases Qs.mp hv with rfl|hv
  ·obtain⟨t,rfl⟩:=Yh h1
   exact⟨_,_,rfl⟩
  ·exact ih v hv
theorem Tv{ks:List Int}(n:Nat)(hk:IsTupleKey (intKind prog w) s.heap ks a)(h:Q true s):wpAny (model prog w) A (hashByValue (n+1) (.ref a)) Q E s:=by
 have hT:=hk.typeIs
 obtain⟨o,items,k,ho,hc,hd,hi⟩:=hk
 unfold hashByValue
 refine Qa (YI hT F.slot_tuple_hash.lookup ?_)
 dsimp only
 refine Qa (Y6 ho hd ?_)
 refine Qa ?_
 show wpAny _ _ (forIn items _ _) _ _ s
 rw[<- Array.forIn_toList]
 refine JR _ (fun bh r s'=>r.1=none/\s'=s/\∀ v∈bh,∃ i t,v=.int i t) _ ?_ ?_ _ _ ⟨rfl,rfl,Tu hi⟩
 ·rintro v bh r s' ⟨hr,rfl,df⟩
  obtain⟨i,t,rfl⟩:=df v Ql
  have:hashByValue n (.int i t)=pure true:=by cases n<;>rfl
  rw[this]
  refine Qa (Qd ?_)
  simp only[ZX,Qu,Zj]
  exact Qd ⟨rfl,rfl,fun u rW=>df u (Qj _ rW)⟩
 ·rintro ⟨r1,r2⟩ s' ⟨hr,rfl,_⟩
  simp only at hr
  subst hr
  exact Qd h
abbrev lX (prog:Program)(w:World):=dJ (intKind prog w)
variable {es:Array (Int×Value)}{t:SetTable}{kl:List (List Int)}{bs:List Addr}
def dJ.keep(S:lX prog w h es t kl bs)(ho:h.get? a=some o)(hd:o.data=.set es ep t)(sb:Heap.SameBut a h h'):∀ (i:Nat) (k:List Int) (b:Addr),kl[i]? = some k->bs[i]? = some b->IsTupleKey (intKind prog w) h' k b:=fun i k b x y=>qF ho hd sb (S.is i k b x y)
where
 qF {a:Addr} {o:Obj} {ep:Nat} {h h':Heap} {es:Array (Int×Value)} {t:SetTable} {k:List Int} {b:Addr} (ho:h.get? a=some o) (hd:o.data=.set es ep t) (sb:Heap.SameBut a h h') (x:IsTupleKey (intKind prog w) h k b):IsTupleKey (intKind prog w) h' k b:=by
  obtain⟨o',items,n,fJ,hc,ic,hi⟩:=x
  have bK:b≠a:=by
   rintro rfl
   obtain rfl:o'=o:=QF (fJ.symm.trans ho)
   rw[hd]at ic;exact nomatch ic
  exact⟨o',items,n,(sb.2 b bK).trans fJ,hc,ic,hi⟩
def Tw{α β:Type}{l:List α}{m:List β}(e:l.length=m.length)(p:Nat)(x:α)(y:β):(g9 l p x).zip (g9 m p y)=g9 (l.zip m) p (x,y):=by
 unfold g9
 rw[VM (by rw[Za,Za,e]),Yf]
 congr 1
 ·unfold List.zip;exact List.take_zipWith.symm
 ·congr 1
  unfold List.zip;exact List.drop_zipWith.symm
def Hi{α β:Type}(f:α->β)(l:List α)(p:Nat)(x:α):(g9 l p x).map f=g9 (l.map f) p (f x):=by
 unfold g9
 rw[QY,QI,List.map_take,List.map_drop]
def CQ{α:Type}(l:List α)(p:Nat)(x:α):(g9 l p x).Perm (x::l):=by
 unfold g9
 have:=List.perm_middle (a:=x) (l₁:=l.take p) (l₂:=l.drop p)
 rw[Yq]at this
 exact this
def Tx{α:Type}(xs:Array α)(p:Nat)(x:α):(insertAt xs p x).toList=g9 xs.toList p x:=by
 unfold insertAt g9
 simp
 exact VI (by rw[JQ,QU];exact Qh _)
def dJ.put(S:lX prog w h es t kl bs)(hx:IsTupleKey (intKind prog w) h kx bx)(nk:kx ∉ kl)(hm:m<10*turns t.mask)(em:t.slot (bg t.mask (bR t.mask (tupleKeyHash (intKind prog w) kx)) m).j=.empty)(bm:∀ m',m'<m->∃ i,t.slot (bg t.mask (bR t.mask (tupleKeyHash (intKind prog w) kx)) m').j=.live i)(hr:kl.length+1<=t.mask) :
  lX prog w h (insertAt es (t.put (bg t.mask (bR t.mask (tupleKeyHash (intKind prog w) kx)) m).j).2 (tupleKeyHash (intKind prog w) kx,.ref bx)) (t.put (bg t.mask (bR t.mask (tupleKeyHash (intKind prog w) kx)) m).j).1 (g9 kl (t.put (bg t.mask (bR t.mask (tupleKeyHash (intKind prog w) kx)) m).j).2 kx) (g9 bs (t.put (bg t.mask (bR t.mask (tupleKeyHash (intKind prog w) kx)) m).j).2 bx):=by
 obtain⟨p1,p2,p3⟩:=S.tb.put hm em bm (wJ _ _ _) (by rw[Qc];exact hr)
 generalize (bg t.mask (bR t.mask (tupleKeyHash (intKind prog w) kx)) m).j=j at *
 rw[Qc]at p1
 generalize (t.put j).2=p at *
 have pm:=CQ kl p kx
 refine⟨?_,?_,fun i k b x y=>?_,?_,?_⟩
 ·rw[Tx,S.es,Tw S.len,Hi]
 ·rw[sE,sE,S.len]
 ·rw[CN kl p kx p1]at x
  rw[CN bs p bx (by rw[<- S.len];exact p1)]at y
  by_cases h1:i<p
  ·rw[Qf h1]at x y;exact S.is i k b x y
  ·rw[Qi h1]at x y
   by_cases h2:i=p
   ·rw[Qf h2]at x y;cases x;cases y;exact hx
   ·rw[Qi h2]at x y;exact S.is _ k b x y
 ·rw[Hi];exact p3
 ·exact pm.nodup_iff.mpr (Q4.mpr ⟨nk,S.nd⟩)
end
section
variable {prog:Program}{w:World}{A:Around}{E:Value->Shared->Prop}{s:Shared}
variable {es:Array (Int×Value)}{t:SetTable}{kl:List (List Int)}{bs:List Addr}
def dJ.hashes(S:lX prog w h es t kl bs):es.map (·.1)=(kl.map (tupleKeyHash (intKind prog w))).toArray:=by
 apply Array.ext'
 rw[Array.toList_map,S.es,Zf]
 have:∀ (l:List (List Int)) (m:List Addr),l.length=m.length->(l.zip m).map ((fun x:Int×Value=>x.1) ∘ fun x=>(tupleKeyHash (intKind prog w) x.1,Value.ref x.2))=l.map (tupleKeyHash (intKind prog w)):=by
  intro l
  induction l with
  | nil=>intro m _;rfl
  | cons a l ih=>
   intro m hm
   cases m with
   | nil=>cases hm
   | cons b m=>rw[Yf,QI,QI,ih m (by simpa using hm)];rfl
 exact this kl bs S.len
def Hj{α:Type}{l:List α}{od:List Nat}(d:α)(h:od.Perm (List.range l.length)):(od.map fun k=>l.getD k d).Perm l:=by
 have h1:=h.map fun k=>l.getD k d
 have h2:(List.range l.length).map (fun k=>l.getD k d)=l:=by
  apply ZK
  intro i
  by_cases hi:i<l.length
  ·rw[Qk,Zk hi,Qb hi]
   show some (l.getD i d)=_
   rw[Qg,Qb hi]
   rfl
  ·rw[Q3 (by rw[Qc,QB];omega),Q3 (by omega)]
 rw[h2]at h1
 exact h1
def dJ.relaid(S:lX prog w h es t kl bs)(hn:n<512)(hl:kl.length<=n):∃ (t':SetTable) (od:List Nat),t.relaid (es.map (·.1)) n=some (t',od.toArray)/\t'.led=t.led/\t'.plain=t.plain/\t'.mask=sizeAbove n-1/\(∀ k∈od,k<es.size)/\od.length=kl.length /\
  lX prog w h (od.toArray.filterMap fun i=>es[i]?) t' (od.map fun k=>kl.getD k []) (od.map fun k=>bs.getD k 0)/\(od.map fun k=>kl.getD k []).Perm kl:=by
 obtain⟨mk,ln⟩:=Hf hn
 obtain⟨pl,od,e,pm,T⟩:=Tg mk (kl.map (tupleKeyHash (intKind prog w))) (by rw[Qc];omega) t.finger (t.movedTo (sizeAbove n-1)) t.led t.plain
 rw[Qc]at pm
 have sz:=S.size
 have lt:∀ k∈od,k<kl.length:=fun k hk=>QA.mp (pm.mem_iff.mp hk)
 refine⟨{ mask:=sizeAbove n-1,place:=pl.toArray,dummies:=#[],finger:=t.finger,led:=t.led,moves:=t.movedTo (sizeAbove n-1),plain:=t.plain },od,by rw[S.hashes];exact e,rfl,rfl,rfl,fun k hk=>by rw[sz];exact lt k hk,by rw[pm.length_eq,QB],?_,Hj [] pm⟩
 have lb:∀ k∈od,k<bs.length:=fun k hk=>by rw[<- S.len];exact lt k hk
 refine⟨?_,by rw[Qc,Qc],fun i k b x y=>?_,?_,(Hj [] pm).nodup_iff.mpr S.nd⟩
 ·have e1:(od.toArray.filterMap fun i=>es[i]?).toList=od.filterMap fun i=>es.toList[i]?:=by
   rw[Array.toList_filterMap]
   exact CP fun i _=>(Ze).symm
  rw[e1,S.es]
  have:∀ (o:List Nat),(∀ k∈o,k<kl.length)->o.filterMap (fun i=>((kl.zip bs).map fun x=>(tupleKeyHash (intKind prog w) x.1,Value.ref x.2))[i]?)=((o.map fun k=>kl.getD k []).zip (o.map fun k=>bs.getD k 0)).map fun x=>(tupleKeyHash (intKind prog w) x.1,Value.ref x.2):=by
   intro o
   induction o with
   | nil=>intro _;rfl
   | cons k o ih=>
    intro h
    have hk:=h k Ql
    have hb:k<bs.length:=by rw[<- S.len];exact hk
    have g:((kl.zip bs).map fun x=>(tupleKeyHash (intKind prog w) x.1,Value.ref x.2))[k]? = some (tupleKeyHash (intKind prog w) (kl.getD k []),Value.ref (bs.getD k 0)):=by
     rw[Qk,List.zip,Yr,Qb hk,Qb hb,Qg,Qb hk,Qg,Qb hb]
     rfl
    rw[Jp g,ih fun j hj=>h j (Qj _ hj)]
    rfl
  exact this od lt
 ·rw[Qk,Qx]at x y
  obtain⟨j,q1,q2⟩:=x
  obtain⟨j',q3,q4⟩:=y
  rw[q1]at q3
  cases q3
  have hj:=lt j (QK q1)
  have hb:=lb j (QK q1)
  rw[Qg,Qb hj]at q2
  rw[Qg,Qb hb]at q4
  exact S.is j k b (by rw[Qb hj];exact Jb some q2) (by rw[Qb hb];exact Jb some q4)
 ·have:(od.map fun k=>kl.getD k []).map (tupleKeyHash (intKind prog w))=od.map fun k=>(kl.map (tupleKeyHash (intKind prog w))).getD k 0:=by
   rw[Zf]
   refine Q8 fun k hk=>?_
   have hj:=lt k hk
   show tupleKeyHash (intKind prog w) (kl.getD k [])=_
   rw[Qg,Qb hj,Qg,Qk,Qb hj]
   rfl
  rw[this]
  exact T
def dJ.move{Tz:Nat}{e0:Array (Int×Value)}{t0:SetTable}(S:lX prog w h es t kl bs)(ho:h.get? a=some o)(hd:o.data=.set e0 Tz t0)(sb:Heap.SameBut a h h'):lX prog w h' es t kl bs:=
 ⟨S.es,S.len,fun i k b x y=>dJ.keep.qF ho hd sb (S.is i k b x y),S.tb,S.nd⟩
structure sG (prog:Program) (w:World) (h:Heap) (o:Obj) (ep:Nat) (led:Bool) (kl:List (List Int)) (es:Array (Int×Value)) (t:SetTable) (bs:List Addr):Prop where
 d:o.data=.set es ep t
 S:lX prog w h es t kl bs
 pl:t.plain=true
 ld:t.led=led
 rm:kl.length*5<t.mask*3
def TC{Q:Unit->Shared->Prop}(ho:s.heap.get? a=some o)(hd:o.data=.set es ep t)(S:lX prog w s.heap es t kl bs)(hn:n<512)(hl:kl.length<=n)(h4:kl.length*4<=n)(h0:0<n)
  (h:∀ h' jv t' iR pd,Heap.SameBut a s.heap h'->h'.get? a=some { o with data:=.set jv (ep+1) t' }->lX prog w h' jv t' iR pd->iR.Perm kl->t'.plain=t.plain->t'.led=t.led->iR.length*5<t'.mask*3->(∀ b∈pd,b∈bs)->Q () { s with heap:=h' }) :
  wpAny (model prog w) A (setRelay a n) Q E s:=by
 obtain⟨t',od,e,ld,pl,mk,lt,len,S',pm⟩:=S.relaid hn hl
 have ln:=(Hf hn).2
 unfold setRelay
 refine Qa (Z2 ho hd S.fits ?_)
 dsimp only
 have sl:¬ sizeAbove n > sizeLine:=by
  rw[ZP]
  rcases He n hn with⟨e,_⟩|⟨e,_⟩|⟨e,_⟩|⟨e,_⟩|⟨e,_⟩|⟨e,_⟩|⟨e,_⟩<;>omega
 rw[Qi sl,e]
 have Hk:(od.toArray.filterMap fun i=>es[i]?).size=es.size:=by
  rw[S'.size,Qc,len,S.size]
 refine Qa (show wpAny _ _ (do
  if(od.toArray.filterMap fun i=>es[i]?).size != es.size then unsupported "internal:set-table-lost-an-element"
  pure ((od.toArray.filterMap fun i=>es[i]?),t')) _ _ _ from ?_)
 rw[Hk]
 simp only[Yn,Qu,Zj]
 refine Qd ?_
 dsimp only
 have sb:=QZ s.heap a (Obj.putSet (od.toArray.filterMap fun i=>es[i]?) t')
 have hz:(od.toArray.filterMap fun i=>es[i]?).size<=sizeLine:=by rw[Hk,S.size,ZP];omega
 refine wpAny_storeSet_of ho hd (h _ _ t' _ _ sb ?_ (S'.move ho hd sb) pm pl ld ?_ fun b hb=>?_) hz
 ·have:=Zt (Obj.putSet (od.toArray.filterMap fun i=>es[i]?) t') ho (by rw[putSet_of _ _ hd];rfl)
  rw[putSet_of _ _ hd]at this
  exact this
 ·rw[Qc,len,mk]
  omega
 ·obtain⟨k,hk,rfl⟩:=Qy.mp hb
  have:=lt k hk
  rw[S.size,S.len]at this
  rw[Qg,Qb this]
  exact Q0 this
def TF{led:Bool}{Q:Bool->Shared->Prop}(hu:A.units<cLine)(ho:s.heap.get? a=some o)(So:sG prog w s.heap o ep led kl es t bs)(hx:IsTupleKey (intKind prog w) s.heap kx bx)(di:kl.length<=100)
  (h:∀ h' oh iR jv t' pd r,Heap.SameBut a s.heap h'->h'.get? a=some { o with data:=.set jv oh t' }->sG prog w h' { o with data:=.set jv oh t' } oh led iR jv t' pd->iR.Perm (if kx∈kl then kl else kx::kl)->(∀ b∈pd,b=bx\/b∈bs)->Q r { s with heap:=h' }) :
  wpAny (model prog w) A (setAddHashed a (.ref bx) (tupleKeyHash (intKind prog w) kx)) Q E s:=by
 obtain⟨hd,S,pl,ld,rm⟩:=So
 obtain⟨M,hM,eM,bM⟩:=S.tb.met (tupleKeyHash (intKind prog w) kx)
 have odd:=S.tb.rd.odd
 have TH:=S.tb.rd.di
 unfold setAddHashed setAddHashedIn
 refine Q9 (Qa (Z2 ho hd S.fits ?_))
 dsimp only
 have ns:byScan (.ref bx) es=false:=rfl
 rw[ns]
 simp only[Qu,Zj]
 refine Qa (Tr (M:=M) hu ho hd S hx hM eM bM (fun jc=>?_) (fun nk=>?_) 100000 0 none rfl (QL _) (by unfold turns at hM;omega) fun _ z=>absurd z (Q1 _))
 ·dsimp only
  have e:s={ s with heap:=s.heap }:=by cases s;rfl
  refine Qd ?_
  rw[e]
  have eo:({ o with data:=.set es ep t }:Obj)=o:=by obtain⟨c,d,dt,sl⟩:=o;simp only at hd;subst hd;rfl
  refine h s.heap ep kl es t bs _ (Heap.SameBut.refl a s.heap) (by rw[eo];exact ho) ⟨rfl,S,pl,ld,rm⟩ ?_ fun b hb=>.inr hb
  rw[Qf jc]
 ·dsimp only
  refine Qa (Z2 ho hd S.fits ?_)
  dsimp only
  have Sp:=S.put hx nk hM eM bM (by omega)
  generalize hj:(bg t.mask (bR t.mask (tupleKeyHash (intKind prog w) kx)) M).j=j at *
  have wO:(t.put j).1.plain=true:=pl
  have Hl:(t.put j).1.led=led:=ld
  have mk':(t.put j).1.mask=t.mask:=rfl
  have TJ:(t.put j).1.fill=kl.length+1:=by
   unfold SetTable.fill
   rw[Sp.tb.sz,Sp.tb.nd,Qc,sE]
   rfl
  rw[wO]
  simp only[Zv]
  refine Qa (Tv 7 hx ?_)
  simp only[Zv]
  have Hm:=CQ kl (t.put j).2 kx
  generalize hes:insertAt es (t.put j).2 (tupleKeyHash (intKind prog w) kx,Value.ref bx)=qG at *
  generalize ht1:(t.put j).1=t1 at *
  have hz:qG.size<=sizeLine:=by rw[Sp.size,sE,ZP];omega
  refine Qa (wpAny_storeSet_of ho hd ?_ hz)
  have sb:=QZ s.heap a (Obj.putSet qG t1)
  have Hn:(s.heap.update a (Obj.putSet qG t1)).get? a=some { o with data:=.set qG (ep+1) t1 }:=by
   have:=Zt (Obj.putSet qG t1) ho (by rw[putSet_of _ _ hd];rfl)
   rw[putSet_of _ _ hd]at this
   exact this
  have S1:=Sp.move ho hd sb
  have bI:∀ b∈g9 bs (t.put j).2 bx,b=bx\/b∈bs:=fun b hb=>Qs.mp ((CQ bs (t.put j).2 bx).mem_iff.mp hb)
  have lj:(g9 kl (t.put j).2 kx).length=kl.length+1:=sE _ _ _
  cases CS:t1.tooFull with
  | false=>
   simp only[V2,Vn,Qu,Zj]
   refine Qd (h _ (ep+1) _ qG t1 _ _ sb Hn ⟨rfl,S1,wO,Hl,?_⟩ (by rw[Qi nk];exact Hm) bI)
   unfold SetTable.tooFull at CS
   rw[TJ]at CS
   rw[lj]
   have:=of_decide_eq_false CS
   omega
  | true=>
   simp only[V2,Vn,Zv]
   have g4:SetTable.grown (es.size+1)=(kl.length+1)*4:=by
    unfold SetTable.grown
    rw[S.size,Qi (by omega)]
   rw[g4]
   refine Qa (TC (s:={ s with heap:=_ }) Hn rfl S1 (by omega) (by rw[lj];omega) (by rw[lj];omega) (by omega) fun h' jv t' iR pd v_ la S' TK Cj TL TM TN=>?_)
   exact Qd (h h' _ iR jv t' pd _ (sb.trans v_) la ⟨rfl,S',Cj.trans wO,TL.trans Hl,TM⟩ (by rw[Qi nk];exact TK.trans Hm) fun b hb=>bI b (TN b hb))
end
end L3
namespace L3
open PySem PySem.Spec PyProof.Rows PySem.W L2
variable {Q:Value->Shared->Prop}{ad:Nat->Addr}{h:Heap}{i:Nat}{kl:List (List Int)}
abbrev mY (es:Array (Int×Value))(ep:Nat)(t:SetTable):Obj:={ cls:=.type "set",dict:=none,data:=.set es ep t }
section
variable {prog:Program}{w:World}{A:Around}{R:Result->Shared->Prop}{I:Addr}{fp wr:List Addr}{G:Array GenState->Array GenState->Prop}{n:Nat}{P:Nat->Value->Prop}{St:Nat->Shared->Prop}
def sH (prog:Program)(w:World)(led:Bool)(S:Addr)(ad:Nat->Addr)(n:Nat)(h:Heap)(kl:List (List Int)):Prop:=∃ es ep t bs,h.get? S=some (mY es ep t)/\sG prog w h (mY es ep t) ep led kl es t bs/\∀ b∈bs,∃ j,j<n/\b=ad j
def sH.go{led:Bool}{S:Addr}{h':Heap}(H:sH prog w led S ad n h kl)(hS:∀ o,h.get? S=some o->h'.get? S=some o)(hA:∀ j,j<n->∀ o,h.get? (ad j)=some o->h'.get? (ad j)=some o):sH prog w led S ad n h' kl:=by
 obtain⟨es,ep,t,bs,g,⟨d,T,pl,ld,rm⟩,hb⟩:=H
 refine⟨es,ep,t,bs,hS _ g,⟨d,⟨T.es,T.len,fun i k b x y=>?_,T.tb,T.nd⟩,pl,ld,rm⟩,hb⟩
 obtain⟨o,items,m,ho,hc,hd,hi⟩:=T.is i k b x y
 obtain⟨j,hj,rfl⟩:=hb b (QK y)
 exact⟨o,items,m,hA j hj o ho,hc,hd,hi⟩
def TQ(W:WalksS prog w A.in1 I fp wr G n P St)(hu:A.in1.units<cLine)(S:Addr)(Ho:S ∉ fp)(led:Bool)(hn:n<=100)
  (val:Nat->List Int) (ad:Nat->Addr) (mZ:∀ i v,P i v->v=.ref (ad i)) (bK:∀ i,i<n->ad i≠S/\ad i ∉ wr) :
  ∀ (k i:Nat) (s:Shared) (kl:List (List Int)),n-i=k->i<=n->St i s->(∀ j,j<n->IsTupleKey (intKind prog w) s.heap (val j) (ad j))->sH prog w led S ad n s.heap kl->kl.length<=i->(∀ x,x∈kl ↔ ∃ j,j<i/\val j=x)->
   (∀ s' iR,Moved (S::wr) G s s'->sH prog w led S ad n s'.heap iR->(∀ x,x∈iR ↔ ∃ j,j<n/\val j=x)->R (.ok (.ret .none)) s')->
   codeAny (model prog w) A (.builtin "set.update.loop" ⟨[.ref S,.ref I],[]⟩) R s:=by
 have Hq:S ∉ wr:=fun h=>Ho (W.sub _ h)
 have cz:∀ b∈wr,b∈S::wr:=fun b hb=>Qj _ hb
 have tk:∀ {h h':Heap} {k:List Int} {b:Addr},(∀ o,h.get? b=some o->h'.get? b=some o)->IsTupleKey (intKind prog w) h k b->IsTupleKey (intKind prog w) h' k b:=fun q ⟨o,items,m,ho,hc,hd,hi⟩=>⟨o,items,m,q o ho,hc,hd,hi⟩
 intro k
 induction k with
 | zero=>
  intro i s kl hk hi dZ hT hS hl hm hR
  have jc:i=n:=by omega
  subst jc
  refine Z4 JW ?_
  rw[Jk Z6 _]
  show wpAny _ A.in1 (pyNext (.ref I) >>= _) _ _ s
  refine Qa (W.done s _ _ dZ fun s' qH=>?_)
  show wpAny _ A.in1 (ret Value.none) _ _ s'
  exact Qd (hR s' kl (qH.mono cz) (hS.go (fun o e=>qH.heap S o Hq e) fun j hj o e=>qH.heap _ o (bK j hj).2 e) hm)
 | succ k ih=>
  intro i s kl hk hi dZ hT hS hl hm hR
  have bY:i<n:=by omega
  refine Z4 JW ?_
  rw[Jk Z6 _]
  show wpAny _ A.in1 (pyNext (.ref I) >>= _) _ _ s
  refine Qa (W.item i s _ _ bY dZ fun v s' hP wo qH=>?_)
  have hv:=mZ i v hP
  subst hv
  have CT:∀ j,j<n->IsTupleKey (intKind prog w) s'.heap (val j) (ad j):=fun j hj=>tk (fun o e=>qH.heap _ o (bK j hj).2 e) (hT j hj)
  obtain⟨es,ep,t,bs,g,So,hb⟩:=hS.go (fun o e=>qH.heap S o Hq e) fun j hj o e=>qH.heap _ o (bK j hj).2 e
  show wpAny _ A.in1 (holding [Value.ref (ad i)] (setAdd S (.ref (ad i))) >>= _) _ _ s'
  refine Qa (Q9 ?_)
  unfold setAdd
  refine Q9 ?_
  refine Qa (wpAny_pyHash_tuple hu (CT i bY) ?_)
  refine TF (s:={ s' with toks:=s'.toks+((val i).length+1) }) hu g So (CT i bY) (by omega) fun h' oh iR jv t' pd r CU TR TU pm CV=>?_
  have TV:∀ j,j<n->IsTupleKey (intKind prog w) h' (val j) (ad j):=fun j hj=>tk (fun o e=>by rw[CU.2 _ (bK j hj).1];exact e) (CT j hj)
  have mem:∀ x,x∈iR ↔ ∃ j,j<i+1/\val j=x:=fun x=>by
   rw[pm.mem_iff]
   have ax:x∈(if val i∈kl then kl else val i::kl) ↔ x=val i\/x∈kl:=by
    by_cases c:val i∈kl
    ·rw[Qf c]
     exact⟨.inr,fun z=>z.elim (fun y=>y ▸ c) id⟩
    ·rw[Qi c];exact Qs
   rw[ax,hm x]
   constructor
   ·rintro (rfl|⟨j,a,b⟩)
    ·exact⟨i,by omega,rfl⟩
    ·exact⟨j,by omega,b⟩
   ·rintro ⟨j,a,b⟩
    by_cases c:j=i
    ·subst c;exact .inl b.symm
    ·exact .inr ⟨j,by omega,b⟩
  have len:iR.length<=i+1:=by
   have e:=pm.length_eq
   by_cases c:val i∈kl
   ·rw[Qf c]at e;omega
   ·rw[Qi c,Zb]at e;omega
  refine Qd ⟨plainId_quiet Z6 _,ih (i+1) _ iR (by omega) bY (W.frame _ s' _ _ wo (Yv _ _) fun b gQ o e=>?_) TV ⟨jv,oh,t',pd,TR,TU,fun b gQ=>?_⟩ len mem fun pS CW CY CZ mm=>?_⟩
  ·rw[CU.2 b (fun h:b=S=>Ho (by rw[<- h];exact gQ))];exact e
  ·rcases CV b gQ with rfl|z
   ·exact⟨i,bY,rfl⟩
   ·exact hb b z
  ·refine hR pS CW (Moved.trans W.gtrans ((qH.mono cz).then_heap (Yv _ _) fun b o gQ e=>?_) CY) CZ mm
   rw[CU.2 b (fun h:b=S=>gQ (by rw[h];exact Ql))];exact e
end
section
variable {prog:Program}{w:World}{A:Around}{E:Value->Shared->Prop}{s:Shared}
set_option maxHeartbeats 3200000 in
def TX{t:Addr}{us:List Value}{ks:List (List Int)}(hA:A.handled=none)(hu:A.in1.in1.in1.units<cLine)(ht:s.heap.IsList t us.toArray)(hlen:us.length=ks.length)(hk:∀ (i:Nat) (v:Value),us[i]? = some v->v=.ref (ad i))(uo:∀ i,i<ks.length->IsTupleKey (intKind prog w) s.heap (ks.getD i []) (ad i))(sI:ks.length<=100)
  (q:∀ (h':Heap) (tk:Nat) kl,sH prog w (!gA w) s.heap.objs.size ad ks.length h' kl->(∀ x,x∈kl ↔ ∃ j,j<ks.length/\ks.getD j []=x)->(∀ b o,b<s.heap.objs.size->s.heap.get? b=some o->h'.get? b=some o)->Q (.ref s.heap.objs.size) { s with heap:=h',toks:=tk }) :
  wpAny (model prog w) A (call (.type "set") [.ref t]) Q E s:=by
 have c1:=ZD.made
 have c2:=ZD.sub
 obtain⟨cc,tl,c3⟩:=ZD.mro
 have c4:=ZD.notType
 have c5:=ZD.canCreate
 have c6:=PySem.F.typeCall_set_1 (.ref t)
 refine VE (codeAny_of_tree (show wpAny _ _ (callAny (.type "set") _) _ _ _ from Qd ⟨Y0 _ (by decide +kernel),Z4 PySem.F.entry_type_call ?_⟩))
 rw[Around.under_plain (weight_type_call_type "set" [.ref t] []) rfl]
 repeat (any_goals (first|assumption|wp_step))
 refine JP (SQ (.ref t) (E:=E) (Q₁:=fun ob s1=>ob=.ref s.heap.objs.size/\s1={ s with heap:=s.heap.push (so 0 (fun _=>0) 0 (!gA w)) }) ⟨rfl,rfl⟩) fun r s1 hr=>?_
 cases r with
 | error e=>exact hr
 | ok fl=>
  cases fl with
  | ret ob=>
   obtain⟨rfl,rfl⟩:=hr
   have g0:(s.heap.push (so 0 (fun _=>0) 0 (!gA w))).get? s.heap.objs.size=some (so 0 (fun _=>0) 0 (!gA w)):=Qv _ rfl
   have g1:Shared.TypeIs { s with heap:=s.heap.push (so 0 (fun _=>0) 0 (!gA w)) } (.ref s.heap.objs.size) "set":=⟨_,g0,rfl⟩
   have g2:=ZD.init.lookup
   have g3:=ZD.init.bind (.ref s.heap.objs.size)
   repeat (any_goals (first|assumption|wp_step))
   refine JP (Jj (R:=wants (fun r s2=>r=.none/\∃ h' tk kl,s2={ s with heap:=h',toks:=tk }/\sH prog w (!gA w) s.heap.objs.size ad ks.length h' kl/\(∀ x,x∈kl ↔ ∃ j,j<ks.length/\ks.getD j []=x)/\(∀ b o,b<s.heap.objs.size->s.heap.get? b=some o->h'.get? b=some o)) E)
    ZD.init.plain PySem.F.entry_set_init (check_set_init_1 g1 ?_)) fun r2 s2 wQ=>?_
   ·obtain⟨ol,j0,mJ,nl,Hr⟩:=ht
    obtain⟨oc,od,odt,nN⟩:=ol
    simp only at mJ Hr
    subst mJ Hr
    have C0:(s.heap.push (so 0 (fun _=>0) 0 (!gA w))).get? t=some _:=Qe _ j0
    have n1:=PySem.F.sub_list_set
    have n2:=PySem.F.sub_list_frozenset
    have n3:(Value.type "list" == Value.type "dict")=false:=by decide
    have tt:(s.heap.push (so 0 (fun _=>0) 0 (!gA w))).IsList t us.toArray:=⟨_,C0,rfl,nl,rfl⟩
    unfold Builtin.«set.__init__» noKeywords Builtin.Frozenset.updateFrom
    generalize TY:pyIter=PI
    wp_walk
    subst TY
    refine wpAny_pyIter_list tt (Qa (wpAny_runValue ?_))
    have lt:=Qo j0
    have e1:(s.heap.push (so 0 (fun _=>0) 0 (!gA w))).objs.size=s.heap.objs.size+1:=ZJ ..
    have sz:us.toArray.size=ks.length:=by rw[Qn,hlen]
    have mZ:∀ (i:Nat) (v:Value),us.toArray[i]? = some v->v=.ref (ad i):=fun i v hv=>hk i v (by rw[<- hv];simp)
    have alt:∀ i,i<us.toArray.size->ad i<s.heap.objs.size:=fun i hi=>by
     rw[sz]at hi
     obtain⟨o,_,_,ho,_⟩:=uo i hi
     exact Qo ho
    refine TQ (n:=us.toArray.size) ((Walks.list (A:=A.in1.in1.in1) (by simp[hA]) _ t (by rw[e1];exact QM (Zc lt)) us.toArray).toS) hu s.heap.objs.size (by rw[e1];simp only[Qs,QJ,Vw,not_or];exact⟨QM (Zq _),VD lt⟩) (!gA w) (by rw[sz];exact sI) (fun i=>ks.getD i []) ad mZ (fun i hi=>⟨QM (alt i hi),by rw[e1];simp only[Qs,QJ,Vw];exact QM (Zc (alt i hi))⟩) (us.toArray.size-0) 0 _ [] (by omega) (QL _) ⟨⟨_,Qv _ rfl,rfl,rfl⟩,tt.push _⟩ (fun j hj=>?TZ) ?T3 (QL _) (fun x=>⟨fun z=>(QJ z).elim,fun⟨j,z,_⟩=>absurd z (Q1 _)⟩) ?T4
    case TZ=>
     rw[sz]at hj
     obtain⟨o,items,m,ho,hc,hd,hi⟩:=uo j hj
     exact⟨o,items,m,Qe _ (Qe _ ho),hc,hd,hi⟩
    case T3=>
     refine⟨#[],0,.fresh 0 0 (!gA w),[],Qe _ (g0.trans (Jb some (GS _))),⟨rfl,⟨rfl,rfl,fun i k b x _=>by simp at x,fW.fresh _ _ _,JL⟩,rfl,rfl,by show 0*5<7*3;decide⟩,fun b hb=>(QJ hb).elim⟩
    case T4=>
     intro s' iR hm hS mm
     rw[sz]at hS mm
     obtain⟨h',g',d',BU,AS⟩:=s'
     cases (show g'=s.gens from hm.gens)
     cases (show d'=s.drawn from hm.drawn)
     cases (show AS=s.os from hm.os)
     refine Qd (show wpAny _ _ (ret Value.none) _ _ _ from Qd ⟨rfl,h',BU,iR,rfl,hS,mm,fun c o hc e=>hm.heap c o ?_ (Qe _ (Qe _ e))⟩)
     rw[e1]
     simp only[Qs,QJ,Vw,not_or]
     exact⟨QM hc,QM (Zc hc)⟩
   ·cases r2 with
    | error e=>exact wQ
    | ok T5=>
     cases T5 with
     | ret r=>
      obtain⟨rfl,h',tk,iR,rfl,hS,mm,kp⟩:=wQ
      repeat (any_goals (first|assumption|wp_step))
      exact q _ _ _ hS mm kp
     | _=>exact wQ.elim
  | _=>exact hr.elim
end
def T6{xs:Array Nat}(r:Rs xs)(hi:i<=xs.size):SetTable.below xs (if i=0 then 0 else xs.getD (i-1) 0+1)=i:=by
 by_cases h0:i=0
 ·subst h0
  rw[Qf rfl]
  obtain⟨a,b,c⟩:=wF r 0
  by_cases z:SetTable.below xs 0=0
  ·exact z
  ·exact absurd (b 0 (by omega)) (Q1 _)
 ·rw[Qi h0]
  obtain⟨a,b,c⟩:=wF r (xs.getD (i-1) 0+1)
  generalize SetTable.below xs (xs.getD (i-1) 0+1)=q at *
  by_cases l:q<i
  ·have h1:=c (i-1) (by omega) (by omega)
   omega
  ·by_cases l2:i<q
   ·have h1:=b i l2
    have h2:=r (i-1) i (by omega) (by omega)
    omega
   ·omega
structure uq (w:World) (es:Array (Int×Value)) (t:SetTable):Prop where
 ft:t.fits es.size=true
 pl:t.plain=true
 ld:t.led = !gA w
 rs:Rs t.place
 sz:t.place.size=es.size
def sG.gd{prog:Program}{w:World}{o:Obj}{ep:Nat}{es:Array (Int×Value)}{t:SetTable}{bs:List Addr}(S:sG prog w h o ep (!gA w) kl es t bs):uq w es t:=
 ⟨S.S.fits,S.pl,S.ld,S.S.tb.rs,by rw[S.S.tb.sz,Qc,S.S.size]⟩
def jE (w:World)(a:Addr)(es:Array (Int×Value))(ep:Nat):Array (Int×Value):=if gA w then pickOrder (w.params.setOrder a ep) es else es
def lY (w:World)(t:SetTable)(i:Nat):Nat:=if gA w then 0 else if i=0 then 0 else t.place.getD (i-1) 0+1
def Hs(w:World)(a:Addr)(es:Array (Int×Value))(ep:Nat):(jE w a es ep).toList.Perm es.toList:=by
 unfold jE
 split
 ·exact SR _ _
 ·exact .rfl
def zr(w:World)(a:Addr)(es:Array (Int×Value))(ep:Nat):(jE w a es ep).size=es.size:=by
 rw[<- QU,(Hs w a es ep).length_eq,QU]
section
variable {prog:Program}{w:World}{A:Around}{E:Value->Shared->Prop}{s:Shared}{a I:Addr}{ep:Nat}{es:Array (Int×Value)}{t:SetTable}
def sJ{Q:(Array (Int×Value)×Nat×SetTable)->Shared->Prop}(hm:uq w es t)(ho:s.heap.get? a=some (mY es ep t))(h:Q (es,ep,t) s):wpAny (model prog w) A (setState a) Q E s:=
 Z2 ho rfl hm.ft h
def T7(hm:uq w es t)(ho:s.heap.get? a=some (mY es ep t))
  (hQ:Q (.ref s.heap.objs.size) { s with heap:=s.heap.push (io a 0 0 es.size ep) }):wpAny (model prog w) A (pyIter (.ref a)) Q E s:=by
 have hT:s.TypeIs (.ref a) "set":=⟨_,ho,rfl⟩
 refine Vi hT VS (Zr VS hT SS ?_ (PySem.F.args_set_iter_1 _))
 unfold Builtin.«frozenset.__iter__» Builtin.Frozenset.slot0 slotArgs
 simp only[List.isEmpty_nil,ZX,Qu,↓reduceIte,bind_assoc,Jg,Yn]
 unfold Builtin.Frozenset.addrOf Builtin.Frozenset.sizeOf
 refine Qa (Qd ?_)
 try dsimp only
 refine Qa (Qd ?_)
 have wR:∀ {R:Array (Int×Value)->Shared->Prop},R es s->wpAny (model prog w) A.in1 (setEntries a) R E s:=fun h=>by
  unfold setEntries;exact Qa (sJ hm ho (Qd h))
 refine Qa (Qa (wR (Qd ?_)))
 have T8:∀ {R:Bool->Shared->Prop},R false s->wpAny (model prog w) A.in1 (setDrawn a) R E s:=fun h=>by
  unfold setDrawn
  refine Qa (sJ hm ho (Qa (CF (Qd ?_))))
  have e:(!gA w&&(!t.plain&&decide (es.size > 1)))=false:=by rw[hm.pl];cases gA w<;>rfl
  exact e ▸ h
 refine Qa (T8 ?_)
 simp only[Qu,↓reduceIte]
 refine Qa (Qd ?_)
 have T9:∀ {R:Nat->Shared->Prop},R ep s->wpAny (model prog w) A.in1 (setEpoch a) R E s:=fun h=>by
  unfold setEpoch;exact Qa (sJ hm ho (Qd h))
 refine Qa (T9 ?_)
 unfold newFields
 refine Qa (Zo (Qd ⟨_,rfl,"set_iterator",_,⟨_,Qv _ rfl,rfl⟩,um.lookup,?_⟩))
 exact hQ
def Ht{R:Option (Value×Nat)->Shared->Prop}(hm:uq w es t)(hi:i<=es.size)(ho:s.heap.get? a=some (mY es ep t))
  (h:R (((jE w a es ep)[i]?).map fun e=>(e.2,lY w t (i+1))) s):wpAny (model prog w) A (setNext a (lY w t i) i ep) R E s:=by
 unfold setNext
 refine Qa (sJ hm ho (Qa (CF ?_)))
 dsimp only
 cases hb:gA w with
 | true=>
  rw[Qf rfl]
  rw[Qi (by simp)]
  refine Qa (m:=setWalk a) ?_
  unfold setWalk
  refine Qa (sJ hm ho (Qa (CF ?_)))
  rw[hb,Qf rfl]
  refine Qa (Vz (Qd (Qd ?_)))
  unfold jE lY at h
  rw[hb]at h
  simp only[↓reduceIte]at h
  unfold lY
  rw[hb,Qf rfl]
  exact h
 | false=>
  rw[Qi (by simp)]
  have lt:t.led=true:=by rw[hm.ld,hb];rfl
  refine(show wpAny _ _ (if((!t.plain&&decide (es.size > 1))=true)then _ else _) _ _ _ from ?_)
  rw[Qi (show ¬ ((!t.plain&&decide (es.size > 1))=true)from by rw[hm.pl];simp)]
  refine Qa (show wpAny _ _ (if((!t.led && !es.isEmpty)=true)then unsupported "set:maker-not-led" else pure ()) _ _ _ from ?_)
  rw[Qi (show ¬ ((!t.led && !es.isEmpty)=true)from by rw[lt];simp)]
  refine Qd ?_
  unfold jE lY at h
  rw[hb]at h
  simp only[Qu,↓reduceIte,Nat.add_one_ne_zero,Nat.add_sub_cancel]at h
  unfold lY
  rw[hb]
  simp only[Qu,↓reduceIte]
  refine Qd ?_
  rw[T6 hm.rs (by rw[hm.sz];exact hi)]
  rcases VJ i es.size with bY|T_
  ·have e1:es[i]? = some es[i]:=Q7 bY
   have e2:t.place[i]? = some (t.place.getD i 0):=zm (by rw[hm.sz];exact bY)
   rw[e1]at h ⊢
   rw[e2]
   exact h
  ·have e1:es[i]? = none:=Z9 T_
   rw[e1]at h ⊢
   exact h
def Ug(hh:A.handled=none)(bK:a≠I)(hm:uq w es t):Walks prog w A I [I,a] [I] es.size (fun i v=>∃ e,(jE w a es ep)[i]? = some e/\v=e.2)
  (fun i h=>h.get? I=some (io a (lY w t i) i es.size ep)/\h.get? a=some (mY es ep t)) where
 sub:=fun b hb=>by simp at hb;simp[hb]
 frame:=fun _ _ _ st hk=>⟨hk I (by simp) _ st.1,hk a (by simp) _ st.2⟩
 self:=fun i s Q E st hQ=>by
  have hT:s.TypeIs (.ref I) "set_iterator":=⟨_,st.1,rfl⟩
  refine Vi hT GX (Zr GX hT SV ?_ (SU _))
  show wpAny _ _ (ret (.ref I)) _ _ s
  exact Qd ⟨_,rfl,"set_iterator",_,hT,um.lookup,hQ⟩
 item:=fun i s Q E hi st hQ=>by
  have hT:s.TypeIs (.ref I) "set_iterator":=⟨_,st.1,rfl⟩
  unfold pyNext
  refine Qa (JZ (ZE (name:=Str.ofString "__next__") hT um (Zr um hT GV ?_ (GW _))))
  unfold Builtin.«set_iterator.__next__»
  refine Qa (Qd ?_)
  refine Qa (Va st.1 rfl ?_)
  show wpAny _ _ (setEntries a >>= _) _ _ _
  have wR:∀ {R:Array (Int×Value)->Shared->Prop} {E:Value->Shared->Prop},R es s->wpAny (model prog w) A.in1 (setEntries a) R E s:=fun h=>by
   unfold setEntries;exact Qa (sJ hm st.2 (Qd h))
  refine Qa (wR ?_)
  dsimp only
  rw[Qi (by simp)]
  show wpAny _ _ (setNext a (lY w t i) i ep >>= _) _ _ _
  refine Qa (Ht hm (ZG hi) st.2 ?_)
  have ew:(jE w a es ep)[i]? = some ((jE w a es ep)[i]'(by rw[zr];exact hi)):=Q7 (by rw[zr];exact hi)
  rw[ew]
  show wpAny _ _ (setField (.ref I) 0 (rawInt (lY w t (i+1))) >>= _) _ _ _
  refine Qa (wpAny_setField_rec st.1 (by simp) fun h1 g1 b1=>?_)
  refine Qa (wpAny_setField_rec (s:={ s with heap:=h1 }) g1 (by simp) fun h2 g2 b2=>?_)
  refine Qd ⟨_,rfl,Qd (hQ _ h2 s.toks ⟨_,ew,rfl⟩ ⟨?_,?_⟩ fun b o hb e=>?_)⟩
  ·rw[g2];simp[io,rawInt]
  ·have n1:=(b1.2 a bK);have n2:=(b2.2 a bK)
   rw[n2,n1];exact st.2
  ·have gQ:b≠I:=fun h=>hb (by simp[h])
   rw[b2.2 b gQ,b1.2 b gQ];exact e
 done:=fun s Q E st hQ=>by
  have hT:s.TypeIs (.ref I) "set_iterator":=⟨_,st.1,rfl⟩
  unfold pyNext
  refine Qa (JZ (ZE (name:=Str.ofString "__next__") hT um (Zr um hT GV ?_ (GW _))))
  unfold Builtin.«set_iterator.__next__»
  refine Qa (Qd ?_)
  refine Qa (Va st.1 rfl ?_)
  show wpAny _ _ (setEntries a >>= _) _ _ _
  have wR:∀ {R:Array (Int×Value)->Shared->Prop} {E:Value->Shared->Prop},R es s->wpAny (model prog w) A.in1 (setEntries a) R E s:=fun h=>by
   unfold setEntries;exact Qa (sJ hm st.2 (Qd h))
  refine Qa (wR ?_)
  dsimp only
  rw[Qi (by simp)]
  show wpAny _ _ (setNext a (lY w t es.size) es.size ep >>= _) _ _ _
  refine Qa (Ht hm (Qh _) st.2 ?_)
  have ew:(jE w a es ep)[es.size]? = none:=Z9 (by rw[zr];exact Qh _)
  rw[ew]
  show wpAny _ _ (setField (.ref I) 2 .none >>= _) _ _ _
  refine Qa (wpAny_setField_rec st.1 (by simp) fun h1 g1 b1=>?_)
  show wpAny _ _ (newExc (.type "StopIteration") [] >>= _) _ _ _
  refine Qa ?_
  simp only[newExc,newTuple]
  refine Qa (Zo ?_ (by size_fits))
  refine Qa (m:=firstArgMember _ _) (V0 (a:=Value.none) (by first|rfl|(simp only[firstArgMember];rfl)) ?_)
  refine Zo ?_ (by size_fits)
  simp only[raiseNew]
  refine Qa (wpAny_handled ?_)
  rw[show A.in1.handled=none from hh]
  refine Qa (Qd (wpAny_throw ?_))
  refine Qa (Yx (T:="StopIteration") (b:=true) ⟨_,Qv _ rfl,rfl⟩ isSubtype_stop ?_)
  refine Qd (hQ _ s.toks fun b o hb e=>?_)
  have gQ:b≠I:=fun h=>hb (by simp[h])
  exact Qe _ (Qe _ (by rw[b1.2 b gQ];exact e))
def Uh(hm:uq w es t):KdlSrc prog w "set" a a es.size (fun i v=>∃ e,(jE w a es ep)[i]? = some e/\v=e.2) (fun h=>h.get? a=some (mY es ep t)) where
 type:=fun _ h=>⟨_,h,rfl⟩
 there:=fun _ h=>⟨Qo h,Qo h⟩
 keep:=fun _ _ h hk=>hk a (.inl rfl) _ h
 notList:=by decide
 notTuple:=by decide
 hint:=fun _ _ _ _ h hq=>SW ⟨_,h,rfl⟩ hq
 iter:=fun A s hh h=>⟨io a 0 0 es.size ep,_,(fun _ _ hq=>T7 hm h hq),Ug hh (QM (Qo h)) hm,⟨by rw[show lY w t 0=0 by unfold lY;split<;>rfl];exact Qv _ rfl,Qe _ h⟩⟩
end
end L3
namespace L3
open PySem PySem.W PyProof.Rows
variable {Q:Bool->Shared->Prop}{a:Addr}{h:Heap}{i j n aU:Nat}{ks:List (Nat×Nat)}{p p0:Array Nat}{vs:List Value}{x:Nat×Nat}
def bw {α:Type}(lt:Nat->Nat->Bool):KasT α->α
 | .ret a=>a
 | .ask i j k=>bw lt (k (lt i j))
theorem pf{α β:Type}(lt:Nat->Nat->Bool)(f:α->KasT β):∀ t:KasT α,bw lt (t.bind f)=bw lt (f (bw lt t))
 | .ret _=>rfl
 | .ask i j k=>pf lt f (k (lt i j))
variable {r:Nat->Int}
abbrev cO (r:Nat->Int)(i j:Nat):Bool:=decide (r i<r j)
abbrev xv (r:Nat->Int)(p:Array Nat)(i:Nat):Int:=r (p.getD i 0)
theorem C1(p:Array Nat):∀ (f n:Nat),n<=bw (cO r) (kas_asc p f n)/\bw (cO r) (kas_asc p f n)<=n+f/\(∀ k,n<=k->k<bw (cO r) (kas_asc p f n)->xv r p (k-1)<=xv r p k)/\(bw (cO r) (kas_asc p f n)<n+f->xv r p (bw (cO r) (kas_asc p f n))<xv r p (bw (cO r) (kas_asc p f n)-1))
 | 0,n=>⟨Qh _,Qh _,fun k a b=>absurd (Jw a b) (Q2 _),fun h=>absurd h (Q2 _)⟩
 | f+1,n=>by
  have e:bw (cO r) (kas_asc p (f+1) n)=if xv r p n<xv r p (n-1)then n else bw (cO r) (kas_asc p f (n+1)):=by
   show bw (cO r) (if decide (r (p.getD n 0)<r (p.getD (n-1) 0))=true then KasT.ret n else kas_asc p f (n+1))=_
   by_cases c:xv r p n<xv r p (n-1)
   ·rw[Qf c,Qf (Qt c)];rfl
   ·rw[Qi c,Qi (by rw[ZA];exact c)]
  rw[e]
  by_cases c:xv r p n<xv r p (n-1)
  ·rw[Qf c]
   exact⟨Qh _,by omega,fun k a b=>by omega,fun _=>c⟩
  ·rw[Qi c]
   obtain⟨h1,h2,h3,h4⟩:=C1 p f (n+1)
   refine⟨by omega,by omega,fun k a b=>?_,fun h=>h4 (by omega)⟩
   by_cases z:k=n
   ·subst z;omega
   ·exact h3 k (by omega) b
def wU{x:Nat->Int}(h:∀ k,1<=k->k<n->x (k-1)<=x k):∀ (i j:Nat),i<=j->j<n->x i<=x j:=by
 intro i j
 induction j with
 | zero=>
  intro a _
  have:i=0:=by omega
  subst this
  exact Vj _
 | succ j ih=>
  intro a b
  by_cases z:i=j+1
  ·subst z;exact Vj _
  ·exact Uc (ih (by omega) (by omega)) (h (j+1) (by omega) b)
def C2(hj:j<=p.size)(k:Nat):xv r (kas_rev p i j) k=if i<=k/\k<j then xv r p (i+j-1-k)else xv r p k:=by
 unfold kas_rev
 show r ((mirror p i j ((j-i) / 2)).getD k 0)=_
 rw[QH,getElem?_mirror_all hj k]
 split
 ·rw[<- QH]
 ·rw[<- QH]
def qI(p:Array Nat)(i j:Nat):(kas_rev p i j).Perm p:=mirror_perm _ _ _ _
def C3(hj:j<=p.size)(h:∀ k,i<=k->k<j->xv r p k=xv r p (j-1))(k:Nat):xv r (kas_rev p i j) k=xv r p k:=by
 rw[C2 hj]
 split
 next c=>
  rw[h (i+j-1-k) (by omega) (by omega),h k c.1 c.2]
 ·rfl
structure Dn (r:Nat->Int) (p0 p:Array Nat) (n q:Nat):Prop where
 pm:p.Perm p0
 le:n<=p0.size
 q1:q<n
 dn:∀ k,1<=k->k<n->xv r p k<=xv r p (k-1)
 eq:∀ k,n-(q+1)<=k->k<n->xv r p k=xv r p (n-1)
theorem zt:∀ (f:Nat) (p:Array Nat) (n q:Nat),Dn r p0 p n q->n+f<=p0.size->∃ p' n' q',bw (cO r) (kas_desc f p n q)=(p',n',q')/\Dn r p0 p' n' q'/\n<=n'/\n'<=n+f
 | 0,p,n,q,h,_=>⟨p,n,q,rfl,h,Qh _,Qh _⟩
 | f+1,p,n,q,h,hf=>by
  have sz:p.size=p0.size:=h.pm.size_eq
  have hq:=h.q1
  have e:bw (cO r) (kas_desc (f+1) p n q)=if xv r p n<xv r p (n-1)then(if q > 0 then bw (cO r) (kas_desc f (kas_rev p (n-(q+1)) n) (n+1) 0)else bw (cO r) (kas_desc f p (n+1) 0))else if xv r p (n-1)<xv r p n then(p,n,q)else bw (cO r) (kas_desc f p (n+1) (q+1)):=by
   show bw (cO r) (if decide (r (p.getD n 0)<r (p.getD (n-1) 0))=true then(if q > 0 then kas_desc f (kas_rev p (n-(q+1)) n) (n+1) 0 else kas_desc f p (n+1) 0)else KasT.ask (p.getD (n-1) 0) (p.getD n 0) fun d=>if d=true then KasT.ret (p,n,q)else kas_desc f p (n+1) (q+1))=_
   by_cases c:xv r p n<xv r p (n-1)
   ·rw[Qf c,Qf (Qt c)]
    split<;>rfl
   ·rw[Qi c,Qi (by rw[ZA];exact c)]
    show bw (cO r) (if decide (r (p.getD (n-1) 0)<r (p.getD n 0))=true then KasT.ret (p,n,q)else kas_desc f p (n+1) (q+1))=_
    by_cases d:xv r p (n-1)<xv r p n
    ·rw[Qf d,Qf (Qt d)];rfl
    ·rw[Qi d,Qi (by rw[ZA];exact d)]
  rw[e]
  by_cases c:xv r p n<xv r p (n-1)
  ·rw[Qf c]
   have step:∀ p1:Array Nat,p1.Perm p0->(∀ k,xv r p1 k=xv r p k)->Dn r p0 p1 (n+1) 0:=fun p1 pm ex=>by
    refine⟨pm,by omega,by omega,fun k a b=>?_,fun k a b=>by rw[show k=n+1-1 by omega]⟩
    rw[ex,ex]
    by_cases z:k=n
    ·subst z;omega
    ·exact h.dn k a (by omega)
   by_cases d:q > 0
   ·rw[Qf d]
    obtain⟨p',n',q',e1,e2,e3,e4⟩:=zt f _ (n+1) 0 (step _ ((qI _ _ _).trans h.pm) fun k=>C3 (by omega) h.eq k) (by omega)
    exact⟨p',n',q',e1,e2,by omega,by omega⟩
   ·rw[Qi d]
    obtain⟨p',n',q',e1,e2,e3,e4⟩:=zt f _ (n+1) 0 (step p h.pm fun _=>rfl) (by omega)
    exact⟨p',n',q',e1,e2,by omega,by omega⟩
  ·rw[Qi c]
   by_cases d:xv r p (n-1)<xv r p n
   ·rw[Qf d]
    exact⟨p,n,q,rfl,h,Qh _,by omega⟩
   ·rw[Qi d]
    have en:xv r p n=xv r p (n-1):=by omega
    obtain⟨p',n',q',e1,e2,e3,e4⟩:=zt f p (n+1) (q+1) ⟨h.pm,by omega,by omega,fun k a b=>by
     by_cases z:k=n
     ·subst z;omega
     ·exact h.dn k a (by omega),fun k a b=>by
     rw[show n+1-1=n by omega]
     by_cases z:k=n
     ·rw[z]
     ·rw[h.eq k (by omega) (by omega),en]⟩ (by omega)
    exact⟨p',n',q',e1,e2,by omega,by omega⟩
structure Up (r:Nat->Int) (p0 p:Array Nat) (n:Nat):Prop where
 pm:p.Perm p0
 n1:1<=n
 le:n<=p0.size
 up:∀ k,1<=k->k<n->xv r p (k-1)<=xv r p k
def Hu{q:Nat}(h:Dn r p0 p n q)(hn:aU=p0.size):∃ m p',bw (cO r) (kas_tail3 n aU p)=(m,p')/\Up r p0 p' m:=by
 have sz:p.size=p0.size:=h.pm.size_eq
 have hl:=h.le
 have hq:=h.q1
 unfold kas_tail3
 rw[pf]
 obtain⟨h1,h2,h3,_⟩:=C1 (r:=r) (kas_rev p 0 n) (aU-n) n
 refine⟨_,_,rfl,(qI _ _ _).trans h.pm,by omega,by omega,fun k a b=>?_⟩
 by_cases z:k<n
 ·rw[C2 (by omega),C2 (by omega),Qf ⟨by omega,by omega⟩,Qf ⟨by omega,z⟩]
  have:=h.dn (0+n-1-(k-1)) (by omega) (by omega)
  rw[show 0+n-1-(k-1)-1=0+n-1-k by omega]at this
  exact this
 ·exact h3 k (by omega) b
def Hv(h:Dn r p0 p (n+1) 0)(hn:aU=p0.size):∃ m p',bw (cO r) (kas_descPart n aU p)=(m,p')/\Up r p0 p' m:=by
 have hl:=h.le
 unfold kas_descPart
 rw[pf]
 obtain⟨p',n',q',e,d,a,b⟩:=zt (aU-(n+1)) p (n+1) 0 h (by omega)
 rw[e]
 show ∃ m Ui,bw (cO r) (if q' > 0 then kas_tail3 n' aU (kas_rev p' (n'-(q'+1)) n')else kas_tail3 n' aU p')=(m,Ui)/\_
 have sz:p'.size=p0.size:=d.pm.size_eq
 have ig:=d.le
 by_cases c:q' > 0
 ·rw[Qf c]
  have ex:∀ k,xv r (kas_rev p' (n'-(q'+1)) n') k=xv r p' k:=fun k=>C3 (by omega) d.eq k
  exact Hu (q:=q') ⟨(qI _ _ _).trans d.pm,d.le,d.q1,fun k a b=>by rw[ex,ex];exact d.dn k a b,fun k a b=>by rw[ex,ex];exact d.eq k a b⟩ hn
 ·rw[Qi c]
  exact Hu d hn
def Uj(h1:1<=p0.size):∃ m p',bw (cO r) (kas_count p0.size p0)=(m,p')/\Up r p0 p' m:=by
 unfold kas_count
 rw[pf]
 obtain⟨a,b,c,d⟩:=C1 (r:=r) p0 (p0.size-1) 1
 generalize bw (cO r) (kas_asc p0 (p0.size-1) 1)=n at *
 show ∃ m p',bw (cO r) (if(n==p0.size)=true then KasT.ret (n,p0)else if n > 1 then KasT.ask (p0.getD 0 0) (p0.getD (n-1) 0) fun c=>if c=true then KasT.ret (n,p0)else kas_descPart n p0.size (kas_rev p0 0 n)else kas_descPart n p0.size p0)=(m,p')/\_
 by_cases z:n=p0.size
 ·rw[Qf (by rw[Zy];exact z)]
  exact⟨n,p0,rfl,VN _,a,by omega,c⟩
 ·rw[Qi (by rw[Zy];exact z)]
  have lt:=d (by omega)
  by_cases y:n > 1
  ·rw[Qf y]
   show ∃ m p',bw (cO r) (if decide (r (p0.getD 0 0)<r (p0.getD (n-1) 0))=true then KasT.ret (n,p0)else kas_descPart n p0.size (kas_rev p0 0 n))=(m,p')/\_
   by_cases x:xv r p0 0<xv r p0 (n-1)
   ·rw[Qf (Qt x)]
    exact⟨n,p0,rfl,VN _,a,by omega,c⟩
   ·rw[Qi (by rw[ZA];exact x)]
    have same:∀ k,0<=k->k<n->xv r p0 k=xv r p0 (n-1):=fun k _ hk=>by
     have l1:=wU c 0 k (QL _) hk
     have l2:=wU c k (n-1) (by omega) (by omega)
     omega
    have ex:∀ k,xv r (kas_rev p0 0 n) k=xv r p0 k:=fun k=>C3 (by omega) same k
    refine Hv ⟨qI _ _ _,by omega,by omega,fun k q1 q2=>?_,fun k q1 q2=>by rw[show k=n+1-1 by omega]⟩ rfl
    rw[ex,ex]
    by_cases w:k=n
    ·subst w;omega
    ·rw[same k (QL _) (by omega),same (k-1) (QL _) (by omega)]
     exact Vj _
  ·rw[Qi y]
   have n1:n=1:=by omega
   subst n1
   refine Hv ⟨VN _,by omega,by omega,fun k q1 q2=>?_,fun k q1 q2=>by rw[show k=1+1-1 by omega]⟩ rfl
   rw[show k=1 by omega]
   omega
variable {r:Nat->Int}
theorem C4{k:Nat}(up:∀ j,1<=j->j<k->xv r p (j-1)<=xv r p j):∀ (f l u:Nat),u-l<=f->l<=u->u<=k->(∀ i,i<l->xv r p i<=xv r p k)->(∀ i,u<=i->i<k->xv r p k<xv r p i)->
  bw (cO r) (kas_place p k f l u)<=k/\(∀ i,i<bw (cO r) (kas_place p k f l u)->xv r p i<=xv r p k)/\(∀ i,bw (cO r) (kas_place p k f l u)<=i->i<k->xv r p k<xv r p i)
 | 0,l,u,hf,hl,hu,h1,h2=>⟨by show l<=k;omega,h1,fun i a b=>h2 i (by have:l<=i:=a;omega) b⟩
 | f+1,l,u,hf,hl,hu,h1,h2=>by
  have e:bw (cO r) (kas_place p k (f+1) l u)=if l ≥ u then l else if xv r p k<xv r p ((l+u) / 2)then bw (cO r) (kas_place p k f l ((l+u) / 2))else bw (cO r) (kas_place p k f ((l+u) / 2+1) u):=by
   show bw (cO r) (if l ≥ u then KasT.ret l else KasT.ask (p.getD k 0) (p.getD ((l+u) / 2) 0) fun c=>if c=true then kas_place p k f l ((l+u) / 2)else kas_place p k f ((l+u) / 2+1) u)=_
   by_cases c:l ≥ u
   ·rw[Qf c,Qf c];rfl
   ·rw[Qi c,Qi c]
    show bw (cO r) (if decide (r (p.getD k 0)<r (p.getD ((l+u) / 2) 0))=true then kas_place p k f l ((l+u) / 2)else kas_place p k f ((l+u) / 2+1) u)=_
    by_cases d:xv r p k<xv r p ((l+u) / 2)
    ·rw[Qf d,Qf (Qt d)]
    ·rw[Qi d,Qi (by rw[ZA];exact d)]
  rw[e]
  by_cases c:l ≥ u
  ·rw[Qf c]
   exact⟨by omega,h1,fun i a b=>h2 i (by omega) b⟩
  ·rw[Qi c]
   by_cases d:xv r p k<xv r p ((l+u) / 2)
   ·rw[Qf d]
    refine C4 up f l _ (by omega) (by omega) (by omega) h1 fun i a b=>?_
    exact Int.lt_of_lt_of_le d (wU up _ i a b)
   ·rw[Qi d]
    refine C4 up f _ u (by omega) (by omega) hu (fun i a=>?_) h2
    have:=wU up i ((l+u) / 2) (by omega) (by omega)
    omega
def Uk{k d:Nat}(hk:k<p.size)(hd:d<=k)(j:Nat):xv r (bubble p k d) j=if j=k-d then xv r p k else if k-d<j/\j<=k then xv r p (j-1)else xv r p j:=by
 show r ((bubble p k d).getD j 0)=_
 rw[QH,getElem?_bubble hk d hd j]
 split
 ·rw[<- QH]
 ·split
  ·rw[<- QH]
  ·rw[<- QH]
theorem Hw:∀ (f:Nat) (p:Array Nat) (k:Nat),Up r p0 p k->k+f=p0.size->Up r p0 (bw (cO r) (kas_bin f p k)) p0.size
 | 0,p,k,h,hk=>by
  have:k=p0.size:=by omega
  subst this
  exact h
 | f+1,p,k,h,hk=>by
  have sz:p.size=p0.size:=h.pm.size_eq
  have h1:=h.n1
  have kA:k<p.size:=by omega
  obtain⟨a,b,c⟩:=C4 (r:=r) (p:=p) (k:=k) h.up k 0 k (by omega) (QL _) (Qh _) (fun _ z=>absurd z (Q1 _)) (fun i a b=>by omega)
  have e:bw (cO r) (kas_bin (f+1) p k)=bw (cO r) (kas_bin f (bubble p k (k-bw (cO r) (kas_place p k k 0 k))) (k+1)):=pf _ _ _
  rw[e]
  generalize bw (cO r) (kas_place p k k 0 k)=l at *
  refine Hw f _ (k+1) ⟨(bubble_perm _ _ _).trans h.pm,by omega,by omega,fun j q1 q2=>?_⟩ (by omega)
  have x:∀ j,xv r (bubble p k (k-l)) j=if j=l then xv r p k else if l<j/\j<=k then xv r p (j-1)else xv r p j:=fun j=>by
   rw[Uk kA (by omega),show k-(k-l)=l by omega]
  rw[x,x]
  by_cases z:j=l
  ·subst z
   rw[Qi (by omega),Qi (by omega),Qf rfl]
   exact b (j-1) (by omega)
  ·rw[Qi z]
   by_cases y:j-1=l
   ·rw[Qf y,Qf ⟨by omega,by omega⟩]
    rw[y]
    exact Int.le_of_lt (c l (Qh _) (by omega))
   ·rw[Qi y]
    by_cases w:l<j
    ·rw[Qf ⟨by omega,by omega⟩,Qf ⟨w,by omega⟩]
     exact h.up (j-1) (by omega) (by omega)
    ·rw[Qi (by omega),Qi (by omega)]
     exact h.up j q1 (by omega)
def Ul(hn:1<=n):(bw (cO r) (kas_sort n)).Perm (List.toArray (List.range n))/\∀ i j,i<=j->j<n->xv r (bw (cO r) (kas_sort n)) i<=xv r (bw (cO r) (kas_sort n)) j:=by
 have s0:(List.toArray (List.range n)).size=n:=by rw[Qn,QB]
 obtain⟨m,p,e,h⟩:=Uj (r:=r) (p0:=List.toArray (List.range n)) (by omega)
 rw[s0]at e
 have e2:bw (cO r) (kas_sort n)=bw (cO r) (if m<n then kas_bin (n-max m 1) p (max m 1)else KasT.ret p):=by
  unfold kas_sort
  rw[pf,e]
 have h1:=h.n1
 have hl:=h.le
 rw[s0]at hl
 have up:Up r (List.toArray (List.range n)) (bw (cO r) (kas_sort n)) (List.toArray (List.range n)).size:=by
  rw[e2]
  by_cases c:m<n
  ·rw[Qf c,show max m 1=m by omega]
   exact Hw _ _ _ h (by omega)
  ·rw[Qi c]
   have:m=(List.toArray (List.range n)).size:=by omega
   rw[<- this]
   exact h
 refine⟨up.pm,fun i j a b=>wU up.up i j a (by rw[s0];exact b)⟩
def g_ {α:Type}(lt:Nat->Nat->Bool)(n:Nat):KasT α->Prop
 | .ret _=>True
 | .ask i j k=>i<n/\j<n/\g_ lt n (k (lt i j))
theorem ur{α β:Type}{lt:Nat->Nat->Bool}{f:α->KasT β}:∀ {t:KasT α},g_ lt n t->g_ lt n (f (bw lt t))->g_ lt n (t.bind f)
 | .ret _,_,h=>h
 | .ask _ _ _,h,h'=>⟨h.1,h.2.1,ur h.2.2 h'⟩
def Vp (n:Nat)(p:Array Nat):Prop:=∀ k,p.getD k 0<n
def Vp.pm{q:Array Nat}(h:Vp n q)(h0:0<n)(e:p.Perm q):Vp n p:=fun k=>by
 by_cases c:k<p.size
 ·have m:p[k]∈q:=e.mem_iff.mp (Vh c)
  obtain⟨j,hj,q'⟩:=V3 m
  have:p.getD k 0=p[k]:=by unfold Array.getD;rw[V5 c];rfl
  rw[this,<- q']
  have:=h j
  unfold Array.getD at this
  rw[V5 hj]at this
  exact this
 ·unfold Array.getD
  rw[dif_neg c]
  exact h0
variable {lt:Nat->Nat->Bool}{n:Nat}
theorem C5(v:Vp n p):∀ f m,g_ lt n (kas_asc p f m)
 | 0,_=>trivial
 | f+1,m=>⟨v _,v _,by
  show g_ lt n (if lt (p.getD m 0) (p.getD (m-1) 0)=true then KasT.ret m else kas_asc p f (m+1))
  split
  ·trivial
  ·exact C5 v f (m+1)⟩
theorem zu(h0:0<n):∀ (f:Nat) (p:Array Nat) (m q:Nat),Vp n p->g_ lt n (kas_desc f p m q)/\Vp n (bw lt (kas_desc f p m q)).1
 | 0,_,_,_,v=>⟨trivial,v⟩
 | f+1,p,m,q,v=>by
  have vr:∀ i j,Vp n (kas_rev p i j):=fun i j=>v.pm h0 (qI _ _ _)
  have key:g_ lt n (if lt (p.getD m 0) (p.getD (m-1) 0)=true then(if q > 0 then kas_desc f (kas_rev p (m-(q+1)) m) (m+1) 0 else kas_desc f p (m+1) 0)else KasT.ask (p.getD (m-1) 0) (p.getD m 0) fun d=>if d=true then KasT.ret (p,m,q)else kas_desc f p (m+1) (q+1)) /\
    Vp n (bw lt (if lt (p.getD m 0) (p.getD (m-1) 0)=true then(if q > 0 then kas_desc f (kas_rev p (m-(q+1)) m) (m+1) 0 else kas_desc f p (m+1) 0)else KasT.ask (p.getD (m-1) 0) (p.getD m 0) fun d=>if d=true then KasT.ret (p,m,q)else kas_desc f p (m+1) (q+1))).1:=by
   split
   ·split
    ·exact zu h0 f _ _ _ (vr _ _)
    ·exact zu h0 f _ _ _ v
   ·have k2:g_ lt n (if lt (p.getD (m-1) 0) (p.getD m 0)=true then KasT.ret (p,m,q)else kas_desc f p (m+1) (q+1))/\Vp n (bw lt (if lt (p.getD (m-1) 0) (p.getD m 0)=true then KasT.ret (p,m,q)else kas_desc f p (m+1) (q+1))).1:=by
     split
     ·exact⟨trivial,v⟩
     ·exact zu h0 f _ _ _ v
    exact⟨⟨v _,v _,k2.1⟩,k2.2⟩
  exact⟨⟨v _,v _,key.1⟩,key.2⟩
def Hx(h0:0<n)(v:Vp n p)(m aU:Nat):g_ lt n (kas_tail3 m aU p)/\Vp n (bw lt (kas_tail3 m aU p)).2:=by
 have vr:Vp n (kas_rev p 0 m):=v.pm h0 (qI _ _ _)
 unfold kas_tail3
 exact⟨ur (C5 vr _ _) trivial,by rw[pf];exact vr⟩
def Hy(h0:0<n)(v:Vp n p)(m aU:Nat):g_ lt n (kas_descPart m aU p)/\Vp n (bw lt (kas_descPart m aU p)).2:=by
 unfold kas_descPart
 obtain⟨a,b⟩:=zu (lt:=lt) h0 (aU-(m+1)) p (m+1) 0 v
 have key:g_ lt n (if(bw lt (kas_desc (aU-(m+1)) p (m+1) 0)).2.2 > 0 then kas_tail3 (bw lt (kas_desc (aU-(m+1)) p (m+1) 0)).2.1 aU (kas_rev (bw lt (kas_desc (aU-(m+1)) p (m+1) 0)).1 ((bw lt (kas_desc (aU-(m+1)) p (m+1) 0)).2.1-((bw lt (kas_desc (aU-(m+1)) p (m+1) 0)).2.2+1)) (bw lt (kas_desc (aU-(m+1)) p (m+1) 0)).2.1)else kas_tail3 (bw lt (kas_desc (aU-(m+1)) p (m+1) 0)).2.1 aU (bw lt (kas_desc (aU-(m+1)) p (m+1) 0)).1)/\Vp n (bw lt (if(bw lt (kas_desc (aU-(m+1)) p (m+1) 0)).2.2 > 0 then kas_tail3 (bw lt (kas_desc (aU-(m+1)) p (m+1) 0)).2.1 aU (kas_rev (bw lt (kas_desc (aU-(m+1)) p (m+1) 0)).1 ((bw lt (kas_desc (aU-(m+1)) p (m+1) 0)).2.1-((bw lt (kas_desc (aU-(m+1)) p (m+1) 0)).2.2+1)) (bw lt (kas_desc (aU-(m+1)) p (m+1) 0)).2.1)else kas_tail3 (bw lt (kas_desc (aU-(m+1)) p (m+1) 0)).2.1 aU (bw lt (kas_desc (aU-(m+1)) p (m+1) 0)).1)).2:=by
  split
  ·exact Hx h0 (b.pm h0 (qI _ _ _)) _ _
  ·exact Hx h0 b _ _
 exact⟨ur a key.1,by rw[pf];exact key.2⟩
def Um(h0:0<n)(v:Vp n p)(aU:Nat):g_ lt n (kas_count aU p)/\Vp n (bw lt (kas_count aU p)).2:=by
 unfold kas_count
 have a:=C5 (lt:=lt) v (aU-1) 1
 generalize kas_asc p (aU-1) 1=t at *
 generalize hm:bw lt t=m
 have vr:Vp n (kas_rev p 0 m):=v.pm h0 (qI _ _ _)
 have key:g_ lt n (if(m==aU)=true then KasT.ret (m,p)else if m > 1 then KasT.ask (p.getD 0 0) (p.getD (m-1) 0) fun c=>if c=true then KasT.ret (m,p)else kas_descPart m aU (kas_rev p 0 m)else kas_descPart m aU p)/\Vp n (bw lt (if(m==aU)=true then KasT.ret (m,p)else if m > 1 then KasT.ask (p.getD 0 0) (p.getD (m-1) 0) fun c=>if c=true then KasT.ret (m,p)else kas_descPart m aU (kas_rev p 0 m)else kas_descPart m aU p)).2:=by
  split
  ·exact⟨trivial,v⟩
  ·split
   ·have k2:g_ lt n (if lt (p.getD 0 0) (p.getD (m-1) 0)=true then KasT.ret (m,p)else kas_descPart m aU (kas_rev p 0 m))/\Vp n (bw lt (if lt (p.getD 0 0) (p.getD (m-1) 0)=true then KasT.ret (m,p)else kas_descPart m aU (kas_rev p 0 m))).2:=by
     split
     ·exact⟨trivial,v⟩
     ·exact Hy h0 vr _ _
    exact⟨⟨v _,v _,k2.1⟩,k2.2⟩
   ·exact Hy h0 v _ _
 rw[<- hm]at key
 exact⟨ur a key.1,by rw[pf];exact key.2⟩
theorem C6(v:Vp n p)(k:Nat):∀ f l u,g_ lt n (kas_place p k f l u)
 | 0,_,_=>trivial
 | f+1,l,u=>by
  show g_ lt n (if l ≥ u then KasT.ret l else KasT.ask (p.getD k 0) (p.getD ((l+u) / 2) 0) fun c=>if c=true then kas_place p k f l ((l+u) / 2)else kas_place p k f ((l+u) / 2+1) u)
  split
  ·trivial
  ·refine⟨v _,v _,?_⟩
   show g_ lt n (if lt (p.getD k 0) (p.getD ((l+u) / 2) 0)=true then kas_place p k f l ((l+u) / 2)else kas_place p k f ((l+u) / 2+1) u)
   split
   ·exact C6 v k f _ _
   ·exact C6 v k f _ _
theorem Hz(h0:0<n):∀ (f:Nat) (p:Array Nat) (k:Nat),Vp n p->g_ lt n (kas_bin f p k)
 | 0,_,_,_=>trivial
 | f+1,p,k,v=>ur (C6 v k k 0 k) (Hz h0 f _ _ (v.pm h0 (bubble_perm _ _ _)))
def Uo(h0:0<n):g_ lt n (kas_sort n):=by
 have v:Vp n (List.toArray (List.range n)):=fun k=>by
  rw[QH,Je]
  by_cases c:k<n
  ·rw[Zk c];exact c
  ·rw[Q3 (by rw[QB];omega)];exact h0
 unfold kas_sort
 obtain⟨a,b⟩:=Um (lt:=lt) h0 v n
 refine ur a ?_
 split
 ·exact Hz h0 _ _ _ b
 ·trivial
theorem HA{α:Type}{cmp:Nat->Nat->(Bool->Shared->Prop)->Shared->Prop}{s:Shared}{Q:α->Shared->Prop}(h:∀ i j C,i<n->j<n->C (lt i j) s->cmp i j C s):∀ {t:KasT α},g_ lt n t->Q (bw lt t) s->t.kasWp cmp Q s
 | .ret _,_,q=>q
 | .ask i j k,o,q=>h i j _ o.1 o.2.1 (HA h o.2.2 q)
abbrev fF (x:Nat×Nat):List Int:=[Int.ofNat x.1,Int.ofNat x.2]
abbrev rk (x:Nat×Nat):Int:=Int.ofNat (x.1*1000+x.2)
section
variable {prog:Program}{w:World}{A:Around}{E:Value->Shared->Prop}{s:Shared}
def HB(b:Bool){x y:Int}{t u:Tok}(h:Q (decide (x<y)) s):wpAny (model prog w) A (oneLt' b (.int x t) (.int y u)) Q E s:=by
 cases b with
 | true=>exact oneLt_int h
 | false=>exact kat_one _ _ (PySem.P.lt_int h)
def C7(k:IsTupleKey (intKind prog w) h (fF x) a):∃ o n t u,h.get? a=some o/\o.cls=.type "tuple" /\ o.data=.seq #[.int (Int.ofNat x.1) t,.int (Int.ofNat x.2) u] n:=by
 obtain⟨o,items,n,ho,hc,hd,hi⟩:=k
 cases cT:items.toList with
 | nil=>rw[cT]at hi;cases hi
 | cons v l=>
  rw[cT]at hi
  cases hi with
  | cons h1 r=>
   cases r with
   | cons h2 r2=>
    cases r2
    obtain⟨t,rfl⟩:=Yh h1
    obtain⟨u,rfl⟩:=Yh h2
    refine⟨o,n,t,u,ho,hc,?_⟩
    rw[hd]
    congr 1
    apply Array.ext'
    rw[cT]
def Uq{y:Nat×Nat}{b:Addr}{f:Bool}(ka:IsTupleKey (intKind prog w) s.heap (fF x) a)(kb:IsTupleKey (intKind prog w) s.heap (fF y) b)(hx:x.2<1000)(hy:y.2<1000)(h:Q (decide (rk x<rk y)) s) :
  wpAny (model prog w) A (keyLt' (tuples' f) (.ref a) (.ref b)) Q E s:=by
 obtain⟨o,n,t,u,ho,_,hd⟩:=C7 ka
 obtain⟨o',n',t',u',fJ,_,ic⟩:=C7 kb
 have e:decide (rk x<rk y)=if Int.ofNat x.1=Int.ofNat y.1 then(if Int.ofNat x.2=Int.ofNat y.2 then false else decide (Int.ofNat x.2<Int.ofNat y.2))else decide (Int.ofNat x.1<Int.ofNat y.1):=by
  have i1:rk x<rk y ↔ x.1*1000+x.2<y.1*1000+y.2:=by show((_:Nat):Int)<((_:Nat):Int) ↔ _;omega
  have i2:Int.ofNat x.1=Int.ofNat y.1 ↔ x.1=y.1:=⟨fun z=>by injection z,fun z=>by rw[z]⟩
  have i3:Int.ofNat x.2=Int.ofNat y.2 ↔ x.2=y.2:=⟨fun z=>by injection z,fun z=>by rw[z]⟩
  have i4:Int.ofNat x.1<Int.ofNat y.1 ↔ x.1<y.1:=by show((_:Nat):Int)<((_:Nat):Int) ↔ _;omega
  have i5:Int.ofNat x.2<Int.ofNat y.2 ↔ x.2<y.2:=by show((_:Nat):Int)<((_:Nat):Int) ↔ _;omega
  simp only[i1,i2,i3,i4,i5]
  by_cases c:x.1=y.1
  ·rw[Qf c]
   by_cases d:x.2=y.2
   ·rw[Qf d];exact QC (by omega)
   ·rw[Qi d];exact ZU.mpr (by omega)
  ·rw[Qi c];exact ZU.mpr (by omega)
 refine kat_lt ho hd fJ ic (kat_cons (Vq ?_))
 by_cases c:Int.ofNat x.1=Int.ofNat y.1
 ·rw[Qf c]at e
  rw[Zy.mpr c]
  refine kat_yes (kat_cons (Vq ?_))
  by_cases d:Int.ofNat x.2=Int.ofNat y.2
  ·rw[Qf d]at e
   rw[Zy.mpr d]
   refine kat_yes (kat_nil ?_)
   rw[e]at h
   exact h
  ·rw[Qi d]at e
   rw[ZM.mpr d]
   rw[e]at h
   exact kat_no (HB _ h)
 ·rw[Qi c]at e
  rw[ZM.mpr c]
  rw[e]at h
  exact kat_no (HB _ h)
def iE (prog:Program)(w:World)(h:Heap)(vs:List Value)(ks:List (Nat×Nat)):Prop:=vs.length=ks.length/\∀ (i:Nat) (x:Nat×Nat),ks[i]? = some x->∃ a,vs[i]? = some (.ref a)/\IsTupleKey (intKind prog w) h (fF x) a
def iE.keep{h':Heap}(P:iE prog w h vs ks)(q:∀ b o,h.get? b=some o->o.cls=.type "tuple"->h'.get? b=some o):iE prog w h' vs ks:=⟨P.1,fun i x e=>by
 obtain⟨a,e1,o,items,n,ho,hc,hd,hi⟩:=P.2 i x e
 exact⟨a,e1,o,items,n,q a o ho hc,hc,hd,hi⟩⟩
theorem iE.firsts:∀ {h:Heap} {vs:List Value} {ks:List (Nat×Nat)},iE prog w h vs ks->∃ fs:List Value,KatTups h vs fs/\fs.length=ks.length/\∀ v∈fs,∃ i t,v=.int i t
 | h,[],[],_=>⟨[],.nil,rfl,fun v hv=>(QJ hv).elim⟩
 | h,[],_::_,P=>nomatch P.1
 | h,_::_,[],P=>nomatch P.1
 | h,v::vs,x::ks,P=>by
  obtain⟨fs,t1,t2,t3⟩:=iE.firsts (vs:=vs) (ks:=ks) (h:=h) ⟨by simpa using P.1,fun i y e=>P.2 (i+1) y (by rw[Zu];exact e)⟩
  obtain⟨a,e,k⟩:=P.2 0 x rfl
  have ev:v=.ref a:=by simpa using e
  subst ev
  obtain⟨o,n,t,u,ho,hc,hd⟩:=C7 k
  refine⟨.int (Int.ofNat x.1) t::fs,.cons ho hc hd rfl t1,by rw[Zb,Zb,t2],fun v hv=>?_⟩
  rcases Qs.mp hv with rfl|hv
  ·exact⟨_,_,rfl⟩
  ·exact t3 v hv
def Ur{Us:Bool}{G:Array Nat->Shared->Prop}(P:iE prog w s.heap vs ks)(hb:∀ x∈ks,x.2<1000)(h1:1<=vs.length)
  (hG:∀ p:Array Nat,p.Perm (List.toArray (List.range vs.length))->(∀ i j,i<=j->j<vs.length->rk (ks.getD (p.getD i 0) (0,0))<=rk (ks.getD (p.getD j 0) (0,0)))->G p s) :
  (kas_sort vs.length).kasWp (kas_ask prog w A (tuples' Us) vs) G s:=by
 have so:=Ul (r:=fun i=>rk (ks.getD i (0,0))) h1
 refine HA (lt:=cO fun i=>rk (ks.getD i (0,0))) (n:=vs.length) (fun i j C hi hj hC=>?_) (Uo h1) (hG _ so.1 so.2)
 have gi:ks[i]? = some (ks.getD i (0,0)):=by rw[Qg,Qb (by rw[<- P.1];exact hi)];rfl
 have gj:ks[j]? = some (ks.getD j (0,0)):=by rw[Qg,Qb (by rw[<- P.1];exact hj)];rfl
 obtain⟨a,e1,k1⟩:=P.2 i _ gi
 obtain⟨b,e2,k2⟩:=P.2 j _ gj
 unfold kas_ask
 rw[Qg,Qg,e1,e2]
 exact Uq k1 k2 (hb _ (QK gi)) (hb _ (QK gj)) hC
def Ut(P:iE prog w h vs ks)(pm:p.Perm (List.toArray (List.range vs.length))):iE prog w h (p.toList.map fun i=>vs.getD i Value.none) (p.toList.map fun i=>ks.getD i (0,0))/\(p.toList.map fun i=>ks.getD i (0,0)).Perm ks:=by
 have pl:p.toList.Perm (List.range vs.length):=by
  have:=Vb.mp pm
  exact this
 refine⟨⟨by rw[Qc,Qc],fun i x e=>?_⟩,?_⟩
 ·rw[Qk,Qx]at e
  obtain⟨k,q1,q2⟩:=e
  have hk:k<vs.length:=QA.mp (pl.mem_iff.mp (QK q1))
  have gk:ks[k]? = some x:=by rw[<- q2,Qg,Qb (by rw[<- P.1];exact hk)];rfl
  obtain⟨a,e1,k1⟩:=P.2 k x gk
  refine⟨a,?_,k1⟩
  rw[Qk,q1]
  show some (vs.getD k Value.none)=_
  rw[Qg,e1]
  rfl
 ·have h1:=pl.map fun i=>ks.getD i (0,0)
  have h2:(List.range vs.length).map (fun k=>ks.getD k (0,0))=ks:=by
   rw[P.1]
   apply ZK
   intro i
   by_cases hi:i<ks.length
   ·rw[Qk,Zk hi,Qb hi]
    show some (ks.getD i (0,0))=_
    rw[Qg,Qb hi]
    rfl
   ·rw[Q3 (by rw[Qc,QB];omega),Q3 (by omega)]
  rw[h2]at h1
  exact h1
def HC{n:Nat}{P:PySem.Fin->Shared->Prop}(ho:s.heap.get? a=some (seqObj "list" vs.toArray n))(T:iE prog w s.heap vs ks)(hb:∀ x∈ks,x.2<1000)(sM:vs.length<64)
  (h:∀ (out:List Value) (cb:List (Nat×Nat)),iE prog w s.heap out cb->(∀ v∈out,v∈vs)->cb.Perm ks->(∀ i j,i<=j->j<cb.length->rk (cb.getD i (0,0))<=rk (cb.getD j (0,0)))->P (.done (.ret .none)) { s with heap:=sortedHeap s.heap a vs out.toArray }) :
  wpAny (model prog w) A (Builtin.«list.sort» ⟨[.ref a],[]⟩) P E s:=by
 have al:=Qo ho
 have HD:vs.toArray.size=vs.length:=Qn ..
 rw[list_sort_plain]
 refine Qa (listItems_at ho rfl (Qa (listUpdate_at ho rfl ?s1 (by rw[HD,ZP];omega) (QL _))))
 case s1=>
 obtain⟨e1,g1⟩:∃ e1,(s.heap.update a (Obj.mapSeq fun _=>(#[]:Array Value))).get? a=some (seqObj "list" #[] e1):=⟨_,Ya ho fun _=>#[]⟩
 refine Qa (seqEpoch_at g1 rfl (Qa (wpAny_newTuple (Qa (wpAny_newList (Q9 ?s2) (QL _))) (by show vs.length<=_;rw[ZP];omega))))
 case s2=>
 show wpAny (model prog w) A _ P E { s with heap:=((s.heap.update a (Obj.mapSeq fun _=>(#[]:Array Value))).push (seqObj "tuple" vs.toArray 0)).push (seqObj "list" #[] 0) }
 have g2:(((s.heap.update a (Obj.mapSeq fun _=>(#[]:Array Value))).push (seqObj "tuple" vs.toArray 0)).push (seqObj "list" #[] 0)).get? a=some (seqObj "list" #[] e1):=Qe _ (Qe _ g1)
 have T2:iE prog w (((s.heap.update a (Obj.mapSeq fun _=>(#[]:Array Value))).push (seqObj "tuple" vs.toArray 0)).push (seqObj "list" #[] 0)) vs ks:=T.keep fun b o q c=>by
  have ne:b≠a:=fun z=>by
   rw[z,ho]at q
   cases q
   have c':Value.type "list" = Value.type "tuple":=c
   injection c' with Uu
   exact absurd Uu (by decide)
  exact Qe _ (Qe _ ((ZI _ _ (Jr ne)).trans q))
 generalize hh:((s.heap.update a (Obj.mapSeq fun _=>(#[]:Array Value))).push (seqObj "tuple" vs.toArray 0)).push (seqObj "list" #[] 0)=h2 at *
 have fin:∀ out:List Value,{ s with heap:=h2.update a (Obj.mapSeq fun _=>out.toArray) }={ s with heap:=sortedHeap s.heap a vs out.toArray }:=fun out=>by rw[<- hh];rfl
 dsimp only
 by_cases c2:vs.toArray.size<2
 ·rw[Qf c2,Qf c2]
  refine Qa (Qd ?_)
  rw[StateT.run_pure]
  refine Qa (Qd ?_)
  dsimp only
  have o1:(arrOf (SortSt.mk' general' (vs.toArray.zip vs.toArray) #[] 7 none)).map (·.2)=vs.toArray:=by
   show(vs.toArray.zip vs.toArray).map (·.2)=vs.toArray
   apply Array.ext'
   rw[Array.toList_map,Array.toList_zip]
   exact List.map_snd_zip (Qh _)
  rw[o1]
  refine Qa (seqEpoch_at (s:={ s with heap:=h2 }) g2 rfl (Qa (listUpdate_at (s:={ s with heap:=h2 }) g2 rfl ?t1 (QL _) (by rw[HD,ZP];omega))))
  case t1=>
  simp only[Yn,Qu,Zj]
  refine Qd ?_
  have r:=h vs ks T (fun _ z=>z) (List.Perm.refl _) fun i j a b=>by
   have:i=j:=by rw[<- T.1]at b;omega
   rw[this]
   exact Vj _
  rw[<- fin]at r
  exact r
 ·rw[Qi c2,Qi c2]
  have v1:2<=vs.length:=by omega
  obtain⟨fs,t1,t2,t3⟩:=T2.firsts
  refine Qa (kat_kind (s:={ s with heap:=h2 }) (T:=.type "int") t1 (by rw[t2,<- T.1];omega) (fun v hv=>?k1) (by decide) ?k2)
  case k1=>
   obtain⟨i,t,rfl⟩:=t3 v hv
   exact .now
  case k2=>
  refine Qa (Zs (kat_run (s:={ s with heap:=h2 }) (Q:=fun kU s'=>s'={ s with heap:=h2 }/\∃ p:Array Nat,p.size=vs.length/\arrOf kU=p.map (kas_item (vs.toArray.zip vs.toArray))/\failedOf kU=none/\p.Perm (List.toArray (List.range vs.length))/\∀ i j,i<=j->j<vs.length->rk (ks.getD (p.getD i 0) (0,0))<=rk (ks.getD (p.getD j 0) (0,0)))
   (G:=fun p s'=>s'={ s with heap:=h2 }/\p.Perm (List.toArray (List.range vs.length))/\∀ i j,i<=j->j<vs.length->rk (ks.getD (p.getD i 0) (0,0))<=rk (ks.getD (p.getD j 0) (0,0)))
   rfl v1 sM (fun p kU s' a1 a2 a3 a4=>⟨a4.1,p,a1,a2,a3,a4.2.1,a4.2.2⟩) (Ur T2 hb (by omega) fun p a1 a2=>⟨rfl,a1,a2⟩)) ?k3 fun _ _ e=>e)
  case k3=>
  rintro ⟨⟨⟩,kU⟩ s' ⟨rfl,p,ps,ar,hf,pm,so⟩
  dsimp only
  have o1:=kat_snds rfl ar
  rw[o1]
  have ol:(p.toList.map fun i=>vs.getD i Value.none).length=vs.length:=by rw[Qc,QU,ps]
  refine Qa (seqEpoch_at (s:={ s with heap:=h2 }) g2 rfl (Qa (listUpdate_at (s:={ s with heap:=h2 }) g2 rfl ?t2 (QL _) (by rw[Qn,ol,ZP];omega))))
  case t2=>
  rw[hf]
  simp only[Yn,Qu,Zj]
  refine Qd ?_
  obtain⟨q1,q2⟩:=Ut T pm
  have r:=h _ _ q1 (fun v hv=>by
   obtain⟨k,hk,rfl⟩:=Qy.mp hv
   have kA:k<vs.length:=QA.mp ((Vb.mp pm).mem_iff.mp hk)
   rw[Qg,Qb kA]
   exact Q0 kA) q2 fun i j a b=>by
   rw[Qc,QU,ps]at b
   have g:∀ i,i<vs.length->(p.toList.map fun k=>ks.getD k (0,0)).getD i (0,0)=ks.getD (p.getD i 0) (0,0):=fun i hi=>by
    rw[Qg,Qk,Qb (by rw[QU,ps];exact hi),QH,Q7 (by rw[ps];exact hi)]
    rfl
   rw[g i (by omega),g j b]
   exact so i j a b
  rw[<- fin]at r
  exact r
end
end L3
namespace L3
open PySem PySem.Spec PyProof.Rows PySem.W L2
variable {F:List Addr}{H:Hp}{K:PySem.W.Frag}{Q:Value->Shared->Prop}{a b l:Addr}{d:D}{ds:List D}{ep i q:Nat}{es:Array (Int×Value)}{kl:List (List Int)}{kp ks cb:List (Nat×Nat)}{ai:List (List Key×V)}{o o':Ow}{u v:V}{vs:List V}{w w':Wn}{x y:Nat×Nat}{z:HO}{ρ:aW}{σ:St}
section
variable {prog:Program}{w:World}{A:Around}{E:Value->Shared->Prop}{s:Shared}
def Uv{h:Heap}{t:SetTable}{bs:List Addr}{vs:List Value}(S:lX prog w h es t kl bs)(ek:kl=kp.map fF)(hl:vs.length=es.size)
  (hv:∀ (j:Nat) (v:Value),vs[j]? = some v->∃ e,(jE w a es ep)[j]? = some e/\v=e.2):∃ ks:List (Nat×Nat),iE prog w h vs ks/\ks.Perm kp/\∀ v∈vs,∃ b∈bs,v=.ref b:=by
 have e:vs=(jE w a es ep).toList.map (·.2):=by
  apply ZK
  intro j
  have et:(jE w a es ep).toList[j]? = (jE w a es ep)[j]?:=Ze
  rw[Qk,et]
  rcases VJ j vs.length with l|l
  ·obtain⟨x,h1,h2⟩:=hv j _ (Qb l)
   rw[h1,Qb l,h2]
   rfl
  ·rw[Q3 l,Z9 (by rw[zr];omega)]
   rfl
 have pm:(jE w a es ep).toList.Perm ((kp.zip bs).map fun x=>(tupleKeyHash (intKind prog w) (fF x.1),Value.ref x.2)):=by
  refine(Hs w a es ep).trans ?_
  rw[S.es,ek]
  have:∀ (l:List (Nat×Nat)) (m:List Addr),((l.map fF).zip m).map (fun x=>(tupleKeyHash (intKind prog w) x.1,Value.ref x.2))=(l.zip m).map fun x=>(tupleKeyHash (intKind prog w) (fF x.1),Value.ref x.2):=by
   intro l
   induction l with
   | nil=>intro m;rfl
   | cons x l ih=>
    intro m
    cases m with
    | nil=>rfl
    | cons b m=>rw[QI,Yf,QI,ih m];rfl
  rw[this]
 obtain⟨zs,zp,ze⟩:=S0 (f:=fun x:(Nat×Nat)×Addr=>(tupleKeyHash (intKind prog w) (fF x.1),Value.ref x.2)) pm rfl
 have len:kp.length=bs.length:=by rw[<- S.len,ek,Qc]
 refine⟨zs.map (·.1),⟨by rw[e,ze,Qc,Qc,Qc],fun i x q=>?_⟩,?_⟩
 ·rw[Qk,Qx]at q
  obtain⟨y,q1,rfl⟩:=q
  refine⟨y.2,?_,?_⟩
  ·rw[e,ze,Qk,Qk,q1]
   rfl
  ·obtain⟨i',cT,qi⟩:=Zh (zp.mem_iff.mp (QK q1))
   have q2:(kp.zip bs)[i']? = some y:=by rw[Qb cT,qi]
   rw[List.zip,Yr]at q2
   cases k1:kp[i']? with
   | none=>rw[k1]at q2;cases q2
   | some u=>
    cases k2:bs[i']? with
    | none=>rw[k1,k2]at q2;cases q2
    | some v=>
     rw[k1,k2]at q2
     cases q2
     exact S.is i' (fF u) v (by rw[ek,Qk,k1];rfl) k2
 ·refine⟨(zp.map (·.1)).trans ?_,fun v hv=>?_⟩
  ·rw[List.map_fst_zip (by omega)]
  ·rw[e,ze]at hv
   obtain⟨y,hy,rfl⟩:=Qy.mp hv
   obtain⟨x,hx,rfl⟩:=Qy.mp hy
   exact⟨x.2,(YG (zp.mem_iff.mp hx)).2,rfl⟩
def Uw{t:SetTable}{bs:List Addr}{Q:Value->Shared->Prop}(hh:A.handled=none)(ho:s.heap.get? a=some (mY es ep t))(So:sG prog w s.heap (mY es ep t) ep (!gA w) kl es t bs)(ek:kl=kp.map fF)(hb:∀ x∈kp,x.2<1000)(di:kp.length<64)
  (h:∀ (h1:Heap) (h':Heap) (tk:Nat) (us:List Value) (ks:List (Nat×Nat)) (c:Nat),(∀ b o,s.heap.get? b=some o->h1.get? b=some o)->(∀ b o,s.heap.get? b=some o->h'.get? b=some o)->iE prog w s.heap us ks->(∀ v∈us,∃ b∈bs,v=.ref b)->ks.Perm kp->(∀ i j,i<=j->j<ks.length->rk (ks.getD i (0,0))<=rk (ks.getD j (0,0)))->
    h'.get? h1.objs.size=some { cls:=.type "list",data:=.seq us.toArray c }->Q (.ref h1.objs.size) { s with heap:=h',toks:=tk }) :
  wpAny (model prog w) A (call (.builtin "sorted") [.ref a]) Q E s:=by
 have gd:=So.gd
 have sz:es.size=kp.length:=by rw[So.S.size,ek,Qc]
 refine Vf kind_sorted plain_sorted entry_sorted (args_sorted1 _) ?_
 unfold Builtin.«sorted»
 refine Qa (m:=checkCount "sorted" 1 1 _) (Qd (Qa (kdu_collect (A:=A.in1) (Uh gd) hh ho (V4 (by omega)) fun h' tk acc hk cN=>?c1)))
 case c1=>
 have hl:acc.toList.length=es.size:=by rw[QU];exact cN.1
 refine Qa (wpAny_newList ?c2 (by rw[hl];exact V4 (by omega)))
 case c2=>
 obtain⟨ks,T,pm,mb⟩:=Uv (a:=a) (ep:=ep) So.S ek hl (fun j v e=>cN.2 j v (by rw[<- Ze];exact e))
 have T1:iE prog w (h'.push (seqObj "list" acc.toList.toArray 0)) acc.toList ks:=T.keep fun b o q _=>Qe _ (hk b o q)
 have oL:(h'.push (seqObj "list" acc.toList.toArray 0)).get? h'.objs.size=some (seqObj "list" acc.toList.toArray 0):=Qv _ rfl
 refine Qa (Q9 (Zr slot_list_sort ⟨_,oL,rfl⟩ entry_list_sort (HC oL T1 (fun x hx=>hb x (pm.mem_iff.mp hx)) (by rw[hl,sz];exact di) fun out cb o1 om o2 o3=>⟨_,rfl,?c3⟩) (args_list_sort _)))
 case c3=>
 refine Qd ⟨_,rfl,?c4⟩
 case c4=>
 have ne:∀ b o,s.heap.get? b=some o->b≠h'.objs.size:=fun b o e=>QM (Qo (hk b o e))
 have up:∀ (G:Heap) (f:Array Value->Array Value),(∀ b o,s.heap.get? b=some o->G.get? b=some o)->∀ b o,s.heap.get? b=some o->(G.update h'.objs.size (Obj.mapSeq f)).get? b=some o:=
  fun G f q b o e=>(ZI _ _ (Jr (ne b o e))).trans (q b o e)
 unfold sortedHeap
 have g1:=Ya oL (fun _=>(#[]:Array Value))
 have g4:=Ya (Qe (seqObj "list" #[] 0) (Qe (seqObj "tuple" acc.toList.toArray 0) g1)) (fun _=>out.toArray)
 refine h h' _ _ out cb _ hk ?c5 ?c6 (fun v hv=>mb v (om v hv)) (o2.trans pm) o3 g4
 case c5=>exact up _ _ fun b o e=>Qe _ (Qe _ (up _ _ (fun b o e=>Qe _ (hk b o e)) b o e))
 case c6=>
  refine⟨o1.1,fun i x q=>?_⟩
  obtain⟨b,e1,k1⟩:=o1.2 i x q
  obtain⟨j,hj,qj⟩:=Zh (om _ (QK e1))
  have gj:ks[j]? = some (ks[j]'(by rw[<- T.1];exact hj)):=Qb _
  obtain⟨b',e2,k2⟩:=T.2 j _ gj
  rw[Qb hj,qj]at e2
  cases e2
  obtain⟨b2,e3,k3⟩:=T1.2 j _ gj
  rw[Qb hj,qj]at e3
  cases e3
  have:=k3.inj k1
  rw[this]at k2
  exact⟨b,e1,k2⟩
end
def S9 (prog:Program)(w:World)(a:Addr)(kp:List (Nat×Nat))(bs:List Addr):Heap->Prop:=fun h=>∃ es ep t,h.get? a=some (mY es ep t)/\es.toList=((kp.map fF).zip bs).map (fun x=>(tupleKeyHash (intKind prog w) x.1,Value.ref x.2))/\(kp.map fF).length=bs.length/\fW t ((kp.map fF).map (tupleKeyHash (intKind prog w)))/\(kp.map fF).Nodup/\t.plain=true/\t.led = !gA w/\(kp.map fF).length*5<t.mask*3
def qJ (K:PySem.W.Frag)(H:Hp)(ks:List (Nat×Nat))(dM:List Addr):Prop:=ks.length=dM.length/\∀ (i:Nat) (x:Nat×Nat) (b:Addr),ks[i]? = some x->dM[i]? = some b->H b=some (.tup [.int (Int.ofNat x.1),.int (Int.ofNat x.2)])
theorem C8:∀ {dM:List Addr} {us:List Value},bq (dM.map V.ref) us->us=dM.map Value.ref
 | [],_,r=>by cases r;rfl
 | a::dM,_,r=>by
  cases r with
  | cons h t=>
   cases h
   rw[C8 t]
   rfl
theorem zw:∀ (dM:List Addr),bq (dM.map V.ref) (dM.map Value.ref)
 | []=>.nil
 | a::dM=>.cons rfl (zw dM)
def zx (l:List Int):Nat×Nat:=((l.getD 0 0).toNat,(l.getD 1 0).toNat)
def HE(x:Nat×Nat):zx (fF x)=x:=rfl
def HF(h:fF x=fF y):x=y:=by rw[<- HE x,h,HE]
section
variable {X:Cx}{a:Expr}{fa:aB}{p p2 pos m7:Pos}{pins:List (Addr×Obj)}{σ:St}{H:Hp}{s:Shared}
def uu(I:Inv X pins σ H s)(h:du X.K H b [.int (Int.ofNat x.1),.int (Int.ofNat x.2)]):IsTupleKey (intKind X.prog X.w) s.heap (fF x) b:=by
 obtain⟨aq,r,⟨o,ho,hc,n,hd⟩,_⟩:=I.tuple h
 refine⟨o,aq.toArray,n,ho,hc,hd,?_⟩
 cases r with
 | cons h1 r1=>
  cases r1 with
  | cons h2 r2=>
   cases r2
   obtain⟨t,rfl⟩:=h1
   obtain⟨u,rfl⟩:=h2
   exact .cons (intKind_is _ _ _ _) (.cons (intKind_is _ _ _ _) .nil)
def Ux(hc:X.calm=true)(hu:X.A.units+4<cLine):jM X (.type "set") (fun xs H Q=>∃ t ks dM,xs=[.ref t]/\cE X.K H t (dM.map V.ref)/\qJ X.K H ks dM/\ks.length<=100 /\
  ∀ p kp bs,H p=none->kp.Nodup->(∀ x,x∈kp ↔ x∈ks)->qJ X.K H kp bs->Q (.ref p) (upd H p (.ext (S9 X.prog X.w p kp bs)))):=by
 intro pins s σ H xs us Q I r hh
 obtain⟨t,ks,dM,rfl,hq,⟨len,tu⟩,sI,q⟩:=hh
 obtain⟨u,rfl,ru⟩:=lN r
 cases ru
 obtain⟨aq,rv,pl,_⟩:=I.list hq
 have ei:=C8 rv
 subst ei
 have gk:∀ i,i<ks.length->∃ x,ks[i]? = some x/\(ks.map fF).getD i []=fF x/\dM[i]? = some (dM.getD i 0):=fun i hi=>by
  refine⟨_,Qb hi,?_,?_⟩
  ·rw[Qg,Qk,Qb hi];rfl
  ·rw[Qg,Qb (by rw[<- len];exact hi)];rfl
 refine TX (ks:=ks.map fF) (ad:=fun i=>dM.getD i 0) (I.ok.hd hc) (by show X.A.units+1+1+1<cLine;omega) pl.isList (by rw[Qc,Qc,len]) (fun i v e=>?z1) (fun i hi=>?z2) (by rw[Qc];exact sI) fun h' tk kl hS mm uv=>?z3
 case z1=>
  rw[Qk,Qx]at e
  obtain⟨b,e1,rfl⟩:=e
  show Value.ref b=.ref (dM.getD i 0)
  rw[Qg,e1]
  rfl
 case z2=>
  rw[Qc]at hi
  obtain⟨x,e1,e2,e3⟩:=gk i hi
  rw[e2]
  exact uu I (.inl (.inl (tu i x _ e1 e3)))
 case z3=>
  obtain⟨es,ep,t',bs,g,⟨d,S,wO,ld,rm⟩,hb⟩:=hS
  have ek:kl=(kl.map zx).map fF:=by
   rw[Zf]
   conv=>lhs;rw[<- List.map_id kl]
   refine Q8 fun l hl=>?_
   obtain⟨j,hj,e⟩:=(mm l).mp hl
   rw[Qc]at hj
   obtain⟨x,_,e2,_⟩:=gk j hj
   rw[e2]at e
   rw[<- e]
   rfl
  have Uy:S9 X.prog X.w s.heap.objs.size (kl.map zx) bs h':=by
   refine⟨es,ep,t',g,?_⟩
   rw[<- ek]
   exact⟨S.es,S.len,S.tb,S.nd,wO,ld,rm⟩
  refine⟨.ref s.heap.objs.size,_,I.laid (o:=.ext (S9 X.prog X.w s.heap.objs.size (kl.map zx) bs)) (h':=h') (t':=tk) (fun b o e=>uv b o (Qo e) e) (Qh _) ⟨Uy,⟨_,g⟩,fun h1 h2 ⟨es,ep,t,e,r⟩ k=>⟨es,ep,t,k _ e,r⟩⟩,rfl,q _ _ _ (I.az.fresh (Qh _)) ?z4 (fun x=>?z5) ⟨by rw[Qc];exact S.len,fun i x b e1 e2=>?z6⟩⟩
  case z4=>
   have:=S.nd
   rw[ek]at this
   exact(JJ.mp this).imp fun h z=>h (by rw[z])
  case z5=>
   constructor
   ·intro hx
    obtain⟨l,hl,rfl⟩:=Qy.mp hx
    obtain⟨j,hj,e⟩:=(mm l).mp hl
    rw[Qc]at hj
    obtain⟨y,e1,e2,_⟩:=gk j hj
    rw[e2]at e
    rw[<- e]
    exact QK e1
   ·intro hx
    obtain⟨j,hj,e⟩:=Zh hx
    obtain⟨y,e1,e2,_⟩:=gk j hj
    rw[Qb hj,e]at e1
    cases e1
    exact Qy.mpr ⟨fF x,(mm _).mpr ⟨j,by rw[Qc];exact hj,e2⟩,rfl⟩
  case z6=>
   rw[Qk,Qx]at e1
   obtain⟨l,f1,rfl⟩:=e1
   have kb:=S.is i l b f1 e2
   obtain⟨j,hj,rfl⟩:=hb b (QK e2)
   rw[Qc]at hj
   obtain⟨y,g1,g2,g3⟩:=gk j hj
   have sq:=tu j y _ g1 g3
   obtain⟨o,items,n,ho,nJ,hd,hi⟩:=uu I (.inl (.inl sq))
   have k2:IsTupleKey (intKind X.prog X.w) h' (fF y) (dM.getD j 0):=⟨o,items,n,uv _ o (Qo ho) ho,nJ,hd,hi⟩
   have:=kb.inj k2
   subst this
   exact sq
def Uz(hc:X.calm=true):jM X (.builtin "sorted") (fun xs H Q=>∃ t kp bs,xs=[.ref t]/\H t=some (.ext (S9 X.prog X.w t kp bs))/\qJ X.K H kp bs/\kp.length<64/\(∀ x∈kp,x.2<1000) /\
  ∀ p ks cs,H p=none->ks.Perm kp->(∀ i j,i<=j->j<ks.length->rk (ks.getD i (0,0))<=rk (ks.getD j (0,0)))->qJ X.K H ks cs->Q (.ref p) (upd H p (.lst (cs.map V.ref)))):=by
 intro pins s σ H xs us Q I r hh
 obtain⟨t,kp,bs,rfl,hq,⟨len,tu⟩,di,hb,q⟩:=hh
 obtain⟨u,rfl,ru⟩:=lN r
 cases ru
 obtain⟨⟨es,ep,tb,g,e1,e2,e3,e4,e5,e6,e7⟩,_,_⟩:=I.az _ _ hq
 have So:sG X.prog X.w s.heap (mY es ep tb) ep (!gA X.w) (kp.map fF) es tb bs:=⟨rfl,⟨e1,e2,fun i k b x y=>by
  rw[Qk,Qx]at x
  obtain⟨z,z1,rfl⟩:=x
  exact uu I (.inl (.inl (tu i z b z1 y))),e3,e4⟩,e5,e6,e7⟩
 refine Uw (I.ok.hd hc) g So rfl hb di fun h1 h' tk us ks c k1 uv T mb pm so hg=>?_
 obtain⟨cs,rfl⟩:∃ cs:List Addr,us=cs.map Value.ref:=by
  have:∀ (l:List Value),(∀ v∈l,∃ b∈bs,v=.ref b)->∃ cs:List Addr,l=cs.map Value.ref:=by
   intro l
   induction l with
   | nil=>intro _;exact⟨[],rfl⟩
   | cons v l ih=>
    intro h
    obtain⟨cs,e⟩:=ih fun w hw=>h w (Qj _ hw)
    obtain⟨b,_,rfl⟩:=h v Ql
    exact⟨b::cs,by rw[e];rfl⟩
  exact this us mb
 have lc:cs.length=ks.length:=by have:=T.1;rwa [Qc]at this
 refine⟨.ref h1.objs.size,_,GY (o:=.lst (cs.map V.ref)) I k1 (Qh _) uv ⟨V4 (by rw[Qc,lc,pm.length_eq];omega),cs.map Value.ref,c,zw cs,hg⟩,rfl,q _ ks cs (CG I.az k1 (Qh _)) pm so ⟨lc.symm,fun i x b x1 x2=>?_⟩⟩
 obtain⟨a,y1,y2⟩:=T.2 i x x1
 rw[Qk,x2]at y1
 cases y1
 obtain⟨b',gQ,e⟩:=mb (.ref b) (Qy.mpr ⟨b,QK x2,rfl⟩)
 cases e
 obtain⟨j,hj,qj⟩:=Zh gQ
 have gj:kp[j]? = some (kp[j]'(by rw[len];exact hj)):=Qb _
 have sq:=tu j _ b gj (by rw[Qb hj,qj])
 have:=HF ((uu I (.inl (.inl sq))).inj y2)
 rw[this]at sq
 exact sq
end
abbrev av (x:Nat×Nat):D:=.tup [.int (Int.ofNat x.1),.int (Int.ofNat x.2)]
abbrev p9 (k:Nat×Nat):OD:=some (av k,9)
def nX:List D->Option (List (Nat×Nat))
 | []=>some []
 | .tup [.int (.ofNat i),.int (.ofNat j)]::ds=>if j<1000 then(nX ds).map ((i,j) :: ·)else none
 | _=>none
def HG:∀ {ds:List D} {ks:List (Nat×Nat)},nX ds=some ks->ds=ks.map av/\∀ x∈ks,x.2<1000:=by
 intro ds
 induction ds with
 | nil=>intro ks h;cases h;exact⟨rfl,fun _ h=>nomatch h⟩
 | cons d ds ih=>
  intro ks h
  unfold nX at h
  split at h
  ·rename_i e;cases e
  next i j cx e=>
   cases e
   split at h
   next hi=>
    obtain⟨cb,e,rfl⟩:=Qx.mp h
    obtain⟨e1,e2⟩:=ih e
    exact⟨by rw[e1];rfl,fun k hk=>by
     rcases Qs.mp hk with q|q
     ·rw[q];exact hi
     ·exact e2 k q⟩
   ·cases h
  ·cases h
theorem zy:∀ (ks:List (Nat×Nat)),(∀ x∈ks,x.2<1000)->nX (ks.map av)=some ks
 | [],_=>rfl
 | x::ks,h=>by
  show(if x.2<1000 then(nX (ks.map av)).map ((x.1,x.2) :: ·)else none)=_
  rw[Qf (h x Ql),zy ks fun y hy=>h y (Qj _ hy)]
  rfl
def hJ (ks:List (Nat×Nat)):List (Nat×Nat):=ks.eraseDups.mergeSort fun a b=>decide (rk a<=rk b)
def HH(hx:x.2<1000)(hy:y.2<1000)(h:rk x=rk y):x=y:=by
 have e:x.1*1000+x.2=y.1*1000+y.2:=by injection h
 have:x.1=y.1:=by omega
 have:x.2=y.2:=by omega
 exact Ud (by assumption) (by assumption)
def UA(ks:List (Nat×Nat)):(hJ ks).Pairwise fun a b=>rk a<=rk b:=by
 have:=VB (le:=fun a b:Nat×Nat=>decide (rk a<=rk b)) (fun a b c h1 h2=>Qt (Uc (Q5 h1) (Q5 h2))) (fun a b=>by
  rcases Int.le_total (rk a) (rk b)with h|h
  ·rw[Qt h];rfl
  ·rw[Qt h,Bool.or_true]) ks.eraseDups
 exact this.imp fun h=>Q5 h
theorem HI{α:Type}[BEq α][LawfulBEq α]:∀ (n:Nat) (l:List α),l.length<=n->l.eraseDups.Nodup
 | 0,[],_=>by rw[List.eraseDups_nil];exact JL
 | 0,_::_,h=>absurd h (by simp)
 | n+1,[],_=>by rw[List.eraseDups_nil];exact JL
 | n+1,a::l,h=>by
  rw[List.eraseDups_cons]
  refine Q4.mpr ⟨fun z=>?_,HI n _ (QO (ZS _ _) (by simpa using h))⟩
  rw[List.mem_eraseDups]at z
  have:=(Zw.mp z).2
  simp at this
def sN:x∈hJ ks ↔ x∈ks:=by
 unfold hJ
 rw[List.mem_mergeSort,List.mem_eraseDups]
def zz(ks:List (Nat×Nat)):(hJ ks).Nodup:=(JX _ _).nodup_iff.mpr (HI _ ks (Qh _))
theorem HJ{α:Type}[DecidableEq α]:∀ {l m:List α},l.Nodup->m.Nodup->(∀ x,x∈l ↔ x∈m)->l.Perm m
 | [],m,_,_,h=>by
  cases m with
  | nil=>exact .nil
  | cons a m=>exact absurd ((h a).mpr Ql) (by simp)
 | a::l,m,h1,h2,h=>by
  have ha:=(h a).mp Ql
  have qt:=Q4.mp h1
  refine List.Perm.trans (List.Perm.cons a (HJ qt.2 (h2.erase a) fun x=>?_)) (List.perm_cons_erase ha).symm
  rw[h2.mem_erase_iff]
  constructor
  ·intro hx
   exact⟨fun z=>qt.1 (z ▸ hx),(h x).mp (Qj _ hx)⟩
  ·rintro ⟨ne,hx⟩
   rcases Qs.mp ((h x).mpr hx)with z|z
   ·exact absurd z ne
   ·exact z
def UB(hb:∀ x∈ks,x.2<1000)(nd:kp.Nodup)(mem:∀ x,x∈kp ↔ x∈ks)(pm:cb.Perm kp)(so:∀ i j,i<=j->j<cb.length->rk (cb.getD i (0,0))<=rk (cb.getD j (0,0))):cb=hJ ks:=by
 have p1:cb.Perm (hJ ks):=HJ (pm.nodup_iff.mpr nd) (zz ks) fun x=>by rw[pm.mem_iff,mem,sN]
 have u1:(cb.map rk).Pairwise (· <= ·):=by
  rw[JJ,JV]
  intro i j hi hj BZ
  have:=so i j (by omega) hj
  rw[Qg,Qg,Qb hi,Qb hj]at this
  exact this
 have u2:((hJ ks).map rk).Pairwise (· <= ·):=by rw[JJ];exact UA ks
 have e:=lks_uniq (p1.map rk) u1 u2
 have key:∀ (l m:List (Nat×Nat)),(∀ x∈l,x.2<1000)->(∀ x∈m,x.2<1000)->l.map rk=m.map rk->l=m:=by
  intro l
  induction l with
  | nil=>
   intro m _ _ h
   cases m with
   | nil=>rfl
   | cons _ _=>cases h
  | cons a l ih=>
   intro m h1 h2 h
   cases m with
   | nil=>cases h
   | cons b m=>
    rw[QI,QI]at h
    injection h with q1 q2
    rw[HH (h1 a Ql) (h2 b Ql) q1,ih m (fun x hx=>h1 x (Qj _ hx)) (fun x hx=>h2 x (Qj _ hx)) q2]
 exact key _ _ (fun x hx=>hb x ((mem x).mp (pm.mem_iff.mp hx))) (fun x hx=>hb x (sN.mp hx)) e
def uw (fa:aB):aB:=fun ρ=>match fa ρ with
 | some (.lst ds,q,ρ1)=>if q<=1 then match nX ds with
  | some ks=>if ks.length<64 then some (.lst ((hJ ks).map av),1,ρ1)else none
  | none=>none
  else none
 | _=>none
theorem C9:∀ {ks:List (Nat×Nat)} {vs:List V} {F:List Addr},af K H w o 0 (ks.map av) vs F->∃ dM:List Addr,vs=dM.map V.ref/\qJ K H ks dM
 | [],_,_,h=>by cases h;exact⟨[],rfl,rfl,fun i x b e _=>by simp at e⟩
 | x::ks,_,_,h=>by
  cases h with
  | cons r rs _=>
   obtain⟨dM,e,l,t⟩:=C9 rs
   cases r with
   | @tup _ a eS cx ha hr=>
    have i1:=GR (ks:=[Int.ofNat x.1,Int.ofNat x.2]) hr
    subst i1 e
    refine⟨a::dM,rfl,by rw[Zb,Zb,l],fun i y b q1 q2=>?_⟩
    cases i with
    | zero=>cases q1;cases q2;exact ha
    | succ i=>exact t i y b q1 q2
theorem C_:∀ {ks:List (Nat×Nat)} {dM:List Addr},qJ K H ks dM->af K H w o 0 (ks.map av) (dM.map V.ref) []
 | [],[],_=>.nil
 | [],_::_,h=>nomatch h.1
 | _::_,[],h=>nomatch h.1
 | x::ks,a::dM,h=>.cons (F:=[]) (G:=[]) (.tup (h.2 0 x a rfl rfl) (.cons (F:=[]) (G:=[]) (.int _) (.cons (F:=[]) (G:=[]) (.int _) .nil nM) nM)) (C_ ⟨by simpa using h.1,fun i y b e1 e2=>h.2 (i+1) y b (by rw[Zu];exact e1) (by rw[Zu];exact e2)⟩) nM
section
variable {X:Cx}{a:Expr}{fa:aB}{p p2 pos m7:Pos}{j:Nat}
def HK(hc:X.calm=true)(hr:aS j X.A)(hm:X.mg "sorted" = none)(UC:X.mg "set" = none)(ha:QD X a fa)(hb:bootBuiltins "set" = some (.type "set"):=by kernel_rfl)(Dc:bootBuiltins "sorted" = some (.builtin "sorted"):=by kernel_rfl)(hg:Gl X "sorted":=by rfl)(UD:Gl X "set":=by rfl)(hs:starEach [a] X.env=(false,eval a X.env)::starEach [] X.env:=by rfl)(cu:(backTo m7 (starEach [] X.env)).any (·.1)=false:=by rfl)(wV:starEach [.Call (.Name "set" p2) [a] [] m7] X.env=(false,eval (.Call (.Name "set" p2) [a] [] m7) X.env)::starEach [] X.env:=by rfl)(Dd:(backTo pos (starEach [] X.env)).any (·.1)=false:=by rfl):QD X (.Call (.Name "sorted" p) [.Call (.Name "set" p2) [a] [] m7] [] pos) (uw fa):=⟨have ha:=ha.o;by
 refine PE.imp (oz (Uz hc) hg hm Dc (gp (tV (Ux hc (by have:=hr.un;omega)) UD UC hb (gp ha jO hs) (by decide) (by decide) hs cu) jO wV) (by decide) (by decide) wV Dd) fun σ H Q ah=>?_
 obtain⟨ρ,w,t,r',q,ρ',gd,ee,k⟩:=ah
 unfold uw at ee
 split at ee
 next ds q1 ρ1 h1=>
  split at ee
  next vM=>
   split at ee
   next ks h2=>
    split at ee
    next sM=>
     cases ee
     obtain⟨e,jd⟩:=HG h2
     subst e
     refine⟨ρ,w,t,_,_,_,gd,h1,fun v H1 w1 F1 g1 aF r1=>?_⟩
     obtain⟨p1,vs,rfl,De,rs⟩:=r1.wD vM
     obtain⟨dM,rfl,tu⟩:=C9 rs
     refine⟨p1,ks,dM,rfl,De,tu,by omega,fun p' kp bs lQ nd mem HL=>?_⟩
     have up:∀ b o,H1 b=some o->upd H1 p' (.ext (S9 X.prog X.w p' kp bs)) b=some o:=fun b o z=>by
      unfold upd
      rw[Qi (fun y=>by rw[y,lQ]at z;cases z)]
      exact z
     have kl:kp.length<=ks.length:=m8 nd fun x hx=>(mem x).mp hx
     refine⟨p',kp,bs,rfl,fX,⟨HL.1,fun i x b x1 x2=>up _ _ (HL.2 i x b x1 x2)⟩,by omega,fun x hx=>jd x ((mem x).mp hx),fun l cb cs hl pm so Df=>?_⟩
     have es:=UB jd nd mem pm so
     subst es
     have gg:=g1.drop (t':=t)
     obtain⟨g2,bj⟩:=gg.grow (H':=upd H1 p' (.ext (S9 X.prog X.w p' kp bs))) (fun b o z=>sm (up b o z)) (gg.wl.tb.upd rfl (.inl lQ))
     obtain⟨a1,a2,a3⟩:=oJ g2 hl (C_ Df)
     exact k _ _ _ _ a1 (((aF.drop gd.wt).trans bj).trans a2) a3
    ·cases ee
   ·cases ee
  ·cases ee
 ·cases ee⟩
where
 m8:∀ {l l':List (Nat×Nat)},l.Nodup->(∀ x∈l,x∈l')->l.length<=l'.length
 | [],_,_,_=>QL _
 | a::l,l',nd,h=>by
  have ha:=h a Ql
  have i:=m8 (l:=l) (l':=l'.erase a) (Q4.mp nd).2 fun x hx=>by
   have ne:x≠a:=fun z=>(Q4.mp nd).1 (z ▸ hx)
   exact(YE ne).mpr (h x (Qj _ hx))
  rw[J0 ha]at i
  have:0<l'.length:=JA ha
  show l.length+1<=l'.length
  omega
end
section
variable {prog:Program}{w:World}{A:Around}{E:Value->Shared->Prop}{s:Shared}
def UE{vs:List Value}{Q:Value->Shared->Prop}(hl:s.heap.IsList l vs.toArray)(T:iE prog w s.heap vs kp)(hb:∀ x∈kp,x.2<1000)(di:vs.length<64)
  (h:∀ (h1:Heap) (h':Heap) (us:List Value) (ks:List (Nat×Nat)) (c:Nat),(∀ b o,s.heap.get? b=some o->h1.get? b=some o)->(∀ b o,s.heap.get? b=some o->h'.get? b=some o)->iE prog w s.heap us ks->(∀ v∈us,v∈vs)->ks.Perm kp->(∀ i j,i<=j->j<ks.length->rk (ks.getD i (0,0))<=rk (ks.getD j (0,0)))->
    h'.get? h1.objs.size=some { cls:=.type "list",data:=.seq us.toArray c }->Q (.ref h1.objs.size) { s with heap:=h' }) :
  wpAny (model prog w) A (call (.builtin "sorted") [.ref l]) Q E s:=by
 refine Vf kind_sorted plain_sorted entry_sorted (args_sorted1 _) ?_
 unfold Builtin.«sorted»
 refine Qa (m:=checkCount "sorted" 1 1 _) (Qd (Qa (collect_list hl ?c1 (by rw[ZP];omega))))
 case c1=>
 have hk:∀ b o,s.heap.get? b=some o->((s.heap.push (seqObj "list" #[] 0)).update s.heap.objs.size (Obj.mapSeq (· ++ vs.toArray))).get? b=some o:=fun b o e=>(ZI _ _ (VD (Qo e))).trans (Qe _ e)
 generalize (s.heap.push (seqObj "list" #[] 0)).update s.heap.objs.size (Obj.mapSeq (· ++ vs.toArray))=h' at *
 refine Qa (wpAny_newList ?c2 (by rw[ZP];omega))
 case c2=>
 have T1:iE prog w (h'.push (seqObj "list" vs.toArray 0)) vs kp:=T.keep fun b o q _=>Qe _ (hk b o q)
 have oL:(h'.push (seqObj "list" vs.toArray 0)).get? h'.objs.size=some (seqObj "list" vs.toArray 0):=Qv _ rfl
 refine Qa (Q9 (Zr slot_list_sort ⟨_,oL,rfl⟩ entry_list_sort (HC (s:={ s with heap:=h'.push (seqObj "list" vs.toArray 0) }) oL T1 hb di fun out cb o1 om o2 o3=>⟨_,rfl,?c3⟩) (args_list_sort _)))
 case c3=>
 refine Qd ⟨_,rfl,?c4⟩
 case c4=>
 have ne:∀ b o,s.heap.get? b=some o->b≠h'.objs.size:=fun b o e=>QM (Qo (hk b o e))
 have up:∀ (G:Heap) (f:Array Value->Array Value),(∀ b o,s.heap.get? b=some o->G.get? b=some o)->∀ b o,s.heap.get? b=some o->(G.update h'.objs.size (Obj.mapSeq f)).get? b=some o:=
  fun G f q b o e=>(ZI _ _ (Jr (ne b o e))).trans (q b o e)
 unfold sortedHeap
 have g1:=Ya oL (fun _=>(#[]:Array Value))
 have g4:=Ya (Qe (seqObj "list" #[] 0) (Qe (seqObj "tuple" vs.toArray 0) g1)) (fun _=>out.toArray)
 refine h h' _ out cb _ hk ?c5 ?c6 om o2 o3 g4
 case c5=>exact up _ _ fun b o e=>Qe _ (Qe _ (up _ _ (fun b o e=>Qe _ (hk b o e)) b o e))
 case c6=>
  refine⟨o1.1,fun i x q=>?_⟩
  obtain⟨b,e1,k1⟩:=o1.2 i x q
  obtain⟨j,hj,qj⟩:=Zh (om _ (QK e1))
  have gj:kp[j]? = some (kp[j]'(by rw[<- T.1];exact hj)):=Qb _
  obtain⟨b',e2,k2⟩:=T.2 j _ gj
  rw[Qb hj,qj]at e2
  cases e2
  obtain⟨b2,e3,k3⟩:=T1.2 j _ gj
  rw[Qb hj,qj]at e3
  cases e3
  have:=k3.inj k1
  rw[this]at k2
  exact⟨b,e1,k2⟩
end
section
variable {X:Cx}{a:Expr}{fa:aB}{p pos:Pos}
def UG:jM X (.builtin "sorted") (fun xs H Q=>∃ t kp bs,xs=[.ref t]/\cE X.K H t (bs.map V.ref)/\qJ X.K H kp bs/\kp.length<64/\(∀ x∈kp,x.2<1000) /\
  ∀ p ks cs,H p=none->ks.Perm kp->(∀ i j,i<=j->j<ks.length->rk (ks.getD i (0,0))<=rk (ks.getD j (0,0)))->qJ X.K H ks cs->Q (.ref p) (upd H p (.lst (cs.map V.ref)))):=by
 intro pins s σ H xs us Q I r hh
 obtain⟨t,kp,bs,rfl,hq,⟨len,tu⟩,di,hb,q⟩:=hh
 obtain⟨u,rfl,ru⟩:=lN r
 cases ru
 obtain⟨aq,rv,pl,_⟩:=I.list hq
 have ei:=C8 rv
 subst ei
 have T0:iE X.prog X.w s.heap (bs.map Value.ref) kp:=⟨by rw[Qc,len],fun i x e=>by
  have hi:=(Qq.mp e).1
  have eb:bs[i]? = some (bs[i]'(by rw[<- len];exact hi)):=Qb _
  exact⟨_,by rw[Qk,eb];rfl,uu I (.inl (.inl (tu i x _ e eb)))⟩⟩
 refine UE pl.isList T0 hb (by rw[Qc,<- len];exact di) fun h1 h' us ks c k1 uv T mb pm so hg=>?_
 obtain⟨cs,rfl⟩:∃ cs:List Addr,us=cs.map Value.ref:=by
  have:∀ (l:List Value),(∀ v∈l,v∈bs.map Value.ref)->∃ cs:List Addr,l=cs.map Value.ref:=by
   intro l
   induction l with
   | nil=>intro _;exact⟨[],rfl⟩
   | cons v l ih=>
    intro h
    obtain⟨cs,e⟩:=ih fun w hw=>h w (Qj _ hw)
    obtain⟨b,_,rfl⟩:=Qy.mp (h v Ql)
    exact⟨b::cs,by rw[e];rfl⟩
  exact this us mb
 have lc:cs.length=ks.length:=by have:=T.1;rwa [Qc]at this
 refine⟨.ref h1.objs.size,_,GY (o:=.lst (cs.map V.ref)) (t':=s.toks) I k1 (Qh _) uv ⟨V4 (by rw[Qc,lc,pm.length_eq];omega),cs.map Value.ref,c,zw cs,hg⟩,rfl,q _ ks cs (CG I.az k1 (Qh _)) pm so ⟨lc.symm,fun i x b x1 x2=>?_⟩⟩
 obtain⟨a,y1,y2⟩:=T.2 i x x1
 rw[Qk,x2]at y1
 cases y1
 obtain⟨b',gQ,e⟩:=Qy.mp (mb (.ref b) (Qy.mpr ⟨b,QK x2,rfl⟩))
 cases e
 obtain⟨j,hj,qj⟩:=Zh gQ
 have gj:kp[j]? = some (kp[j]'(by rw[len];exact hj)):=Qb _
 have sq:=tu j _ b gj (by rw[Qb hj,qj])
 have:=HF ((uu I (.inl (.inl sq))).inj y2)
 rw[this]at sq
 exact sq
def lu (ks:List (Nat×Nat)):List (Nat×Nat):=ks.mergeSort fun a b=>decide (rk a<=rk b)
def UH(hb:∀ x∈kp,x.2<1000)(pm:cb.Perm kp)(so:∀ i j,i<=j->j<cb.length->rk (cb.getD i (0,0))<=rk (cb.getD j (0,0))):cb=lu kp:=by
 have p1:cb.Perm (lu kp):=pm.trans (JX _ _).symm
 have u1:(cb.map rk).Pairwise (· <= ·):=by
  rw[JJ,JV]
  intro i j hi hj BZ
  have:=so i j (by omega) hj
  rw[Qg,Qg,Qb hi,Qb hj]at this
  exact this
 have u2:((lu kp).map rk).Pairwise (· <= ·):=by
  rw[JJ]
  have:=VB (le:=fun a b:Nat×Nat=>decide (rk a<=rk b)) (fun a b c h1 h2=>Qt (Uc (Q5 h1) (Q5 h2))) (fun a b=>by
   rcases Int.le_total (rk a) (rk b)with h|h
   ·rw[Qt h];rfl
   ·rw[Qt h,Bool.or_true]) kp
  exact this.imp fun h=>Q5 h
 have e:=lks_uniq (p1.map rk) u1 u2
 have key:∀ (l m:List (Nat×Nat)),(∀ x∈l,x.2<1000)->(∀ x∈m,x.2<1000)->l.map rk=m.map rk->l=m:=by
  intro l
  induction l with
  | nil=>
   intro m _ _ h
   cases m with
   | nil=>rfl
   | cons _ _=>cases h
  | cons a l ih=>
   intro m h1 h2 h
   cases m with
   | nil=>cases h
   | cons b m=>
    rw[QI,QI]at h
    injection h with q1 q2
    rw[HH (h1 a Ql) (h2 b Ql) q1,ih m (fun x hx=>h1 x (Qj _ hx)) (fun x hx=>h2 x (Qj _ hx)) q2]
 exact key _ _ (fun x hx=>hb x (pm.mem_iff.mp hx)) (fun x hx=>hb x ((JX _ _).mem_iff.mp hx)) e
def Dg (fa:aB):aB:=fun ρ=>match fa ρ with
 | some (.lst ds,q,ρ1)=>if q<=1 then match nX ds with
  | some ks=>if ks.length<64 then some (.lst ((lu ks).map av),1,ρ1)else none
  | none=>none
  else none
 | _=>none
def UI(hm:X.mg "sorted" = none)(ha:QD X a fa)(Dc:bootBuiltins "sorted" = some (.builtin "sorted"):=by kernel_rfl)(hg:Gl X "sorted":=by rfl)(hs:starEach [a] X.env=(false,eval a X.env)::starEach [] X.env:=by rfl)(cu:(backTo pos (starEach [] X.env)).any (·.1)=false:=by rfl):QD X (.Call (.Name "sorted" p) [a] [] pos) (Dg fa):=⟨have ha:=ha.o;by
 refine PE.imp (oz UG hg hm Dc (gp ha jO hs) (by decide) (by decide) hs cu) fun σ H Q ah=>?_
 obtain⟨ρ,w,t,r',q,ρ',gd,ee,k⟩:=ah
 unfold Dg at ee
 split at ee
 next ds q1 ρ1 h1=>
  split at ee
  next vM=>
   split at ee
   next ks h2=>
    split at ee
    next sM=>
     cases ee
     obtain⟨e,jd⟩:=HG h2
     subst e
     refine⟨ρ,w,t,_,_,_,gd,h1,fun v H1 w1 F1 g1 aF r1=>?_⟩
     obtain⟨p1,vs,rfl,De,rs⟩:=r1.wD vM
     obtain⟨dM,rfl,tu⟩:=C9 rs
     refine⟨p1,ks,dM,rfl,De,tu,sM,jd,fun l cb cs hl pm so Df=>?_⟩
     have es:=UH jd pm so
     subst es
     obtain⟨a1,a2,a3⟩:=oJ (g1.drop (t':=t)) hl (C_ Df)
     exact k _ _ _ _ a1 ((aF.drop gd.wt).trans a2) a3
    ·cases ee
   ·cases ee
  ·cases ee
 ·cases ee⟩
end
section
variable {prog:Program}{w:World}{A:Around}{E:Value->Shared->Prop}{s:Shared}{it d:Addr}{od:Obj}{es:Array DictEntry}{i ep:Nat}
def UJ(lo:(d==sysModules)=false)(hT:s.TypeIs (.ref d) "dict")(ho:s.heap.get? d=some od)(hd:od.data=.dict es ep)
  (q:Q (.ref s.heap.objs.size) { s with heap:=s.heap.push { cls:=.type "dict_keyiterator",data:=.fields #[.ref d,.int 0 0,.int es.size 0,.int ep 0] } }):wpAny (model prog w) A (pyIter (.ref d)) Q E s:=by
 refine Vi hT Yo (Zr Yo hT PySem.F.entry_dict_iter ?_ (PySem.F.args_dict_iter_1 _))
 unfold Builtin.«dict.__iter__» Builtin.Dict.dictSlotNone
 refine Qa (Qa (Ys hT (show wpAny _ _ (pure (Value.ref d)) _ _ s from Qd (show wpAny _ _ (Builtin.Dict.showsAll d >>= _) _ _ s from ?_))))
 unfold Builtin.Dict.showsAll
 rw[Qi (by rw[lo];exact Zd)]
 refine Qa (Qd (Qa (ZL ho hd (Qa (Yb ho hd (Qa (Zo (Qd ⟨_,rfl,"dict_keyiterator",_,⟨_,Qv _ rfl,rfl⟩,Zp.lookup,?_⟩))))))))
 simpa [rawInt]using q
def UK{Q:Option Value->Shared->Prop}(hit:s.heap.IsKeyIter it d i es.size ep)(wW:s.heap.get? d=some od)(wX:od.data=.dict es ep)(hi:i<es.size)
  (q:∀ h',h'.IsKeyIter it d (i+1) es.size ep->Heap.SameBut it s.heap h'->Q (some es[i].key) { s with heap:=h' }):wpAny (model prog w) A (pyNext (.ref it)) Q E s:=by
 obtain⟨o,ho,hc,hd⟩:=id hit
 unfold pyNext
 refine Qa (JZ (ZE (name:=Str.ofString "__next__") hit.typeIs Zp (Zr Zp hit.typeIs J2 ?body (JY _))))
 case body=>
 refine Qa (Qd (Qa (Qa (Qa (ZZ hit.typeIs (Qd (Qa (Va ho hd ?b1))))))))
 case b1=>
 simp only[show Builtin.Dict_items.ownsTuple "dict_keyiterator" = false from by decide,Qu,Zj]
 refine(show wpAny _ _ (if(Value.ref d==Value.none)=true then _ else _) _ _ s from ?b2)
 case b2=>
 rw[Qi (show ¬ ((Value.ref d==Value.none)=true)from Zd)]
 refine Qa (Qd (Qa (ZL wW wX ?b3)))
 case b3=>
 rw[Qi (by simp)]
 refine Qa (Qd (Qa (Yb wW wX ?b4)))
 case b4=>
 rw[Qi (by simp)]
 refine Qd ?b5
 case b5=>
 simp only[show ¬ ((i:Int)<0)from by omega,Zj,Yl,Q7 hi]
 refine Qa (Qa (ZZ hit.typeIs (Qd (Qa (wpAny_isOneOf_keyiter hit.typeIs ?b6)))))
 case b6=>
 refine(show wpAny _ _ (setField (.ref it) 1 (rawInt ((i:Int)+1)) >>= _) _ _ s from Qa (Y7 ho hd (by simp) ?b7))
 case b7=>
 have oX:(s.heap.update it (Obj.mapFields (·.setIfInBounds 1 (rawInt ((i:Int)+1))))).IsKeyIter it d (i+1) es.size ep:=⟨_,Zt _ ho (Obj.isFreed_of_fields (Ye hd _)),(Obj.cls_mapFields ..).trans hc,by rw[Ye hd];simp[rawInt]⟩
 refine Qa (Q9 (Qa (wpAny_isOneOf_keyiter (s:={ s with heap:=s.heap.update it (Obj.mapFields (·.setIfInBounds 1 (rawInt ((i:Int)+1)))) }) oX.typeIs ?b8)))
 case b8=>exact(show wpAny _ _ (pure es[i].key) _ _ _ from Qd (Qd ⟨_,rfl,Qd (q _ oX (QZ ..))⟩))
def UL{Q:Option Value->Shared->Prop}(hh:A.handled=none)(hit:s.heap.IsKeyIter it d es.size es.size ep)(wW:s.heap.get? d=some od)(wX:od.data=.dict es ep)
  (q:∀ h',Heap.ExtBut it s.heap h'->Q none { s with heap:=h' }):wpAny (model prog w) A (pyNext (.ref it)) Q E s:=by
 obtain⟨o,ho,hc,hd⟩:=id hit
 unfold pyNext
 refine Qa (JZ (ZE (name:=Str.ofString "__next__") hit.typeIs Zp (Zr Zp hit.typeIs J2 ?body (JY _))))
 case body=>
 refine Qa (Qd (Qa (Qa (Qa (ZZ hit.typeIs (Qd (Qa (Va ho hd ?b1))))))))
 case b1=>
 simp only[show Builtin.Dict_items.ownsTuple "dict_keyiterator" = false from by decide,Qu,Zj]
 refine(show wpAny _ _ (if(Value.ref d==Value.none)=true then _ else _) _ _ s from ?b2)
 case b2=>
 rw[Qi (show ¬ ((Value.ref d==Value.none)=true)from Zd)]
 refine Qa (Qd (Qa (ZL wW wX ?b3)))
 case b3=>
 rw[Qi (by simp)]
 refine Qa (Qd (Qa (Yb wW wX ?b4)))
 case b4=>
 rw[Qi (by simp)]
 refine Qd ?b5
 case b5=>
 simp only[show ¬ ((es.size:Int)<0)from by omega,Zj,Yl,Z9 (Qh es.size)]
 refine Qa (Qa (ZZ hit.typeIs (Qd ?b6)))
 case b6=>
 refine(show wpAny _ _ (setField (.ref it) 0 .none >>= _) _ _ s from Qa (Y7 ho hd (by simp) (show wpAny _ _ (newExc (.type "StopIteration") [] >>= _) _ _ _ from Qa ?b7)))
 case b7=>
 simp only[newExc,newTuple]
 refine Qa (Zo (Qa (m:=firstArgMember _ _) (V0 (a:=Value.none) (by first|rfl|(simp only[firstArgMember];rfl)) (Zo ?b8 (by size_fits)))) (by size_fits))
 case b8=>
 simp only[raiseNew]
 refine Qa (wpAny_handled ?b9)
 case b9=>
 rw[show A.in1.handled=none from hh]
 refine Qa (Qd (wpAny_throw ?bx))
 case bx=>
 refine Qa (Yx (b:=true) (T:="StopIteration") ⟨_,Qv _ rfl,rfl⟩ isSubtype_stop (Qd (q _ (((QZ ..).extBut.push _).push _))))
def UM(lo:(d==sysModules)=false)(hc:od.cls=.type "dict")(hd:od.data=.dict es ep):KdlSrc prog w "dict" d d es.size (fun i v=>∃ e,es[i]? = some e/\v=e.key) (fun h=>h.get? d=some od) where
 type:=fun _ h=>⟨_,h,hc⟩
 there:=fun _ h=>⟨Qo h,Qo h⟩
 keep:=fun _ _ h k=>k d (.inl rfl) _ h
 notList:=by decide
 notTuple:=by decide
 hint:=fun _ _ _ _ h q=>kdl_hint_dict ⟨_,h,hc⟩ q
 iter:=fun A s hh h=>⟨_,fun i h'=>h'.IsKeyIter s.heap.objs.size d i es.size ep/\h'.get? d=some od,(fun _ _ q=>UJ lo ⟨_,h,hc⟩ h hd q),{
  sub:=fun b hb=>by simp at hb;simp[hb]
  frame:=fun _ _ _ st k=>⟨st.1.at fun o e=>k _ (by simp) o e,k d (by simp) _ st.2⟩
  item:=fun i s' Q E hi st q=>UK st.1 st.2 hd hi fun h' cT sb=>q _ h' s'.toks ⟨_,Q7 hi,rfl⟩ ⟨cT,by rw[sb.2 d (QM (Qo h))];exact st.2⟩ fun b o hb e=>sb.extBut b o (fun z=>hb (by simp[z])) e
  done:=fun s' Q E st q=>UL hh st.1 st.2 hd fun h' he=>q h' s'.toks fun b o hb e=>he b o (fun z=>hb (by simp[z])) e
  self:=fun _ _ _ _ st q=>wpAny_pyIter_keyiter st.1 q },⟨_,Qv _ rfl,rfl,rfl⟩,Qe _ h⟩
end
abbrev bH (x:Nat×Nat):List Key:=[.inl (Int.ofNat x.1),.inl (Int.ofNat x.2)]
section
variable {α β:Type}[DecidableEq α]
def vL:List α->List β->α->Option β
 | x::ks,d::ds,k=>if x=k then some d else vL ks ds k
 | _,_,_=>none
def kE (ks:List α)(k:α):Bool:=ks.any fun x=>decide (x=k)
def iS:List α->List β->α->β->List β
 | x::ks,d::ds,k,e=>(if x=k then e else d)::iS ks ds k e
 | _,_,_,_=>[]
end
theorem zA{α β:Type}[DecidableEq α](k:α)(e:β):∀ {ks:List α} {ds:List β},ks.length=ds.length->(iS ks ds k e).length=ds.length
 | [],[],_=>rfl
 | x::ks,d::ds,h=>by
  show(iS ks ds k e).length+1=ds.length+1
  rw[zA k e (JC h)]
theorem wY{α:Type}[DecidableEq α](k:α):∀ (ks:List α) (vs:List V),fK (ks.zip vs) k=vL ks vs k
 | [],_=>rfl
 | _::_,[]=>rfl
 | x::ks,v::vs=>by
  show fK ((x,v)::ks.zip vs) k=_
  unfold vL
  by_cases h:x=k
  ·rw[vh h,Qf h]
  ·rw[vi h,Qi h,wY k ks vs]
def HM{α:Type}[DecidableEq α](k:α):∀ (ks:List α) (vs:List V),ks.length=vs.length->((ks.zip vs).any fun kv=>decide (kv.1=k))=kE ks k
 | [],[],_=>rfl
 | x::ks,v::vs,h=>by
  rw[Yf,JG,HM k ks vs (JC h)]
  rfl
theorem Dh{α:Type}[DecidableEq α](k:α)(u:V)(ks:List α)(vs:List V)(h:ks.length=vs.length) :
  fm (ks.zip vs) k u=if kE ks k=true then ks.zip (iS ks vs k u)else(ks++[k]).zip (vs++[u]):=by
 unfold fm
 rw[HM k ks vs h]
 by_cases hk:kE ks k=true
 ·rw[Qf hk,Qf hk]
  clear hk
  induction ks generalizing vs with
  | nil=>rfl
  | cons x ks ih=>
   cases vs with
   | nil=>cases h
   | cons v vs=>
    show(if x=k then(x,u)else(x,v))::_=(x,if x=k then u else v)::_
    have:=ih vs (JC h)
    unfold List.zip at this
    rw[this]
    by_cases hx:x=k
    ·rw[Qf hx,Qf hx]
    ·rw[Qi hx,Qi hx]
 ·rw[Qi hk,Qi hk,VM h]
  rfl
section
variable {K:PySem.W.Frag}{H:Hp}{w:Wn}{o:Ow}
def af.split(r:af K H w o 0 (d::ds) vs []):∃ v us,vs=v::us/\Rep K H w o 0 d v []/\af K H w o 0 ds us []:=by
 generalize hF:([]:List Addr)=F at r
 cases r with
 | @cons _ d' v' cx eS F' G' r s _=>
  have h1:F'=[]:=r.zero
  have h2:G'=[]:=s.zero
  subst h1 h2
  exact⟨v',eS,rfl,r,s⟩
def af.m9(r:Rep K H w o 0 d v [])(s:af K H w o 0 ds vs []):af K H w o 0 (d::ds) (v::vs) []:=.cons (F:=[]) (G:=[]) r s nM
def af.ph(r:af K H w o 0 [] vs []):vs=[]:=by
 have:=r.length
 cases vs with
 | nil=>rfl
 | cons _ _=>cases this
theorem zB{α:Type}[DecidableEq α](k:α):∀ {ks:List α} {ds:List D} {vs:List V},af K H w o 0 ds vs []->
  (∀ d,vL ks ds k=some d->∃ v,vL ks vs k=some v/\Rep K H w o 0 d v [])/\(vL ks ds k=none->vL ks vs k=none)
 | [],ds,vs,r=>⟨fun d h=>by simp[vL]at h,fun _=>by simp[vL]⟩
 | x::ks,[],vs,r=>by
  rw[r.ph]
  exact⟨fun d h=>by simp[vL]at h,fun _=>by simp[vL]⟩
 | x::ks,d::ds,vs,r=>by
  obtain⟨v,us,rfl,r1,s⟩:=r.split
  have ih:=zB k (ks:=ks) s
  by_cases hx:x=k
  ·simp only[vL,Qf hx]
   exact⟨fun d' h=>by cases h;exact⟨v,rfl,r1⟩,fun h=>by cases h⟩
  ·simp only[vL,Qi hx]
   exact ih
theorem zC{α:Type}[DecidableEq α](k:α){e:D}(re:Rep K H w o 0 e u []):∀ {ks:List α} {ds:List D} {vs:List V},af K H w o 0 ds vs []->af K H w o 0 (iS ks ds k e) (iS ks vs k u) []
 | [],ds,vs,r=>by simp only[iS];exact .nil
 | x::ks,[],vs,r=>by
  rw[r.ph]
  simp only[iS];exact .nil
 | x::ks,d::ds,vs,r=>by
  obtain⟨v,us,rfl,r1,s⟩:=r.split
  simp only[iS]
  refine .m9 ?_ (zC k re s)
  by_cases hx:x=k
  ·rw[Qf hx,Qf hx];exact re
  ·rw[Qi hx,Qi hx];exact r1
end
def zD:D->Option Key
 | .int i=>some (.inl i)
 | .str x=>some (.inr x)
 | _=>none
def zE:List D->Option (List Key)
 | []=>some []
 | d::ds=>match zD d with
  | some k=>(zE ds).map (k :: ·)
  | none=>none
def ux:D->Option (List Key)
 | .tup ds=>zE ds
 | _=>none
def pj:MK->List D->D->Option (Option D)
 | .t ks,ds,x=>(ux x).map fun y=>vL ks ds y
 | .k ks,ds,x=>(zD x).map fun y=>vL ks ds y
 | .i _ _,_,_=>none
def wZ:MK->List D->D->D->Option (MK×List D)
 | .t ks,ds,x,d=>(ux x).map fun y=>if kE ks y=true then(.t ks,iS ks ds y d)else(.t (ks++[y]),ds++[d])
 | .k ks,ds,x,d=>(zD x).map fun y=>if kE ks y=true then(.k ks,iS ks ds y d)else(.k (ks++[y]),ds++[d])
 | .i _ _,_,_,_=>none
section
variable {K:PySem.W.Frag}{H:Hp}{w:Wn}{o:Ow}
def Di{x:D}{k:Key}(h:zD x=some k)(r:Rep K H w o q x v F):v=kV k:=by
 cases x<;>cases h<;>cases r<;>rfl
theorem HN:∀ {ds:List D} {ks:List Key} {vs:List V},zE ds=some ks->af K H w o 0 ds vs []->vs=ks.map kV
 | [],ks,vs,h,r=>by
  cases h
  exact r.ph
 | d::ds,ks,vs,h,r=>by
  unfold zE at h
  split at h
  next k hk=>
   obtain⟨cb,e,rfl⟩:=Qx.mp h
   obtain⟨v,us,rfl,r1,s⟩:=r.split
   rw[Di hk r1,HN e s]
   rfl
  ·cases h
def Dj{x:D}{k:List Key}(h:ux x=some k)(r:Rep K H w o q x v F):∃ b,v=.ref b/\H b=some (.tup (k.map kV)):=by
 cases x with
 | tup ds=>
  obtain⟨a,vs,rfl,e,rs⟩:=r.qd
  rw[HN h rs]at e
  exact⟨a,rfl,e⟩
 | _=>cases h
theorem Dk{k:MK}{x:D}{y:V}{r:Option D}(hH:H a=some z)(i:k.Is K vs z)(rs:af K H w o 0 ds vs [])(rx:Rep K H w' o' q x y F)(h:pj k ds x=some r) :
  ∃ rv,iY H a y rv/\(∀ d,r=some d->∃ v,rv=some v/\Rep K H w o 0 d v [])/\(r=none->rv=none):=by
 cases k with
 | t ks=>
  obtain⟨kk,e,rfl⟩:=Qx.mp h
  cases i
  obtain⟨b,rfl,hb⟩:=Dj e rx
  refine⟨_,iY.t hH hb,?_⟩
  rw[wY]
  exact zB kk rs
 | k ks=>
  obtain⟨kk,e,rfl⟩:=Qx.mp h
  cases i
  rw[Di e rx]
  refine⟨_,iY.k hH,?_⟩
  rw[wY]
  exact zB kk rs
 | i C fs=>cases h
theorem UN{k k':MK}{cx:List D}{x:D}{y:V}(hH:H a=some z)(i:k.Is K vs z)(hl:k.len=ds.length)(di:ds.length<1000)(rs:af K H w o 0 ds vs [])(rx:Rep K H w' o' q x y F)(rd:Rep K H w o 0 d u [])(h:wZ k ds x d=some (k',cx)) :
  ∃ z' eS,oD H a y u (upd H a z')/\k'.Is K eS z'/\k'.len=cx.length/\af K H w o 0 cx eS []:=by
 have lv:=rs.length
 cases k with
 | t ks=>
  obtain⟨kk,e,hh⟩:=Qx.mp h
  cases i
  obtain⟨b,rfl,hb⟩:=Dj e rx
  have hl:ks.length=ds.length:=hl
  have dp:=oD.t (v:=u) hH hb (by rw[Z5,<- lv,hl,JB];exact lP (ZG di))
  rw[Dh kk u ks vs (by omega)]at dp
  by_cases hk:kE ks kk=true
  ·rw[Qf hk]at hh dp
   cases hh
   exact⟨_,_,dp,rfl,(hl.trans (zA kk d hl).symm),zC kk rd rs⟩
  ·rw[Qi hk]at hh dp
   cases hh
   refine⟨_,_,dp,rfl,?_,af.snoc (F:=[]) (G:=[]) rd rs nM⟩
   show(ks++[kk]).length=_
   rw[Qm,Qm,hl]
   rfl
 | k ks=>
  obtain⟨kk,e,hh⟩:=Qx.mp h
  cases i
  rw[Di e rx]
  have hl:ks.length=ds.length:=hl
  have dp:=oD.k (k:=kk) (v:=u) hH (by rw[Z5,<- lv,hl,JB];exact lP (ZG di))
  rw[Dh kk u ks vs (by omega)]at dp
  by_cases hk:kE ks kk=true
  ·rw[Qf hk]at hh dp
   cases hh
   exact⟨_,_,dp,rfl,(hl.trans (zA kk d hl).symm),zC kk rd rs⟩
  ·rw[Qi hk]at hh dp
   cases hh
   refine⟨_,_,dp,rfl,?_,af.snoc (F:=[]) (G:=[]) rd rs nM⟩
   show(ks++[kk]).length=_
   rw[Qm,Qm,hl]
   rfl
 | i C fs=>cases h
end
def UO(v:OX):oH v.ho=false:=by cases v<;>rfl
def MK.Dl{k:MK}{x:HO}(h:k.Is K vs x):oH x=false:=by
 obtain⟨v,rfl⟩:=MK.ox h
 exact UO v
section
variable {K:PySem.W.Frag}{σ:St}{ρ:aW}{t:Nat}
def UP{H1:Hp}{p:Addr}{w1:Wn}{k:MK}(g:Good K ρ σ H1 w1 t)(hp:H1 p=none)(i:k.Is K vs z)(hl:k.len=ds.length)(r:af K H1 w1 .f 0 ds vs []) :
  Good K ρ σ (upd H1 p z) (kh p (.t t) w1) (t+1)/\Go H1 w1 (upd H1 p z) (kh p (.t t) w1)/\Rep K (upd H1 p z) (kh p (.t t) w1) (.t t) 1 (.mp k ds) (.ref p) [p]:=by
 have ne:∀ a x,H1 a=some x->a≠p:=fun a x e=>ib e hp
 have nw:∀ a o,w1 a=some o->a≠p:=fun a o e=>by obtain⟨vs,q⟩:=g.wl a o e;exact ne a _ q
 have st:de H1 w1 (upd H1 p z) (kh p (.t t) w1):=fun a x e n=>⟨sm (by rw[bc (ne a x e)];exact e),by rw[iy (ne a x e)];exact n⟩
 refine⟨⟨⟨fun a o e=>?_,g.wl.tb.upd (MK.Dl i) (.inl hp)⟩,fun a i e=>?_,fun a i e=>?_,g.len,fun i d q e=>?_⟩,⟨st,fun a o e _=>⟨bc (nw a o e),(iy (nw a o e)).trans e⟩⟩,?_⟩
 ·by_cases h:a=p
  ·subst h
   obtain⟨v,rfl⟩:=MK.ox i
   exact⟨v,fX⟩
  ·rw[iy h]at e
   obtain⟨us,q⟩:=g.wl a o e
   exact⟨us,by rw[bc h];exact q⟩
 ·by_cases h:a=p
  ·subst h;rw[oI]at e;cases e
  ·rw[iy h]at e;exact g.ws a i e
 ·by_cases h:a=p
  ·subst h;rw[oI]at e;cases e;exact Zq _
  ·rw[iy h]at e;exact Zc (g.wt a i e)
 ·obtain⟨v,F,h1,h2⟩:=g.slot i d q e
  exact⟨v,F,h1,Rep.go g.wl st h2 fun a m=>⟨bc (nw a _ (h2.aC a m)),(iy (nw a _ (h2.aC a m))).trans (h2.aC a m)⟩⟩
 ·exact .kW fX i oI hl (af.go g.wl st r nM)
def Rep.pq{k:MK}(r:Rep K H w o q (.mp k ds) v F):∃ a vs z,v=.ref a/\H a=some z/\k.Is K vs z/\k.len=ds.length/\af K H w o 0 ds vs []:=by
 cases r with
 | nO h i e l r=>exact⟨_,_,_,rfl,h,i,l,r⟩
 | kW h i e l r=>exact⟨_,_,_,rfl,h,i,l,r⟩
def Good.kF{k:MK}(g:Good K ρ σ H w t)(e:ρ[i]? = some (some (.mp k ds,q))) :
  ∃ l vs z,σ[i]? = some (some (.ref l))/\H l=some z/\k.Is K vs z/\k.len=ds.length/\af K H w .f 0 ds vs []:=by
 obtain⟨v,F,h1,h2⟩:=g.slot i _ _ e
 obtain⟨a,vs,z,rfl,x1,x2,x3,x4⟩:=h2.pq
 exact⟨a,vs,z,h1,x1,x2,x3,x4.any g.wl⟩
theorem Good.sO{k:MK}(g:Good K ρ σ H w t)(e:ρ[i]? = some (some (.mp k ds,1))) :
  ∃ l vs z,σ[i]? = some (some (.ref l))/\H l=some z/\k.Is K vs z/\k.len=ds.length/\af K H w .f 0 ds vs []/\∀ k' cx eS z',k'.Is K eS z'->k'.len=cx.length->af K H w .f 0 cx eS []->
   Good K (ρ.set i (some (.mp k' cx,1))) σ (upd H l z') w t/\Go H w (upd H l z') w:=by
 obtain⟨v,F,h1,h2⟩:=g.slot i _ _ e
 cases h2 with
 | @kW _ l vs _ _ z hl gX hw hlen rs=>
  refine⟨l,vs,z,h1,hl,gX,hlen,rs.any g.wl,fun k' cx eS z' i' l' r'=>?_⟩
  have nl:∀ a o,w a=some o->o ≠ .s i->a≠l:=fun a o e n z=>by subst z;rw[hw]at e;exact n (QF e).symm
  have nn:∀ a,w a=none->a≠l:=fun a e z=>by subst z;rw[hw]at e;cases e
  have st:de H w (upd H l z') w:=fun a x h n=>⟨sm (by rw[bc (nn a n)];exact h),n⟩
  refine⟨⟨⟨fun a o h=>?_,g.wl.tb.upd (MK.Dl i') (.inr (g.wl l _ hw))⟩,g.ws,g.wt,by rw[QS];exact g.len,fun j d' q' e'=>?_⟩,⟨st,fun a o h n=>⟨bc (nl a o h (n i)),h⟩⟩⟩
  ·by_cases z:a=l
   ·subst z
    obtain⟨v,rfl⟩:=MK.ox i'
    exact⟨v,fX⟩
   ·obtain⟨us,q⟩:=g.wl a o h
    exact⟨us,by rw[bc z];exact q⟩
  ·by_cases hj:i=j
   ·subst hj
    rw[QP (Qq.mp e).1]at e'
    cases e'
    exact⟨_,_,h1,.kW fX i' hw l' (af.go g.wl st r' nM)⟩
   ·rw[QR hj]at e'
    obtain⟨v',F',qt,mL⟩:=g.slot j d' q' e'
    exact⟨v',F',qt,Rep.go g.wl st mL fun a m=>⟨bc (nl a _ (mL.aC a m) (fun z=>hj (by cases z;rfl))),mL.aC a m⟩⟩
end
@[simp] def dz:Option (OD)->Bool
 | some (some (.mp (.t _) _,_))=>true
 | some (some (.mp (.k _) _,_))=>true
 | _=>false
def UQ{o:Option (OD)}(h:dz o=true):∃ k ds q,o=some (some (.mp k ds,q))/\(∀ C fs,k ≠ .i C fs):=by
 unfold dz at h
 split at h
 ·exact⟨_,_,_,rfl,fun _ _ z=>nomatch z⟩
 ·exact⟨_,_,_,rfl,fun _ _ z=>nomatch z⟩
 ·cases h
def MK.nU{k:MK}(i:k.Is K vs z)(n:∀ C fs,k ≠ .i C fs)(e:H a=some z):L2.rO H a:=by
 cases k with
 | t ks=>cases i;exact .inr ⟨_,.inl e⟩
 | k ks=>cases i;exact .inl ⟨_,.inl e⟩
 | i C fs=>exact absurd rfl (n C fs)
def Good.dz{t:Nat}(g:Good K ρ σ H w t)(h:dz ρ[i]? = true):∃ l,σ[i]? = some (some (.ref l))/\L2.rO H l:=by
 obtain⟨k,ds,q,e,n⟩:=UQ h
 obtain⟨l,vs,z,h1,h2,h3,_,_⟩:=g.kF e
 exact⟨l,h1,MK.nU h3 n h2⟩
@[simp] def Dm:aB:=fun ρ=>some (.mp (.t []) [],1,ρ)
def uy (i:Nat)(fk:aB):aB:=fun ρ=>if dz ρ[i]? = true then match fk ρ with
 | some (x,_,ρ1)=>match ρ1[i]? with
  | some (some (.mp k ds,_))=>match pj k ds x with
   | some (some d)=>some (d,gY d,ρ1)
   | _=>none
  | _=>none
 | none=>none
 else none
def w9 (i:Nat)(fk fv:aB):aN:=fun ρ=>match fv ρ with
 | some (d,_,ρ1)=>if dz ρ1[i]? = true then match fk ρ1 with
  | some (x,_,ρ2)=>match ρ2[i]? with
   | some (some (.mp k ds,1))=>if ds.length<1000 then match wZ k ds x d with
    | some (k',cx)=>some (.nx (ρ2.set i (some (.mp k' cx,1))))
    | none=>none
    else none
   | _=>none
  | none=>none
  else none
 | none=>none
def HP:List (List Key)->Option (List (Nat×Nat))
 | []=>some []
 | [.inl i,.inl j]::ks=>if 0<=i/\0<=j/\j<1000 then(HP ks).map ((i.toNat,j.toNat) :: ·)else none
 | _=>none
section
variable {X:Cx}{a b c e:Expr}{fa fb fc f:aB}{p p1 pos pos' ak apos:Pos}{x:Str}{i:Nat}
def HQ:QD X (.Dict [] [] pos) Dm:=⟨PE.imp N3 fun σ H Q ah=>by
 obtain⟨ρ,w,t,r',q,ρ',gd,ee,k⟩:=ah
 cases ee
 intro p hp
 obtain⟨a1,a2,a3⟩:=UP (k:=.t []) (vs:=[]) (ds:=[]) gd hp rfl rfl .nil
 exact k _ _ _ _ a1 a2 a3⟩
def UR{k:Nat}(hr:aS k X.A)(h:QE X (.Name x p1) (eR i))(hk:QD X b fb)(hs:Bi b:=by exact fun _ _=>rfl):QD X (.Subscript (.Name x p1) b pos) (uy i fb):=⟨have h:=h.o;have hk:=hk.o;PE.imp (NX (rG hr) h hk hs) fun σ H Q ah=>by
 obtain⟨ρ,w,t,r',q,ρ',gd,ee,kk⟩:=ah
 unfold uy at ee
 split at ee
 next hd=>
  obtain⟨l,cL,_⟩:=gd.dz hd
  split at ee
  next x0 q1 ρ1 h1=>
   split at ee
   next k0 ds q2 e1=>
    split at ee
    next d hg=>
     cases ee
     refine⟨_,cL,ρ,w,t,_,_,_,gd,h1,fun y H1 w1 F1 g1 aF r1=>?_⟩
     obtain⟨l',vs,z,cC,hH,gX,_,rs⟩:=(g1.drop (t':=t)).kF e1
     rw[cL]at cC
     cases cC
     obtain⟨rv,dg,v1,_⟩:=Dk hH gX rs r1 hg
     obtain⟨v,rfl,rd⟩:=v1 _ rfl
     exact⟨l,v,rfl,dg,kZ kk gd g1 aF (rd.any (g1.drop (t':=t)).wl).i6⟩
    ·cases ee
   ·cases ee
  ·cases ee
 ·cases ee⟩
def US{k:Nat}(hr:aS k X.A)(h:QE X (.Name x p1) (eR i))(hk:QD X b fb)(hv:QD X e f)(hs:swapsWith e (some (.Subscript (.Name x p1) b pos')) pos.line X.env=pure false:=by rfl):jA X (.Assign [.Subscript (.Name x p1) b pos'] e pos) (w9 i fb f):=⟨have h:=h.o;have hk:=hk.o;have hv:=hv.o;PS.imp (NZ (rG hr) h hk hv hs) fun Dn σ H ah=>by
 obtain⟨ρ,w,o,gd,ee,kk⟩:=ah
 unfold w9 at ee
 split at ee
 next d q0 ρ1 h0=>
  split at ee
  next hd=>
   split at ee
   next x0 q1 ρ2 h1=>
    split at ee
    next k0 ds e1=>
     split at ee
     next di=>
      split at ee
      next k' cx hp=>
       cases ee
       refine⟨ρ,w,0,_,_,_,gd,h0,fun u H1 w1 F1 g1 aF r1=>?_⟩
       obtain⟨l,cL,_⟩:=g1.dz hd
       refine⟨_,cL,ρ1,w1,1,_,_,_,g1,h1,fun y H2 w2 F2 g2 bj r2=>?_⟩
       have gg:=g2.drop (t':=0)
       obtain⟨l',vs,z,cC,hH,gX,hl,rs,mk⟩:=gg.sO e1
       rw[cL]at cC
       cases cC
       have rv:=((r1.gone g1.wl bj).drop (o:=.f) (t':=0) (Qh 0))
       obtain⟨z',eS,dp,i',l',mM⟩:=UN hH gX hl di rs r2 rv hp
       obtain⟨m1,m2⟩:=mk k' cx eS z' i' l' mM
       exact⟨l,_,rfl,dp,kk σ _ _ rfl m1 (((aF.trans bj).drop gd.wt).trans m2)⟩
      ·cases ee
     ·cases ee
    ·cases ee
   ·cases ee
  ·cases ee
 ·cases ee⟩
end
section
variable {P:Program}{w:World}{κ:Type}[DecidableEq κ]{N:HeapKind P w κ}{A:Around}{E:Value->Shared->Prop}{s:Shared}{d:Addr}
def UT{ys:List (κ×Addr×Value)}{k:κ}{v:Value}(room:N.room A)(qK:N.is s.heap k a)(D:s.heap.DictOfH N d ys)(small:ys.length<=sizeLine)
  (q1:∀ p,atKey ys k=some p->Q p.2 { s with toks:=s.toks+N.draws k }) (q2:atKey ys k=none->∀ g,g.DictOfH N d (ys++[(k,a,v)])->Heap.SameBut d s.heap g->Q v { s with heap:=g,toks:=s.toks+N.draws k }) :
  wpAny (model P w) A (dictSetDefault d (.ref a) v) Q E s:=by
 obtain⟨o,es,ep,e1,e2,e3,e4,e5,e6⟩:=D
 unfold dictSetDefault
 refine Q9 (Qa (N.pyHash room qK (Qa (wpAny_dictFind_heap (s:={ s with toks:=s.toks+N.draws k }) room qK e1 e3 e4 e5 e6 (fun no=>?n) fun j p hj=>?y))))
 case y=>
  refine Qa (ZL (s:={ s with toks:=s.toks+N.draws k }) e1 e3 ?_)
  rw[entry_at e4 j,hj]
  exact Qa (Y2 (Qd (q1 p (atKey_of_get e6 hj))))
 case n=>
  have nm:=not_mem_keys_of_get no
  refine Qa (Y2 (Qa (wpAny_updateDictKeys (hz:=by rw[YM e4];exact small) (s:={ s with toks:=s.toks+N.draws k }) e1 e3 (Qd (q2 (atKey_none_of_get no) _ ⟨_,_,ep+1,Zt _ e1 (YU (JN e3 _)),e2.mapDictKeys _,JN e3 _,?a,fun y hy=>?b,?c⟩ (QZ ..))))))
  case a=>simp[e4,entryOfKey]
  case b=>
   rcases QG.mp hy with z|z
   ·exact N.keeps (e5 y z) e1 e3 (QZ ..)
   ·rw[Qr.mp z];exact N.keeps qK e1 e3 (QZ ..)
  case c=>
   rw[QY,Jl]
   refine⟨e6,by simp,fun y hy z hz=>?_⟩
   rw[show z=k by simpa using hz]
   exact fun q=>nm (q ▸ hy)
def UU{ys:List (κ×Addr×Value)}{k:κ}{v:Value}{Q:Unit->Shared->Prop}(room:N.room A)(qK:N.is s.heap k a)(D:s.heap.DictOfH N d ys)(small:ys.length<=sizeLine)
  (q:∀ g,g.DictOfH N d (storedH ys k a v)->Heap.SameBut d s.heap g->Q () { s with heap:=g }):wpAny (model P w) A (dictSetHashed d (.ref a) (N.hash k) v) Q E s:=by
 obtain⟨o,es,ep,e1,e2,e3,e4,e5,e6⟩:=D
 unfold dictSetHashed
 refine Q9 (Qa (wpAny_dictFind_heap room qK e1 e3 e4 e5 e6 (fun no=>?n) fun j p hj=>?y))
 case n=>
  have nm:=not_mem_keys_of_get no
  refine Qa (Y2 (wpAny_updateDictKeys (hz:=by rw[YM e4];exact small) e1 e3 (q _ ⟨_,_,ep+1,Zt _ e1 (YU (JN e3 _)),e2.mapDictKeys _,JN e3 _,?a,?b,?c⟩ (QZ ..))))
  all_goals rw[storedH_new (atKey_none_of_get no)]
  case a=>simp[e4,entryOfKey]
  case b=>
   intro y hy
   rcases QG.mp hy with z|z
   ·exact N.keeps (e5 y z) e1 e3 (QZ ..)
   ·rw[Qr.mp z];exact N.keeps qK e1 e3 (QZ ..)
  case c=>
   rw[QY,Jl]
   refine⟨e6,by simp,fun y hy z hz=>?_⟩
   rw[show z=k by simpa using hz]
   exact fun q=>nm (q ▸ hy)
 case y=>
  refine Qa (Y2 (Qa (wpAny_updateDict e1 e3 (wpAny_point (q _ ⟨_,_,ep,Zt _ e1 (YU (Obj.data_mapDict e3 _)),e2.mapDict _,Obj.data_mapDict e3 _,?a,?b,?c⟩ (QZ ..))))))
  all_goals rw[storedH_old (atKey_of_get e6 hj)]
  case a=>
   have mm:=modify_map_putAt (entryOfKey N) (fun e:DictEntry=>{ e with val:=v }) k v (fun _ _=>rfl) e6 hj
   rw[<- e4]at mm
   obtain⟨l⟩:=es
   simpa using mm
  case b=>
   intro y hy
   obtain⟨x,hx,rfl⟩:=Qy.mp hy
   unfold putAt
   split<;>exact N.keeps (e5 x hx) e1 e3 (QZ ..)
  case c=>rw[keys_map_putAt];exact e6
def m_ (ys zs:List (κ×Addr×Value)):List (κ×Addr×Value):=zs.foldl (fun acc x=>storedH acc x.1 x.2.1 x.2.2) ys
def UW(ys:List (κ×Addr×Value))(k:κ)(a:Addr)(v:Value):(storedH ys k a v).length<=ys.length+1:=by
 unfold storedH
 split
 ·rw[Qc];exact JK _
 ·rw[Qm];exact Qh _
theorem HR:∀ (zs ys:List (κ×Addr×Value)),(m_ ys zs).length<=ys.length+zs.length
 | [],ys=>Qh _
 | x::zs,ys=>by
  have h1:=HR zs (storedH ys x.1 x.2.1 x.2.2)
  have h2:=UW ys x.1 x.2.1 x.2.2
  show(m_ (storedH ys x.1 x.2.1 x.2.2) zs).length<=_
  rw[Zb];omega
def UX(ys zs:List (κ×Addr×Value))(x:κ×Addr×Value):m_ ys (zs++[x])=storedH (m_ ys zs) x.1 x.2.1 x.2.2:=by
 unfold m_
 rw[List.foldl_append]
 rfl
def UY{nm:String}{o:Addr}{ys zs:List (κ×Addr×Value)}{Q:Unit->Shared->Prop}(room:N.room A)(ne:d≠o)(so:(o==sysModules)=false)(D:s.heap.DictOfH N d ys)(O:s.heap.DictOfH N o zs)(bK:ys ≠ [])(small:ys.length+zs.length<=sizeLine)
  (q:∀ g,g.DictOfH N d (m_ ys zs)->Heap.SameBut d s.heap g->Q () { s with heap:=g }):wpAny (model P w) A (Builtin.Dict.mergeDict nm d o) Q E s:=by
 obtain⟨od,UZ,epd,d1,d2,d3,d4,d5,d6⟩:=id D
 obtain⟨oo,nc,epo,o1,o2,o3,o4,o5,o6⟩:=id O
 have len:nc.size=zs.length:=YM o4
 unfold Builtin.Dict.mergeDict
 rw[Qi (by simpa using ne)]
 unfold Builtin.Dict.showsAll
 rw[Qi (by rw[so];exact Zd)]
 refine Qa (Qd (Qa (ZL o1 o3 ?_)))
 have loop:wpAny (model P w) A (do
   let e0 <- dictEpoch o
   let U0 <- dictEntries o
   forIn [:U0.size] PUnit.unit fun j (_:PUnit)=>(do
     let qG <- dictEntries o
     match qG[j]? with
      | some en=>do
       holding [en.key,en.val] (dictSetHashed d en.key en.hash en.val);let e1 <- dictEpoch o
       if(e1 != e0)=true then do
         (unsupported (toString nm++toString ":source-changed-during-callback"):Sem PUnit);pure (ForInStep.yield PUnit.unit)else pure (ForInStep.yield PUnit.unit)
      | _=>do
       (unsupported "internal:dict-merge":Sem PUnit);pure (ForInStep.yield PUnit.unit):Sem (ForInStep PUnit))
   pure ()) Q E s:=by
  refine Qa (Yb o1 o3 (Qa (ZL o1 o3 (Qa ?_))))
  rw[JM]
  simp only[Std.Legacy.Range.size,Nat.sub_zero,Nat.add_sub_cancel,Nat.div_one]
  refine JR _ (fun bh _ s'=>∃ g i,s'={ s with heap:=g }/\bh=List.range' i (nc.size-i)/\i<=nc.size/\g.DictOfH N d (m_ ys (zs.take i))/\Heap.SameBut d s.heap g) _ ?_ ?_ _ _ ⟨s.heap,0,rfl,by simp,QL _,by simpa [m_]using D,Heap.SameBut.refl _ _⟩
  ·rintro x bh b s' ⟨g,i,rfl,hr,hi,hd,hs⟩
   have bY:i<nc.size:=by
    rcases VJ i nc.size with h|h
    ·exact h
    ·rw[Nat.sub_eq_zero_of_le h]at hr;simp at hr
   have U1:nc.size-i=(nc.size-(i+1))+1:=by omega
   rw[U1,JS]at hr
   injection hr with h1 h2
   subst h1
   have HS:g.get? o=some oo:=(hs.2 o (Jr ne)).trans o1
   refine Qa (ZL (s:={ s with heap:=g }) HS o3 ?_)
   have hz:zs[x]? = some (zs[x]'(by rw[<- len];exact bY)):=Qb _
   have take1:zs.take (x+1)=zs.take x++[zs[x]'(by rw[<- len];exact bY)]:=by rw[Z3,hz];rfl
   rw[entry_at o4 x,hz]
   have ik:=o5 _ (QK hz)
   generalize zs[x]'(by rw[<- len];exact bY)=y at *
   obtain⟨k,c,v⟩:=y
   have ml:=HR (zs.take x) ys
   have tl:(zs.take x).length<=zs.length:=by rw[Za];omega
   refine Qa (Q9 (UU (s:={ s with heap:=g }) room (N.keeps ik d1 d3 hs) hd (by omega) fun g2 hd2 wV=>?_))
   refine Qa (Yb (s:={ s with heap:=g2 }) ((wV.2 o (Jr ne)).trans HS) o3 ?_)
   rw[Qi (by simp)]
   exact Qd ⟨g2,x+1,rfl,h2,bY,by rw[take1,UX];exact hd2,hs.trans wV⟩
  ·rintro b s' ⟨g,i,rfl,hr,hi,hd,hs⟩
   have jc:i=nc.size:=by
    rcases VJ i nc.size with h|h
    ·rw[show nc.size-i=(nc.size-(i+1))+1 by omega,JS]at hr;exact nomatch hr
    ·exact J9 hi h
   refine Qd (q g ?_ hs)
   rw[jc,len,ZV]at hd;exact hd
 dsimp only
 split
 ·refine Qa (ZL d1 d3 ?_)
  split
  next he=>
   have h0:UZ = #[]:=Array.isEmpty_iff.mp he
   have:=YM d4
   rw[h0]at this
   exact absurd (ZF.mp this.symm) bK
  ·exact loop
 ·exact loop
end
section
variable {P:Program}{w:World}{κ:Type}[DecidableEq κ](N:HeapKind P w κ)(d a:Addr)
def U2(hd:(d==sysModules)=false)(v:Value) :
  MeetsIn P w (Builtin.«dict.setdefault» ⟨[.ref d,.ref a,v],[]⟩) (fun A R s=>N.room A.in1/\∃ k ys,N.is s.heap k a/\s.heap.DictOfH N d ys/\ys.length<=sizeLine/\(∀ p,atKey ys k=some p->R (.ok (.ret p.2)) { s with toks:=s.toks+N.draws k }) /\
   (atKey ys k=none->∀ g,g.DictOfH N d (ys++[(k,a,v)])->Heap.SameBut d s.heap g->R (.ok (.ret v)) { s with heap:=g,toks:=s.toks+N.draws k })):=
 .of_wp fun A R s ⟨room,k,ys,qK,D,small,r1,r2⟩=>by
  unfold Builtin.«dict.setdefault»
  refine Qa ?_
  unfold Builtin.Dict.keyAndDefault
  refine Qa (Ys D.typeIs ?_)
  show wpAny _ _ (pure (d,Value.ref a,some v)) _ _ s
  refine Qd ?_
  show wpAny _ _ (if(d==sysModules)=true then _ else(dictSetDefault d (.ref a) v >>= _)) _ _ s
  rw[Qi (by rw[hd];exact Zd)]
  exact Qa (UT room qK D small (fun p hp=>Qd ⟨p.2,rfl,r1 p hp⟩) fun no g D' hs=>Qd ⟨v,rfl,r2 no g D' hs⟩)
def U3(o:Addr)(bK:d≠o)(ho:(o==sysModules)=false) :
  MeetsIn P w (Builtin.«dict.update» ⟨[.ref d,.ref o],[]⟩) (fun A R s=>N.room A.in1/\∃ ys zs,s.heap.DictOfH N d ys/\s.heap.DictOfH N o zs/\ys ≠ []/\ys.length+zs.length<=sizeLine/\∀ g,g.DictOfH N d (m_ ys zs)->Heap.SameBut d s.heap g->R (.ok (.ret .none)) { s with heap:=g }):=
 .of_wp fun A R s ⟨room,ys,zs,D,O,ne,small,r⟩=>by
  unfold Builtin.«dict.update»
  refine Qa ?_
  unfold Builtin.Dict.selfAndRest
  refine Qa (Ys D.typeIs ?_)
  show wpAny _ _ (pure (d,[Value.ref o])) _ _ s
  refine Qd ?_
  show wpAny _ _ (Builtin.Dict.updateFrom "dict.update" d (.ref o) [] .none) _ _ s
  unfold Builtin.Dict.updateFrom
  refine Qa (VG O.typeIs ?_)
  rw[Qi (by decide)]
  refine Qa ?_
  unfold Builtin.Dict.merge
  refine Qa ?_
  ·unfold Builtin.Dict.readDirectly
   refine Qa (Yx O.typeIs isSubtype_dict_dict ?_)
   simp only[ZX,Qu,Zj]
   refine Qa (YI O.typeIs Yo.lookup (Qd ?_))
   simp only[Ja,Zv]
   refine Qa (Qd (UY room bK ho D O ne small fun g D' hs=>?_))
   show wpAny _ _ (Builtin.Dict.addKeywords d [] >>= _) _ _ _
   exact Qa (Qd (Qd ⟨.none,rfl,r g D' hs⟩))
end
def qL (ai more:List (List Key×V)):List (List Key×V):=more.foldl (fun acc kv=>fm acc kv.1 kv.2) ai
theorem HU:∀ (more ai:List (List Key×V)),(qL ai more).length<=ai.length+more.length
 | [],ai=>Qh _
 | p::r,ai=>by
  have h1:=HU r (fm ai p.1 p.2)
  have h2:=yu ai p.1 p.2
  show(qL (fm ai p.1 p.2) r).length<=_
  rw[Zb];omega
def KT.U4:∀ {more:List (List Key×V)} {zs:List (List Key×Addr×Value)} {ai:List (List Key×V)} {ys:List (List Key×Addr×Value)},KT H more zs->KT H ai ys->KT H (qL ai more) (m_ ys zs):=by
 intro more zs ai ys r
 induction r generalizing ai ys with
 | nil=>intro q;exact q
 | @cons p q ps qs h t ih=>
  intro r0
  obtain⟨h1,h2,h3⟩:=h
  have:=KT.put r0 p.1 h2 h3
  rw[h1]at this
  show KT H (qL (fm ai p.1 p.2) ps) (m_ (storedH ys q.1 q.2.1 q.2.2) qs)
  rw[h1]
  exact ih this
section
variable {X:Cx}{pins:List (Addr×Obj)}{σ:St}{H:Hp}{s:Shared}{a:Addr}{A:Around}{E:Value->Shared->Prop}
def U5{k:List Key}{z:V}{r:Value}(hu:A.units+1<cLine)(I:Inv X pins σ H s)(e:H a=some (.dT ai))(eb:H b=some (.tup (k.map kV)))(hl:ai.length<sizeLine)(rz:bC z r)
  (h1:∀ v u s',fK ai k=some v->Inv X pins σ H s'->bC v u->Q u s') (h2:fK ai k=none->∀ s',Inv X pins σ (upd H a (.dT (ai++[(k,z)]))) s'->Q r s'):wpAny (model X.prog X.w) A (call (.builtin "dict.setdefault") [.ref a,.ref b,r]) Q E s:=by
 obtain⟨zl,hd,xs,rel,dd⟩:=vj I.az e
 have hz:xs.length<=sizeLine:=by rw[<- Jm rel];exact zl
 have rv:=KT.val rel k
 refine Yi YN dd.typeIs PySem.F.entry_dict_setdefault (PySem.F.args_dict_setdefault_3 _ _ _) (U2 (tupleKind (gM X.prog X.w)) a b hd r) ⟨ZT hu,k,xs,rL I.az eb,dd,hz,fun p hp=>?_,fun no g mv hs=>?_⟩
 ·rw[hp]at rv
  cases q:fK ai k with
  | none=>rw[q]at rv;exact False.elim rv
  | some v=>
   rw[q]at rv
   exact h1 v _ _ q (I.tok _) rv
 ·rw[no]at rv
  have q:fK ai k=none:=by
   cases q:fK ai k with
   | none=>rfl
   | some v=>rw[q]at rv;exact False.elim rv
  refine h2 q _ ?_
  obtain⟨o',es,ep,g1,g2,g3,g4,_,g6⟩:=mv
  have put:=KT.put rel k eb rz
  rw[NN _ q,storedH_new no]at put
  refine vk I (by rw[e];exact True.intro) hs ⟨o',g1⟩ ⟨by rw[Qm];exact hl,hd,_,put.keeps fun c ys ec=>?_,o',es,ep,g1,g2,g3,g4,g6⟩
  rw[bc (Aq ec e (fun z=>nomatch z))]
  exact ec
def U6{more:List (List Key×V)}(hu:A.units+1<cLine)(I:Inv X pins σ H s)(e:H a=some (.dT ai))(eb:H b=some (.dT more))(lh:a≠b)(bK:ai ≠ [])(hl:ai.length+more.length<=sizeLine)
  (h:∀ s',Inv X pins σ (upd H a (.dT (qL ai more))) s'->Q .none s'):wpAny (model X.prog X.w) A (call (.builtin "dict.update") [.ref a,.ref b]) Q E s:=by
 obtain⟨zl,hd,xs,rel,dd⟩:=vj I.az e
 obtain⟨_,hd2,zs,w_,Ck⟩:=vj I.az eb
 have lx:ai.length=xs.length:=Jm rel
 have lz:more.length=zs.length:=Jm w_
 refine Yi Vo dd.typeIs PySem.F.entry_dict_update (PySem.F.args_dict_update_2 _ _) (U3 (tupleKind (gM X.prog X.w)) a b lh hd2) ⟨ZT hu,xs,zs,dd,Ck,fun q=>bK (ZF.mp (by rw[lx,q];rfl)),by omega,fun g mv hs=>?_⟩
 refine h _ ?_
 obtain⟨o',es,ep,g1,g2,g3,g4,_,g6⟩:=mv
 refine vk I (by rw[e];exact True.intro) hs ⟨o',g1⟩ ⟨QO (HU more ai) hl,hd,_,(KT.U4 w_ rel).keeps fun c ys ec=>?_,o',es,ep,g1,g2,g3,g4,g6⟩
 rw[bc (Aq ec e (fun z=>nomatch z))]
 exact ec
end
def U7 (td ty tx:TE):TE:=fun σ H Q=>td σ H fun x H1=>∃ a,x=.ref a/\rO H1 a/\ty σ H1 fun y H2=>tx σ H2 fun z H3=>∃ ai k b,H3 a=some (.dT ai)/\y=.ref b/\H3 b=some (.tup (k.map kV))/\ai.length<sizeLine/\(∀ v,fK ai k=some v->Q v H3)/\(fK ai k=none->Q z (upd H3 a (.dT (ai++[(k,z)]))))
def U8 (td te:TE):TE:=fun σ H Q=>td σ H fun x H1=>∃ a,x=.ref a/\rO H1 a/\te σ H1 fun y H2=>∃ ai more b,y=.ref b/\H2 a=some (.dT ai)/\H2 b=some (.dT more)/\a≠b/\ai ≠ []/\ai.length+more.length<=sizeLine/\Q .aK (upd H2 a (.dT (qL ai more)))
section
variable {X:Cx}{o e f:Expr}{apos ak:Pos}{td ty tx:TE}
def U9(hu:X.A.units+1<cLine)(ho:PE X o td)(he:PE X e ty)(hf:PE X f tx)(m:M2 X o "setdefault" apos e f ak):PE X (.Call (.Attribute o "setdefault" apos) [e,f] [] ak) (U7 td ty tx):=by
 intro pins s σ H Q I h
 refine Yj m.base m.di m.line Js YN PySem.F.type_dict_setdefault (aV (ho pins s σ H _ I h) fun u s1 ah=>?_)
 obtain⟨x,H1,I1,rx,a,ex,d,q1⟩:=ah
 subst ex
 obtain rfl:u=Value.ref a:=rx
 obtain⟨t1,t2,_⟩:=yw I1 d
 refine⟨t1,t2,?_⟩
 rw[m.trees]
 refine Z8 rfl (ZY (ZC (aV (he pins s1 σ H1 _ I1 q1) fun iv s2 ⟨y,H2,I2,ry,q2⟩=>
  ZC (aV (hf pins s2 σ H2 _ I2 q2) fun fv s3 U_=>Jh ?_))))
 obtain⟨z,H3,I3,rz,ai,k,b,e1,ey,e2,hl,k1,k2⟩:=U_
 subst ey
 obtain rfl:iv=Value.ref b:=ry
 exact U5 hu I3 e1 e2 hl rz (fun v u s' q I' ru=>⟨v,H3,I',ru,k1 v q⟩) fun q s' I'=>⟨z,_,I',rz,k2 q⟩
def V_(hu:X.A.units+1<cLine)(ho:PE X o td)(he:PE X e ty)(m:M1 X o "update" apos e ak):PE X (.Call (.Attribute o "update" apos) [e] [] ak) (U8 td ty):=by
 intro pins s σ H Q I h
 refine Yj m.base m.di m.line Js Vo PySem.F.type_dict_update (aV (ho pins s σ H _ I h) fun u s1 ah=>?_)
 obtain⟨x,H1,I1,rx,a,ex,d,q1⟩:=ah
 subst ex
 obtain rfl:u=Value.ref a:=rx
 obtain⟨t1,t2,_⟩:=yw I1 d
 refine⟨t1,t2,?_⟩
 rw[m.trees]
 refine Z8 rfl (ZY (ZC (aV (he pins s1 σ H1 _ I1 q1) fun iv s2 Wa=>Jh ?_)))
 obtain⟨y,H2,I2,ry,ai,more,b,ey,e1,e2,lh,bK,hl,q2⟩:=Wa
 subst ey
 obtain rfl:iv=Value.ref b:=ry
 exact U6 hu I2 e1 e2 lh bK hl fun s' I'=>⟨.aK,_,I',rfl,q2⟩
end
section
variable {X:Cx}
def Wb(hc:X.calm=true):jM X (.type "list") (fun xs H Q=>∃ t ai,xs=[.ref t]/\H t=some (.dT ai)/\ai.length<=1000 /\
  ∀ (p:Addr) (bs:List Addr),H p=none->bs.length=ai.length->(∀ (i:Nat) (b:Addr),bs[i]? = some b->∃ k v,ai[i]? = some (k,v)/\H b=some (.tup (k.map kV)))->Q (.ref p) (upd H p (.lst (bs.map V.ref)))):=by
 intro pins s σ H xs us Q I r hh
 obtain⟨t,ai,rfl,hq,di,q⟩:=hh
 obtain⟨u,rfl,ru⟩:=lN r
 cases ru
 obtain⟨_,lo,zs,kt,o,es,ep,ho,hx,hd,he,_,_⟩:=vj I.az hq
 have lz:ai.length=zs.length:=Jm kt
 have len:es.size=zs.length:=by rw[<- QU,he,Qc]
 refine kdl_call (UM lo hx.1 hd) (I.ok.hd hc) ho (V4 (by rw[len,<- lz];omega)) fun h' tk acc c hk hg hit=>?_
 obtain⟨hn,cN⟩:=hit
 have ea:acc.toList=(zs.map (·.2.1)).map Value.ref:=by
  apply ZK
  intro i
  rw[Qk,Qk,Ze]
  by_cases hi:i<zs.length
  ·have h1:acc[i]? = some (acc[i]'(by rw[hn,len];exact hi)):=Q7 _
   obtain⟨e',q1,q2⟩:=cN i _ h1
   rw[<- Ze,he,Qk,Qb hi]at q1
   cases q1
   rw[h1,q2,Qb hi]
   rfl
  ·rw[Q3 (Y3.mp hi),Z9 (by rw[hn,len];exact Y3.mp hi)]
   rfl
 refine⟨.ref s.heap.objs.size,_,I.laid (a:=s.heap.objs.size) (o:=.lst ((zs.map (·.2.1)).map V.ref)) (t':=tk) hk (Qh _) ⟨V4 (by rw[Qc,Qc];omega),(zs.map (·.2.1)).map Value.ref,c,zw _,?_⟩,rfl,q _ (zs.map (·.2.1)) (I.az.fresh (Qh _)) (by rw[Qc];exact lz.symm) fun i b hb=>?_⟩
 ·rw[<- ea]
  exact hg
 ·rw[Qk,Qx]at hb
  obtain⟨y,hy,rfl⟩:=hb
  have key:∀ {ai:List (List Key×V)} {zs:List (List Key×Addr×Value)},KT H ai zs->∀ (i:Nat) y,zs[i]? = some y->∃ k v,ai[i]? = some (k,v)/\H y.2.1=some (.tup (k.map kV)):=by
   intro ai zs r
   induction r with
   | nil=>intro i y h;simp at h
   | @cons p q ps qs h t ih=>
    intro i y hy
    cases i with
    | zero=>cases hy;exact⟨p.1,p.2,rfl,h.2.1⟩
    | succ i=>exact ih i y hy
  exact key kt i y hy
end
def kD:Key->D
 | .inl i=>.int i
 | .inr x=>.str x
def zG (k:List Key):D:=.tup (k.map kD)
section
variable {K:PySem.W.Frag}{H:Hp}{w:Wn}{o:Ow}
def Wc(k:Key):Rep K H w o 0 (kD k) (kV k) []:=by
 cases k with
 | inl i=>exact .int i
 | inr x=>exact .str x
theorem HV:∀ k:List Key,af K H w o 0 (k.map kD) (k.map kV) []
 | []=>.nil
 | k::ks=>.m9 (Wc k) (HV ks)
theorem HW:∀ {ks:List (List Key)} {bs:List Addr},bs.length=ks.length->(∀ (i:Nat) (b:Addr) (k:List Key),bs[i]? = some b->ks[i]? = some k->H b=some (.tup (k.map kV)))->af K H w o 0 (ks.map zG) (bs.map V.ref) []
 | [],[],_,_=>.nil
 | k::ks,b::bs,h,e=>.m9 (.tup (e 0 b k rfl rfl) (HV k)) (HW (JC h) fun i c l h1 h2=>e (i+1) c l h1 h2)
end
def ng (acc:List (List Key)×List D)(x:List Key×D):List (List Key)×List D:=if kE acc.1 x.1=true then(acc.1,iS acc.1 acc.2 x.1 x.2)else(acc.1++[x.1],acc.2++[x.2])
def lZ (ks:List (List Key))(ds:List D)(cb:List (List Key))(cx:List D):List (List Key)×List D:=(cb.zip cx).foldl ng (ks,ds)
def Wd{acc:List (List Key)×List D}{x:List Key×D}(h:acc.1.length=acc.2.length):(ng acc x).1.length=(ng acc x).2.length:=by
 unfold ng
 split
 ·exact h.trans (zA x.1 x.2 h).symm
 ·show(acc.1++[x.1]).length=(acc.2++[x.2]).length
  rw[Qm,Qm,h];rfl
theorem We:∀ {cb:List (List Key)} {cx:List D} {eS:List V} {ks:List (List Key)} {ds:List D} {vs:List V},cb.length=cx.length->af K H w o 0 cx eS []->ks.length=ds.length->af K H w o 0 ds vs []->
  ∃ us,qL (ks.zip vs) (cb.zip eS)=(lZ ks ds cb cx).1.zip us/\(lZ ks ds cb cx).1.length=(lZ ks ds cb cx).2.length/\af K H w o 0 (lZ ks ds cb cx).2 us []:=by
 intro cb
 induction cb with
 | nil=>intro cx eS ks ds vs _ _ hl r;exact⟨vs,rfl,hl,r⟩
 | cons k cb ih=>
  intro cx eS ks ds vs ig r' hl r
  cases cx with
  | nil=>cases ig
  | cons d cx=>
   obtain⟨v,Wf,rfl,r1,s1⟩:=r'.split
   have lv:=r.length
   have e:fm (ks.zip vs) k v=(ng (ks,ds) (k,d)).1.zip (if kE ks k=true then iS ks vs k v else vs++[v])/\af K H w o 0 (ng (ks,ds) (k,d)).2 (if kE ks k=true then iS ks vs k v else vs++[v]) []:=by
    rw[Dh k v ks vs (by omega)]
    unfold ng
    by_cases hk:kE ks k=true
    ·rw[Qf hk,Qf hk,Qf hk]
     exact⟨rfl,zC k r1 r⟩
    ·rw[Qi hk,Qi hk,Qi hk]
     exact⟨rfl,af.snoc (F:=[]) (G:=[]) r1 r nM⟩
   obtain⟨us,u1,u2,u3⟩:=ih (JC ig) s1 (Wd (acc:=(ks,ds)) (x:=(k,d)) hl) e.2
   refine⟨us,?_,u2,u3⟩
   show qL (fm (ks.zip vs) k v) (cb.zip Wf)=_
   rw[e.1]
   exact u1
def sP (i:Nat)(fk fz:aB):aB:=fun ρ=>if dz ρ[i]? = true then match fk ρ with
 | some (x,_,ρ1)=>match fz ρ1 with
  | some (z,_,ρ2)=>match ρ2[i]? with
   | some (some (.mp (.t ks) ds,1))=>if ds.length<1000 then match ux x with
    | some y=>match vL ks ds y with
     | some d=>some (d,gY d,ρ2)
     | none=>some (z,gY z,ρ2.set i (some (.mp (.t (ks++[y])) (ds++[z]),1)))
    | none=>none
    else none
   | _=>none
  | none=>none
 | none=>none
 else none
def zH (i j:Nat):aB:=fun ρ=>match ρ[i]? with
 | some (some (.mp (.t ks) ds,1))=>match ρ[j]? with
  | some (some (.mp (.t cb) cx,_))=>if i≠j/\ds ≠ []/\ds.length<=400/\cx.length<=400 then some (.aK,9,ρ.set i (some (.mp (.t (lZ ks ds cb cx).1) (lZ ks ds cb cx).2,1)))else none
  | _=>none
 | _=>none
def uz (i:Nat):aB:=fun ρ=>match ρ[i]? with
 | some (some (.mp (.t ks) ds,_))=>if ks.length<=1000 then some (.lst (ks.map zG),1,ρ)else none
 | _=>none
def zI (fa:aB)(i:Nat):aB:=fun ρ=>match fa ρ with
 | some (x,_,ρ1)=>match ρ1[i]? with
  | some (some (.mp k ds,_))=>match pj k ds x with
   | some r=>some (.bl (!r.isSome),9,ρ1)
   | none=>none
  | _=>none
 | none=>none
def zJ (i:Nat):aN:=fun ρ=>match ρ[i]? with
 | some (some (d,q))=>some (.rt d q)
 | _=>none
def j78 (fa:aB):aB:=fun ρ=>match fa ρ with
 | some (.mp (.t ks) ds,_,ρ1)=>match HP ks with
  | some kp=>if kp.length<64 then some (.lst ((lu kp).map av),1,ρ1)else none
  | none=>none
 | _=>none
def xa (fo fk:aB):aB:=fun ρ=>match fo ρ with
 | some (.mp (.t ks) ds,_,ρ1)=>match fk ρ1 with
  | some (x,_,ρ2)=>match pj (.t ks) ds x with
   | some r=>some (r.getD .aK,gY (r.getD .aK),ρ2)
   | none=>none
  | none=>none
 | _=>none
section
variable {X:Cx}{a b c e:Expr}{fa fb fc f:aB}{p p1 p2 pos pos' ak apos:Pos}{x y:Str}{i j:Nat}
def Wg{k:Nat}(hr:aS k X.A)(h:QE X (.Name x p1) (eR i))(hk:QD X b fb)(hz:QD X c fc)(bE:attributeBase (.Name x p1) "setdefault" X.env (eval (.Name x p1) X.env)=eval (.Name x p1) X.env:=by rfl)(cJ:((backTo ak (starEach [b,c] X.env)).all (fun x=>!x.1)&&(backToKw ak (keywordEach [] X.env)).all (fun x=>x.1.isSome)
   && decide (([b,c]:List Expr).length+([]:List Keyword).length+(if([]:List Keyword).isEmpty then 0 else 1)<30))=true:=by rfl) (bF:(apos.endLine==ak.line)=true:=by rfl) (sv:backTo ak (starEach [b,c] X.env)=[(false,eval b X.env),(false,eval c X.env)]:=by rfl):QD X (.Call (.Attribute (.Name x p1) "setdefault" apos) [b,c] [] ak) (sP i fb fc):=⟨have h:=h.o;have hk:=hk.o;have hz:=hz.o;PE.imp (U9 (rG hr) h hk hz ⟨bE,cJ,bF,sv⟩) fun σ H Q ah=>by
 obtain⟨ρ,w,t,r',q,ρ',gd,ee,kk⟩:=ah
 unfold sP at ee
 split at ee
 next hd=>
  obtain⟨l,cL,Wh⟩:=gd.dz hd
  split at ee
  next x0 q1 ρ1 h1=>
   split at ee
   next z0 q3 ρ2 h2=>
    split at ee
    next ks ds e1=>
     split at ee
     next di=>
      split at ee
      next y0 hy=>
       refine⟨_,cL,l,rfl,Wh,ρ,w,t,_,_,_,gd,h1,fun y H1 w1 F1 g1 aF r1=>⟨ρ1,w1,t+1,_,_,_,g1,h2,fun zv H2 w2 F2 g2 bj r2=>?_⟩⟩
       have gg:=g2.drop (t':=t)
       obtain⟨l',vs,z,cC,hH,gX,hlen,rs,mk⟩:=gg.sO e1
       rw[cL]at cC
       cases cC
       cases gX
       have hlen:ks.length=ds.length:=hlen
       have lv:=rs.length
       obtain⟨b0,rfl,Wi⟩:=Dj hy (r1.gone g1.wl bj)
       have rz:=r2.drop (o:=.f) (t':=t) (by omega)
       obtain⟨v1,v2⟩:=zB y0 (ks:=ks) rs
       refine⟨_,y0,b0,hH,rfl,Wi,by rw[Z5,<- lv,hlen,JB];exact lP (ZG di),fun v hv=>?_,fun hv=>?_⟩
       ·rw[wY]at hv
        split at ee
        next d ic=>
         cases ee
         obtain⟨v',e',rd⟩:=v1 _ ic
         rw[e']at hv
         cases hv
         exact kZ kk gd g2 (aF.trans bj) (rd.any gg.wl).i6
        next hn=>
         rw[v2 hn]at hv
         cases hv
       ·rw[wY]at hv
        split at ee
        next d ic=>
         obtain⟨v',e',rd⟩:=v1 _ ic
         rw[e']at hv
         cases hv
        ·cases ee
         obtain⟨m1,m2⟩:=mk (.t (ks++[y0])) (ds++[r']) (vs++[zv]) (.dT ((ks++[y0]).zip (vs++[zv]))) rfl (by show(ks++[y0]).length=_;rw[Qm,Qm,hlen];rfl) (af.snoc (F:=[]) (G:=[]) rz rs nM)
         rw[VM (by omega)]at m1 m2
         have zc:Rep X.K _ _ (.t t) 0 r' zv []:=Rep.go gg.wl m2.bA rz nM
         exact kk zv _ _ [] m1.up (((aF.trans bj).drop gd.wt).trans m2) zc.i6
      ·cases ee
     ·cases ee
    ·cases ee
   ·cases ee
  ·cases ee
 ·cases ee⟩
def Wj{k:Nat}(hr:aS k X.A)(h:QE X (.Name x p1) (eR i))(h':QE X (.Name y p2) (eR j))(bE:attributeBase (.Name x p1) "update" X.env (eval (.Name x p1) X.env)=eval (.Name x p1) X.env:=by rfl)(cJ:((backTo ak (starEach [.Name y p2] X.env)).all (fun x=>!x.1)&&(backToKw ak (keywordEach [] X.env)).all (fun x=>x.1.isSome)
   && decide (([.Name y p2]:List Expr).length+([]:List Keyword).length+(if([]:List Keyword).isEmpty then 0 else 1)<30))=true:=by rfl) (bF:(apos.endLine==ak.line)=true:=by rfl) (sv:backTo ak (starEach [.Name y p2] X.env)=[(false,eval (.Name y p2) X.env)]:=by rfl):QD X (.Call (.Attribute (.Name x p1) "update" apos) [.Name y p2] [] ak) (zH i j):=⟨have h:=h.o;have h':=h'.o;PE.imp (V_ (rG hr) h h' ⟨bE,cJ,bF,sv⟩) fun σ H Q ah=>by
 obtain⟨ρ,w,t,r',q,ρ',gd,ee,kk⟩:=ah
 unfold zH at ee
 split at ee
 next ks ds e1=>
  split at ee
  next cb cx q2 e2=>
   split at ee
   next hc=>
    cases ee
    obtain⟨l,vs,z,cL,hH,gX,hlen,rs,mk⟩:=gd.sO e1
    cases gX
    have hlen:ks.length=ds.length:=hlen
    have lv:=rs.length
    obtain⟨v',F',s1,s2⟩:=gd.slot j _ _ e2
    obtain⟨l',eS,z',rfl,Dp,sQ,kG,mM⟩:=s2.pq
    cases sQ
    have kG:cb.length=cx.length:=kG
    have Wl:=mM.length
    have bK:l≠l':=fun q=>by
     subst q
     obtain⟨v1,F1,t1,t2⟩:=gd.slot i _ _ e1
     rw[cL]at t1
     cases t1
     have w1:w l=some (.s i):=t2.aC l (by cases t2;exact Qr.mpr rfl)
     cases s2 with
     | nO _ _ hn _ _=>rw[hn]at w1;cases w1
     | kW _ _ hw _ _=>rw[hw]at w1;cases w1;exact hc.1 rfl
    refine⟨_,cL,l,rfl,.inr ⟨_,.inl hH⟩,_,s1,_,_,l',rfl,hH,Dp,bK,fun q=>?_,?_,?_⟩
    ·have:(ks.zip vs).length=0:=by rw[q];rfl
     rw[Z5,<- lv,hlen,JB]at this
     exact hc.2.1 (ZF.mp this)
    ·rw[Z5,Z5,<- lv,<- Wl,hlen,kG,JB,JB]
     exact ZG (lP (by omega))
    ·obtain⟨us,u1,u2,u3⟩:=We kG (mM.any gd.wl) hlen rs
     rw[u1]
     obtain⟨m1,m2⟩:=mk (.t (lZ ks ds cb cx).1) _ us _ rfl u2 u3
     exact kk .aK _ w [] m1.up m2 .aK
   ·cases ee
  ·cases ee
 ·cases ee⟩
def HX(hc:X.calm=true)(hm:X.mg "list" = none)(hb:bootBuiltins "list" = some (.type "list"))(h:QE X (.Name x p1) (eR i))(hg:Gl X "list":=by rfl)(he:starEach [.Name x p1] X.env=(false,eval (.Name x p1) X.env)::starEach [] X.env:=by rfl)(cu:(backTo pos (starEach [] X.env)).any (·.1)=false:=by rfl):QD X (.Call (.Name "list" p) [.Name x p1] [] pos) (uz i):=⟨have h:=h.o;PE.imp (tV (Wb hc) hg hm hb (gp h jO he) (by decide) (by decide) he cu) fun σ H Q ah=>by
 obtain⟨ρ,w,t,r',q,ρ',gd,ee,k⟩:=ah
 unfold uz at ee
 split at ee
 next ks ds q0 e0=>
  split at ee
  next hl=>
   cases ee
   obtain⟨l,vs,z,cL,hH,gX,hlen,rs⟩:=gd.kF e0
   cases gX
   have hlen:ks.length=ds.length:=hlen
   have lv:=rs.length
   have lz:(ks.zip vs).length=ks.length:=by rw[Z5,<- lv,hlen,JB]
   refine⟨_,cL,l,_,rfl,hH,by rw[lz];exact hl,fun p bs hp lb CV=>?_⟩
   obtain⟨a1,a2,a3⟩:=oJ gd hp (HW (by rw[lb,lz]) fun n b k h1 h2=>by
    obtain⟨k',v',e1,e2⟩:=CV n b h1
    have:((ks.zip vs).map (·.1))[n]? = some k':=by rw[Qk,e1];rfl
    rw[List.map_fst_zip (by omega),h2]at this
    cases this
    exact e2)
   exact k _ _ _ _ a1 a2 a3
  ·cases ee
 ·cases ee⟩
def Wm{k:Nat}(hr:aS k X.A)(ha:QD X a fa)(hb:QE X (.Name x p1) (eR i))(hm:behindInMarks .NotIn (.Name x p1)=false:=by with_unfolding_all rfl):f_ X (.Compare a [.NotIn] [.Name x p1] pos) (a_ (zI fa i)):=⟨have ha:=ha.o;have hb:=hb.o;PT.imp (LV (NY (rG hr) ha hb) hm) fun σ H Q ah=>by
 obtain⟨ρ,w,t,b',ρ',gd,ee,k⟩:=ah
 unfold a_ zI at ee
 split at ee
 next b2 q2 ρ2 e0=>
  cases ee
  split at e0
  next x0 q0 ρ1 h1=>
   split at e0
   next k0 ds q1 e1=>
    split at e0
    next r hg=>
     cases e0
     refine⟨ρ,w,t,_,_,_,gd,h1,fun v H1 w1 F g1 aF r1=>?_⟩
     have gg:=g1.drop (t':=t)
     obtain⟨l,vs,z,cL,hH,gX,_,rs⟩:=gg.kF e1
     obtain⟨rv,dg,v1,v2⟩:=Dk hH gX rs r1 hg
     refine⟨_,cL,l,rv,rfl,dg,_,rfl,?_⟩
     have:rv.isSome=r.isSome:=by
      cases r with
      | none=>rw[v2 rfl];rfl
      | some d=>obtain⟨v',rfl,_⟩:=v1 d rfl;rfl
     rw[this]
     exact k H1 _ gg (aF.drop gd.wt)
    ·cases e0
   ·cases e0
  ·cases e0
 ·cases ee⟩
def HY(h:QE X (.Name x p1) (eR i)):jA X (.Return (some (.Name x p1)) pos) (zJ i):=⟨have h:=h.o;PS.imp (ED h) fun Dn σ H ah=>by
 obtain⟨ρ,w,o,gd,ee,k⟩:=ah
 unfold zJ at ee
 split at ee
 next d q e=>
  cases ee
  obtain⟨v,F,h1,h2⟩:=gd.slot i _ _ e
  refine⟨v,h1,?_⟩
  have ow:=h2.aC
  have st:de H w H (fun a=>if a∈F then some (.t 0)else w a):=fun a x e n=>⟨sm e,by
   show(if a∈F then _ else _)=_
   rw[Qi fun m=>by rw[ow a m]at n;cases n]
   exact n⟩
  refine k v H (fun a=>if a∈F then some (.t 0)else w a) F ⟨fun a o e=>?_,gd.wl.tb⟩ ⟨st,fun a o e bK=>⟨rfl,?_⟩⟩ (Rep.go gd.wl st h2 fun a m=>⟨rfl,Qf m⟩)
  ·have e:(if a∈F then some (Ow.t 0)else w a)=some o:=e
   split at e
   ·rename_i m;exact gd.wl a _ (ow a m)
   ·exact gd.wl a _ e
  ·show(if a∈F then _ else _)=_
   rw[Qi fun m=>by rw[ow a m]at e;cases e;exact bK i rfl]
   exact e
 ·cases ee⟩
def Wo{k:Nat}(hr:aS k X.A)(ho:QD X a fa)(hk:QD X b fb)(bE:attributeBase a "get" X.env (eval a X.env)=eval a X.env:=by rfl)(cJ:((backTo ak (starEach [b] X.env)).all (fun x=>!x.1)&&(backToKw ak (keywordEach [] X.env)).all (fun x=>x.1.isSome)
   && decide (([b]:List Expr).length+([]:List Keyword).length+(if([]:List Keyword).isEmpty then 0 else 1)<30))=true:=by rfl) (bF:(apos.endLine==ak.line)=true:=by rfl) (sv:backTo ak (starEach [b] X.env)=[(false,eval b X.env)]:=by rfl):QD X (.Call (.Attribute a "get" apos) [b] [] ak) (xa fa fb):=⟨have ho:=ho.o;have hk:=hk.o;PE.imp (Oc (rG hr) ho hk ⟨bE,cJ,bF,sv⟩) fun σ H Q ah=>by
 obtain⟨ρ,w,t,r',q,ρ',gd,ee,kk⟩:=ah
 unfold xa at ee
 split at ee
 next ks ds q1 ρ1 h1=>
  split at ee
  next x0 q2 ρ2 h2=>
   split at ee
   next r hg=>
    cases ee
    refine⟨ρ,w,t,_,_,_,gd,h1,fun v H1 w1 F1 g1 aF r1=>?_⟩
    obtain⟨l,vs,z,rfl,hH,gX,hl,rs⟩:=r1.pq
    have Dq:=gX
    cases Dq
    refine⟨l,rfl,.inr ⟨_,.inl hH⟩,ρ1,w1,t+1,_,_,_,g1,h2,fun y H2 w2 F2 g2 bj r2=>?_⟩
    have vX:=(r1.gone g1.wl bj).drop (o:=.t t) (t':=t) (Qh t)
    obtain⟨l',eS,z',el,Dp,sQ,ig,mM⟩:=vX.pq
    cases el
    obtain⟨rv,dg,v1,v2⟩:=Dk Dp sQ mM r2 hg
    refine⟨rv,dg,?_⟩
    cases r with
    | none=>
     rw[v2 rfl]
     exact kZ kk gd g2 (aF.trans bj) .aK
    | some d=>
     obtain⟨v,rfl,rd⟩:=v1 d rfl
     exact kZ kk gd g2 (aF.trans bj) rd.i6
   ·cases ee
  ·cases ee
 ·cases ee⟩
end
def Rep.Dr(hl:H l=some z)(hz:(∀ xs,z ≠ .lst xs)/\∀ ob u,z ≠ .eE ob u)(n:∀ a,a≠l->w a=none->w' a=none):∀ {q:Nat} {d:D} {v:V} {F:List Addr},Rep K H w o q d v F->gO d=true->(∀ a∈F,w' a=some o')->Rep K H w' o' q d v F:=by
 intro q d v F r
 refine Rep.rec (motive_1:=fun q d v F _=>gO d=true->(∀ a∈F,w' a=some o')->Rep K H w' o' q d v F) (motive_2:=fun q ds vs F _=>kn ds=true->(∀ a∈F,w' a=some o')->af K H w' o' q ds vs F) ?_ ?_ ?_ ?_ ?_ ?_ ?_ ?_ ?_ ?_ ?_ ?_ ?_ ?_ ?_ r
 ·intro q _ _;exact .aK
 ·intro q b _ _;exact .bl b
 ·intro q i _ _;exact .int i
 ·intro q x _ _;exact .str x
 ·intro q a vs ds h r ih hn _;exact .tup h (ih (by unfold gO at hn;exact hn) nM)
 ·intro q a ks vs ds h e r ih hn _;cases hn
 ·intro q a nm ob u h x n hn _;cases hn
 ·intro q f c fo oc u u' vs ds h1 h2 x r ih hn _;cases hn
 ·intro a vs ds h r ih hn _;exact .kl h (ih (by unfold gO at hn;exact hn) nM)
 ·intro a vs ds h e r ih hn _
  refine .shr h (n a (fun q=>?_) e) (ih (by unfold gO at hn;exact hn) nM)
  subst q
  rcases h with h|⟨ob,h⟩
  ·rw[hl]at h;exact hz.1 _ (QF h)
  ·rw[hl]at h;exact hz.2 _ _ (QF h)
 ·intro q a vs ds F h e r ne ih hn k;exact .own h (k _ Ql) (ih (by unfold gO at hn;exact hn) fun a m=>k a (Qj _ m)) ne
 ·intro a vs ds k x h i e l r ih hn _;cases hn
 ·intro q a vs ds k x h i e l r ih hn _;cases hn
 ·intro q _ _;exact .nil
 ·intro q d v ds vs F G r s ne kX kY hn k
  unfold kn at hn
  exact .cons (kX (QX.mp hn).1 fun a m=>k a (Qz _ m)) (kY (QX.mp hn).2 fun a m=>k a (Qp _ m)) ne
def zK:Nat->D->Bool
 | 0,d=>gO d
 | _+1,.mp _ ds=>kn ds
 | _+1,d=>gO d
def Rep.Ds(hl:H l=some z)(hz:(∀ xs,z ≠ .lst xs)/\∀ ob u,z ≠ .eE ob u)(n:∀ a,a≠l->w a=none->w' a=none)(r:Rep K H w o q d v F)(hd:zK q d=true)(k:∀ a∈F,w' a=some o'):Rep K H w' o' q d v F:=by
 cases q with
 | zero=>exact Rep.Dr hl hz n r hd k
 | succ q=>
  cases d with
  | mp mk ds=>
   cases r with
   | kW h i e le rs=>
    refine .kW h i (k _ (Qr.mpr rfl)) le ?_
    have hd:kn ds=true:=hd
    have key:∀ {ds:List D} {vs:List V},kn ds=true->af K H w o 0 ds vs []->af K H w' o' 0 ds vs []:=by
     intro ds
     induction ds with
     | nil=>intro vs _ r;rw[r.ph];exact .nil
     | cons d ds ih=>
      intro vs hn r
      obtain⟨v,us,rfl,r1,s⟩:=r.split
      unfold kn at hn
      exact .m9 (Rep.Dr hl hz n r1 (QX.mp hn).1 nM) (ih (QX.mp hn).2 s)
    exact key hd rs
  | _=>exact Rep.Dr hl hz n r hd k
def Wp{H':Hp}{t:Nat}{Fo:List Addr}(g:Good K ρ σ H w t)(hl:H l=some z)(hw:w l=some (.s i))(hz:(∀ xs,z ≠ .lst xs)/\(∀ ob u,z ≠ .eE ob u))(Wq:oH z=false)
  (go:Go H (fun a=>if a=l then none else(w a).map fun _=>Ow.f) H' w') (nP:WL K w' H') (r:Rep K H' w' (.t 0) q d v Fo) (hd:zK q d=true) :
  Good K ρ σ H' (fun a=>if a∈Fo then some (.t t)else w a) (t+1)/\Go H w H' (fun a=>if a∈Fo then some (.t t)else w a)/\Rep K H' (fun a=>if a∈Fo then some (.t t)else w a) (.t t) q d v Fo:=by
 obtain⟨s1,s2⟩:=go.bA l z hl (Qf rfl)
 have ig:H' l=some z:=s1.eq Wq
 have kf:∀ a o,w a=some o->H' a=H a:=fun a o e=>by
  by_cases ha:a=l
  ·rw[ha,ig,hl]
  ·exact(go.keep a .f (by show(if a=l then none else(w a).map _)=_;rw[Qi ha,e];rfl) (fun _ z=>nomatch z)).1
 have kw:∀ a o,w a=some o->a≠l->w' a=some .f:=fun a o e ha=>(go.keep a .f (by show(if a=l then none else(w a).map _)=_;rw[Qi ha,e];rfl) (fun _ z=>nomatch z)).2
 have nf:∀ a x,H a=some x->a ∉ Fo:=fun a x e m=>by
  have h1:=r.aC a m
  by_cases ha:a=l
  ·rw[ha,s2]at h1;cases h1
  ·cases ew:w a with
   | none=>
    have:=(go.bA a x e (by show(if a=l then none else(w a).map _)=_;rw[Qi ha,ew];rfl)).2
    rw[h1]at this;cases this
   | some o=>rw[kw a o ew ha]at h1;cases h1
 have nw:∀ a o,w a=some o->a ∉ Fo:=fun a o e=>by obtain⟨vs,q⟩:=g.wl a o e;exact nf a _ q
 have st:de H w H' (fun a=>if a∈Fo then some (.t t)else w a):=fun a x e n=>by
  have ha:a≠l:=fun q=>by rw[q,hw]at n;cases n
  refine⟨(go.bA a x e (by show(if a=l then none else(w a).map _)=_;rw[Qi ha,n];rfl)).1,?_⟩
  show(if a∈Fo then _ else _)=_
  rw[Qi (nf a x e)];exact n
 have wv:∀ a o,(if a∈Fo then some (Ow.t t)else w a)=some o->(a∈Fo/\o=.t t)\/w a=some o:=fun a o e=>by
  split at e
  ·cases e;exact .inl ⟨by assumption,rfl⟩
  ·exact .inr e
 refine⟨⟨⟨fun a o e=>?_,nP.tb⟩,fun a i e=>?_,fun a i e=>?_,g.len,fun i d q e=>?_⟩,⟨st,fun a o e _=>⟨kf a o e,by show(if a∈Fo then _ else _)=_;rw[Qi (nw a o e)];exact e⟩⟩,?_⟩
 ·rcases wv a o e with⟨m,_⟩|z
  ·exact nP a _ (r.aC a m)
  ·obtain⟨vs,h⟩:=g.wl a o z
   exact⟨vs,(kf a o z).trans h⟩
 ·rcases wv a _ e with⟨_,z⟩|z
  ·cases z
  ·exact g.ws a i z
 ·rcases wv a _ e with⟨_,z⟩|z
  ·cases z;exact Zq _
  ·exact Zc (g.wt a i z)
 ·obtain⟨v,F,h1,h2⟩:=g.slot i d q e
  refine⟨v,F,h1,Rep.go g.wl st h2 fun a m=>⟨kf a _ (h2.aC a m),?_⟩⟩
  show(if a∈Fo then _ else _)=_
  rw[Qi (nw a _ (h2.aC a m))]
  exact h2.aC a m
 ·refine Rep.Ds ig hz (fun a ha n=>?_) r hd fun a m=>Qf m
  show(if a∈Fo then _ else _)=_
  rw[Qi (fun m=>by have:=r.aC a m;rw[n]at this;cases this)]
  cases ew:w a with
  | none=>rfl
  | some o=>have:=kw a o ew ha;rw[n]at this;cases this
def xf (F:List D->OD)(i:Nat)(f0 f2:aB):aB:=fun ρ=>match f0 ρ with
 | some (d0,_,kH)=>if dz kH[i]? = true then match f2 kH with
  | some (d2,_,ρ2)=>match ρ2[i]? with
   | some (some (.mp k ds,1))=>match F [d0,.mp k ds,d2]with
    | some (r,q)=>if zK q r=true then some (r,q,ρ2)else none
    | none=>none
   | _=>none
  | none=>none
  else none
 | none=>none
section
variable {X:Cx}{a b c e:Expr}{fa fb fc f:aB}{p p1 p2 pos pos' ak apos:Pos}{x y:Str}{i j:Nat}
def MK.Wr{k:MK}(h:k.Is K vs z):(∀ xs,z ≠ .lst xs)/\∀ ob u,z ≠ .eE ob u:=by
 cases k with
 | t ks=>cases h;exact⟨(fun _ z=>nomatch z),(fun _ _ z=>nomatch z)⟩
 | k ks=>cases h;exact⟨(fun _ z=>nomatch z),(fun _ _ z=>nomatch z)⟩
 | i C fs=>obtain⟨dx,rfl,_⟩:=h;exact⟨(fun _ z=>nomatch z),(fun _ _ z=>nomatch z)⟩
def Ws{j k:Nat}{F:List D->OD}(C:aI X.prog X.w X.K X.mg X.base k x 3 F)(hr:aS j X.A)(hk:k<=j)(ha:QD X a fa)(hv:QE X (.Name y p1) (eR i))(hc:QD X c fc)(hg:Gl X x:=by rfl)(gU:(x==("__debug__":Str))=false:=by decide)(s0:starEach [a,.Name y p1,c] X.env=(false,eval a X.env)::starEach [.Name y p1,c] X.env:=by rfl)(s1:starEach [.Name y p1,c] X.env=(false,eval (.Name y p1) X.env)::starEach [c] X.env:=by rfl)(s2:starEach [c] X.env=(false,eval c X.env)::starEach [] X.env:=by rfl)(cu:(backTo pos (starEach [.Name y p1,c] X.env)).any (·.1)=false:=by rfl):QD X (.Call (.Name x p) [a,.Name y p1,c] [] pos) (xf F i fa fc):=⟨have ha:=ha.o;have hv:=hv.o;have hc:=hc.o;by
 obtain⟨fn,fd,ps,G,hm,sr,hb⟩:=C
 refine PE.imp (AU G (hr.mono hk) hg hm sr hb .nil Bg (gp ha (gp hv (gp hc jO s2) s1) s0) gU s0 cu) fun σ H Q ah=>?_
 obtain⟨ρ,w,t,r',q,ρ',gd,ee,kk⟩:=ah
 unfold xf at ee
 split at ee
 next d0 q0 kH h0=>
  split at ee
  next hd=>
   split at ee
   next d2 q2 ρ2 h2=>
    split at ee
    next k0 ds e1=>
     split at ee
     next r q1 hF=>
      split at ee
      next az=>
       cases ee
       refine⟨ρ,w,t,_,_,_,gd,h0,fun v0 H1 w1 F1 g1 aF r1=>?_⟩
       have qM:=g1.drop (t':=t)
       obtain⟨l,cL,_⟩:=qM.dz hd
       refine⟨_,cL,kH,bG t w1,t,_,_,_,qM,h2,fun v2 H2 w2 F2 g2 bj r2=>?_⟩
       have gg:=g2.drop (t':=t)
       have nh:=bj.drop qM.wt
       have r0:Rep X.K H2 (bG t w2) .f 0 d0 v0 []:=Rep.go qM.wl nh.bA (r1.drop (o:=.f) (Qh t)) nM
       have Dt:=r2.drop (o:=.f) (t':=t) (Qh t)
       obtain⟨v,Fs,t1,t2⟩:=gg.slot i _ _ e1
       cases t2 with
       | @kW _ l' vs _ _ z hH gX hw hlen rs=>
        rw[cL]at t1
        cases t1
        have fr:∀ a,bG t w2 a=none->(fun a=>if a=l then none else(bG t w2 a).map fun _=>Ow.f) a=none:=fun a n=>by
         show(if a=l then none else(bG t w2 a).map _)=_
         split
         ·rfl
         ·rw[n];rfl
        refine⟨rfl,[d0,.mp k0 ds,d2],fun a=>if a=l then none else(bG t w2 a).map fun _=>Ow.f,r',q,fun a o e=>?_,⟨fun a o e=>?_,gg.wl.tb⟩,?_,hF,fun v H3 w3 Fo jT Wt rr=>?_⟩
        ·have e:(if a=l then none else(bG t w2 a).map fun _=>Ow.f)=some o:=e
         split at e
         ·cases e
         ·cases ew:bG t w2 a with
          | none=>rw[ew]at e;cases e
          | some o'=>rw[ew]at e;cases e;rfl
        ·have e:(if a=l then none else(bG t w2 a).map fun _=>Ow.f)=some o:=e
         split at e
         ·cases e
         ·cases ew:bG t w2 a with
          | none=>rw[ew]at e;cases e
          | some o'=>exact gg.wl a o' ew
        ·refine .m9 (Rep.freeze fr r0 nM) (.m9 (.nO hH gX (Qf rfl) hlen (af.freeze fr rs nM)) (.m9 (Rep.freeze fr Dt nM) .nil))
        ·obtain⟨b1,b2,b3⟩:=Wp gg hH hw (MK.Wr gX) (MK.Dl gX) jT Wt rr az
         exact kk _ _ _ _ b1 (((aF.drop gd.wt).trans nh).trans b2) b3
      ·cases ee
     ·cases ee
    ·cases ee
   ·cases ee
  ·cases ee
 ·cases ee⟩
end
end L3
namespace L3
open PySem PySem.Spec PyProof.Rows L2
variable {K:PySem.W.Frag}{N ps:List Str}{P:Program}{X:Cx}{base:Heap}{body:aN}{es:List Expr}{g:b_}{mg:Str->Option Value}{st:Stmt}{w:World}{x:Str}
def qv(i:Nat){pos:Pos}(hN:X.N[i]? = some x:=by rfl)(hv:tO X.env.scope x:=by first|exact Or.inl rfl|exact Or.inr (Or.inl rfl)|exact Or.inr (Or.inr rfl))(hd:(x==("__debug__":Str))=false:=by decide)(gS:(x==("__classdict__":Str))=false:=by decide):QE X (.Name x pos) (eR i):=⟨pv i hN hv hd gS⟩
def ql(i:Nat){pos:Pos}(hN:X.N[i]? = some x)(hv:X.env.scope.names.lookup x=some .local)(hd:(x==("__debug__":Str))=false:=by decide)(gS:(x==("__classdict__":Str))=false:=by decide):QE X (.Name x pos) (eR i):=⟨pv i hN (.inl hv) hd gS⟩
def uA{e:Expr}{f:cF}(h:rZ X e f):f_ X e f:=⟨PW.pt h.o⟩
section
variable {X:Cx}{a b c e:Expr}{es:List Expr}{fa fb fc f:aB}{g:b_}{pos p p1 p2 ak apos:Pos}
def bB{n:Nat}(h:QE X (.Name x p1) (eR n))(hb:QD X b fb)(hs:pU b:=by exact fun _ _=>rfl):QD X (.Subscript (.Name x p1) b pos) (ay n fb):=⟨Gk h.o hb.o hs⟩
end
def aD(i:Nat){pos:Pos}(hN:X.N[i]? = some x)(hv:X.env.scope.names.lookup x=some .local)(hd:(x==("__debug__":Str))=false:=by decide)(gS:(x==("__classdict__":Str))=false:=by decide):QD X (.Name x pos) (ae i):=cj (ql i hN hv hd gS)
def aH(i:Nat){pos:Pos}(hN:X.N[i]? = some x)(hv:X.env.scope.names.lookup x=some .local)(hr:f9 X es g)(hd:(x==("__debug__":Str))=false:=by decide)(gS:(x==("__classdict__":Str))=false:=by decide):f9 X (.Name x pos::es) (aa (ae i) g):=au (aD i hN hv hd gS) hr d_
def bU{i:Int}{j:Nat}{pos:Pos}(hr:f9 X es g):f9 X (.Constant (.int i) j pos::es) (aa (eC (.int i)) g):=au aQ hr jb
def aI.dA{k:Nat}(a:At K mg x st ps)(S:aj N ps (bD st))
  (h:∀ (f:Addr) (bS:Value) (A:Around) (outer:List Env) (s:Shared) (H:Hp) (E:XK),aS k (A.deeper (envOfC x (bD st) s.heap.objs.size f bS))->fV (lO jx P w K mg base N x (bD st) f bS A outer s H E).iW (jw st) body) :
  aI P w K mg base (k+1) x ps.length (cM N.length body):=aI.mk a S fun f bS A outer s H E hr=>(h f bS A outer s H E hr).o
def Wu{k:Nat}{f:Addr}{fd:FuncData}(F:mr K x x st f fd)(S:aj N ps (bD st))
  (h:∀ (f:Addr) (bS:Value) (A:Around) (outer:List Env) (s:Shared) (H:Hp) (E:XK),aS k (A.deeper (envOfC x (bD st) s.heap.objs.size f bS))->fV (lO jx P w K mg base N x (bD st) f bS A outer s H E).iW (jw st) body) :
  dS P w K mg base jx (k+1) f fd ps (k6 K ps.length (cM N.length body)):=Q_ F S fun f bS A outer s H E hr=>(h f bS A outer s H E hr).o
end L3
namespace L3
open PySem PySem.Spec PyProof.Rows PySem.W L2
variable {C:Addr}{H:Hp}{K:Frag}{L:List Str}{mg:Str->Option Value}{n:Nat}{w w':Wn}{x:Str}
def Du{v:Value}{b:Bool}(h:mroIn K C v=some b):(clsIn K C).isSome=true:=by
 obtain⟨cd,a,_⟩:=Option.bind_eq_some_iff.mp h
 rw[a];rfl
def i7.of{nm:Str}(n:nsIn K mainGlobals nm=some (some (.ref C)))(x:fu K C)(ex:excIn K C By "ValueError.__new__" = true)(v:mroIn K C (.type "ValueError")=some true)
  (a1:mroIn K C (.type "int")=some false) (a2:mroIn K C (.type "bool")=some false) (a3:mroIn K C (.type "tuple")=some false) (a4:mroIn K C (.type "list")=some false) (a5:mroIn K C (.type "str")=some false):i7 K nm C:=
 ⟨n,x,ex,v,fun T hT=>by
   rcases Qs.mp hT with rfl|hT
   ·exact a1
   rcases Qs.mp hT with rfl|hT
   ·exact a2
   rcases Qs.mp hT with rfl|hT
   ·exact a3
   rcases Qs.mp hT with rfl|hT
   ·exact a4
   rcases Qs.mp hT with rfl|hT
   ·exact a5
   cases hT⟩
def o8.nil{R:Str}{RA:Addr}(x:fu K RA)(t:typeIn K (.ref RA)=some (.type "type"))(m:mg R=some (.ref RA)):o8 K mg R []:=⟨RA,x,t,m,fun n hn=>nomatch hn⟩
def o8.cons{K:Frag}{mg:Str->Option Value}{R nm:Str}{L:List Str}{C RA:Addr}(U:o8 K mg R L)(m:mg R=some (.ref RA))(k:i7 K nm C)(s:mroIn K C (.ref RA)=some true):o8 K mg R (nm::L):=by
 obtain⟨RB,x,t,m',h⟩:=U
 rw[m]at m'
 cases m'
 refine⟨RA,x,t,m,fun n hn C' e=>?_⟩
 rcases Qs.mp hn with rfl|hn
 ·have e':=k.ns
  rw[e]at e'
  cases e'
  exact⟨k,s⟩
 ·exact h n hn C' e
def fE.nil{nm:Str}(m:mg nm=some (.ref C)):fE K mg [] nm:=⟨C,m,fun n hn=>nomatch hn⟩
def fE.self{nm:Str}(U:fE K mg L nm)(n:nsIn K mainGlobals nm=some (some (.ref C)))(m:mg nm=some (.ref C)):fE K mg (nm::L) nm:=by
 obtain⟨C',m',h⟩:=U
 rw[m]at m'
 cases m'
 refine⟨C,m,fun n' hn B e=>?_⟩
 rcases Qs.mp hn with rfl|hn
 ·rw[e]at n
  cases n
  exact⟨fun _=>by unfold isIn;simp,fun z=>absurd rfl z⟩
 ·exact h n' hn B e
def fE.other{nm n2:Str}{D:Addr}(U:fE K mg L n2)(n:nsIn K mainGlobals nm=some (some (.ref C)))(m:mg n2=some (.ref D))(hn:nm≠n2)(ne:C≠D)(t:typeIn K (.ref D)=some (.type "type"))(o:mroIn K D (.type "object")=some true)(s:mroIn K C (.ref D)=some false):fE K mg (nm::L) n2:=by
 obtain⟨D',m',h⟩:=U
 rw[m]at m'
 cases m'
 refine⟨D,m,fun n' oi B e=>?_⟩
 rcases Qs.mp oi with rfl|oi
 ·rw[e]at n
  cases n
  have s':subIn K (.ref C) (.ref D)=some false:=s
  exact⟨fun z=>absurd z hn,fun _=>by unfold kin_not;rw[Du o,t,s'];simp[ne]⟩
 ·exact h n' oi B e
def o7.dA{P:Program}{w:World}{K:PySem.W.Frag}{base:Heap}{k:Nat}{st:Stmt}{N ps:List Str}{xb:gP}(a:At K mg x st ps)(S:aj N ps (bD st))
  (h:∀ (f:Addr) (bS:Value) (A:Around) (outer:List Env) (s:Shared) (H:Hp) (E:XK),aS k (A.deeper (envOfC x (bD st) s.heap.objs.size f bS))->mV (oZ P w K mg base N x (bD st) f bS A outer s H E) E (jw st) xb) :
  o7 P w K mg base (k+1) x ps.length (fnX N.length xb):=o7.mk a S fun f bS A outer s H E hr=>(h f bS A outer s H E hr).o
def j4p{K:PySem.W.Frag}(a:nsIn K mainGlobals x=some none):tabIn K x=none:=by unfold tabIn;rw[a]
def T0.of{K:PySem.W.Frag}(h1:tabIn K "turned" = none)(h2:tabIn K "chain_ladder" = none)(h3:tabIn K "flat_ladder" = none)(h4:tabIn K "paired" = none)(h5:tabIn K "height_of" = none)(h6:tabIn K "_law_high" = none):∀ x∈t6,tabIn K x=none:=fun x hx=>by
 unfold t6 at hx
 simp only[Qs,QJ,Vw]at hx
 rcases hx with rfl|rfl|rfl|rfl|rfl|rfl<;>assumption
def Wv{l:PySem.W.OpenLaw}{k:Nat}{q:Program}{loose:List Str}{XP:(Str->Option Value)->Heap->Prop}{YP:World->Heap->Prop}{d:DefRec}{K:Params->PySem.W.Frag}{F0:List D->OD}
  (hn:l.most=some n) (yC:n<=sizeLine) (vf:d.params.defaults=[]) (hr:aS k callerA) (hY:∀ (w:World) (h:Heap),YP w h->(K w.params).In h)
  (F:∀ (w:World) (mg:Str->Option Value) (fa:Addr) (h:Heap),(K w.params).In h->h.Ns mainGlobals mg->mg d.name=some (.ref fa)->(∀ x∈t6,tabIn (K w.params) x=none) /\
    ∃ fd:FuncData,(∀ (s:Shared) (u:Value),BindsTo s fd ⟨[u],[]⟩ [(x,u)])/\∀ base:Heap,(K w.params).In base->base.Ns mainGlobals mg->dS l.prog w (K w.params) mg base jx k fa fd [x] (k6 (K w.params) 1 F0))
  (jP:∀ (w:World) (H:Hp) (a:Addr) (ns:List Int),ns.length<=n->TB (K w.params) H->cE (K w.params) H a (ns.map V.int)->k6 (K w.params) 1 F0 [.ref a] H (fun v _=>v=.bl true) fun _ _ _=>False) :
  PySem.W.WalkO q loose XP YP l.row.toRowW d [] (fun f vs=>PySem.call f vs):=by
 refine Fc.NJ hn vf fun w aP aT mg mb fa o pm cd doc a vs ns G Y ho hd gS hmg rE hints hlen hg=>?_
 have KX:=hY w _ Y
 obtain⟨hT,fd,hb,hF⟩:=F w mg fa _ KX G.T.g hmg
 exact NL KX G.T.g G.T.b G.T.builtins G.T.nolimit hg rE hints (QO hlen yC) hr hF hb (fun H hO hS=>jP w H a ns hlen (TB.only hO hT) hS) fun _ _ _ z=>z
def hI (v:Nat):Int:=if v=7 then -2 else Int.ofNat v
mutual
def qN:D->Bool
 | .aK=>true
 | .bl _=>true
 | .int _=>true
 | .str _=>true
 | .tup ds=>zL ds
 | _=>false
def zL:List D->Bool
 | []=>true
 | d::ds=>qN d&&zL ds
end
def Rep.flat{K:PySem.W.Frag}{o o':Ow}:∀ {q:Nat} {d:D} {v:V} {F:List Addr},Rep K H w o q d v F->qN d=true->F=[]/\∀ q',Rep K H w' o' q' d v []:=by
 intro q d v F r
 refine Rep.rec (motive_1:=fun q d v F _=>qN d=true->F=[]/\∀ q',Rep K H w' o' q' d v []) (motive_2:=fun q ds vs F _=>zL ds=true->F=[]/\∀ q',af K H w' o' q' ds vs []) ?_ ?_ ?_ ?_ ?_ ?_ ?_ ?_ ?_ ?_ ?_ ?_ ?_ ?_ ?_ r
 ·intro q _;exact⟨rfl,fun _=>.aK⟩
 ·intro q b _;exact⟨rfl,fun _=>.bl b⟩
 ·intro q i _;exact⟨rfl,fun _=>.int i⟩
 ·intro q x _;exact⟨rfl,fun _=>.str x⟩
 ·intro q a vs ds h r ih hn;exact⟨rfl,fun _=>.tup h ((ih (by unfold qN at hn;exact hn)).2 0)⟩
 ·intro q a ks vs ds h e r ih hn;cases hn
 ·intro q a nm ob u h x n hn;cases hn
 ·intro q f c fo oc u u' vs ds h1 h2 x r ih hn;cases hn
 ·intro a vs ds h r ih hn;cases hn
 ·intro a vs ds h e r ih hn;cases hn
 ·intro q a vs ds F h e r ne ih hn;cases hn
 ·intro a vs ds k x h i e l r ih hn;cases hn
 ·intro q a vs ds k x h i e l r ih hn;cases hn
 ·intro q _;exact⟨rfl,fun _=>.nil⟩
 ·intro q d v ds vs F G r s ne kX kY hn
  unfold zL at hn
  obtain⟨rfl,h1⟩:=kX (QX.mp hn).1
  obtain⟨rfl,h2⟩:=kY (QX.mp hn).2
  exact⟨rfl,fun q'=>.cons (F:=[]) (G:=[]) (h1 q') (h2 q') nM⟩
def Ww{K:PySem.W.Frag}{ρ:aW}{σ:St}{H':Hp}{t q i:Nat}{d:D}{v:V}{Fo:List Addr}{l:Addr}{xs:List V}(g:Good K ρ σ H w t)(hl:H l=some (.lst xs))(hw:w l=some (.s i))
  (go:Go H (fun a=>if a=l then none else(w a).map fun _=>Ow.f) H' w') (nP:WL K w' H') (r:Rep K H' w' (.t 0) q d v Fo) (hd:qN d=true) :
  Good K ρ σ H' w (t+1)/\Go H w H' w/\Rep K H' w (.t t) q d v []:=by
 obtain⟨s1,s2⟩:=go.bA l _ hl (Qf rfl)
 have ig:H' l=some (.lst xs):=s1.eq rfl
 have kf:∀ a o,w a=some o->H' a=H a:=fun a o e=>by
  by_cases ha:a=l
  ·rw[ha,ig,hl]
  ·exact(go.keep a .f (by show(if a=l then none else(w a).map _)=_;rw[Qi ha,e];rfl) (fun _ z=>nomatch z)).1
 have st:de H w H' w:=fun a x e n=>by
  have ha:a≠l:=fun q=>by rw[q,hw]at n;cases n
  exact⟨(go.bA a x e (by show(if a=l then none else(w a).map _)=_;rw[Qi ha,n];rfl)).1,n⟩
 refine⟨⟨⟨fun a o e=>?_,nP.tb⟩,g.ws,fun a i e=>Zc (g.wt a i e),g.len,fun i d q e=>?_⟩,⟨st,fun a o e _=>⟨kf a o e,e⟩⟩,(Rep.flat r hd).2 q⟩
 ·obtain⟨vs,h⟩:=g.wl a o e
  exact⟨vs,(kf a o e).trans h⟩
 ·obtain⟨v,F,h1,h2⟩:=g.slot i d q e
  exact⟨v,F,h1,Rep.go g.wl st h2 fun a m=>⟨kf a _ (h2.aC a m),h2.aC a m⟩⟩
def uB (F:List D->OD)(i:Nat)(f0 f1 f2:aB):aB:=fun ρ=>match f0 ρ with
 | some (d0,_,kH)=>match f1 kH with
  | some (d1,_,ρ1)=>match f2 ρ1 with
   | some (d2,_,ρ2)=>match ρ2[i]? with
    | some (some (.lst ds,1))=>match F [d0,d1,d2,.lst ds]with
     | some (r,q)=>if qN r=true then some (r,q,ρ2)else none
     | none=>none
    | _=>none
   | none=>none
  | none=>none
 | none=>none
def sR (n:Nat)(fb:aB):aB:=fun ρ=>match ρ[n]? with
 | some (some (.str _,_))=>match fb ρ with
  | some (.int i,_,ρ2)=>match ρ2[n]? with
   | some (some (.str z,_))=>if z.length<=1000 then match dF z.cps.toList i with
    | some c=>some (.str ⟨#[c]⟩,9,ρ2)
    | none=>none
    else none
   | _=>none
  | _=>none
 | _=>ay n fb ρ
section
variable {X:Cx}{a b c e:Expr}{fa fb fc f:aB}{p p1 p2 pos pos' ak apos:Pos}{x y:Str}{i j:Nat}
def Wx{k:Nat}(hr:aS k X.A)(ha:QD X a fa)(hb:QD X b fb)(hm:behindInMarks .NotIn b=false:=by with_unfolding_all rfl):QD X (.Compare a [.NotIn] [b] pos) (e2 fM fa fb):=⟨have ha:=ha.o;have hb:=hb.o;BM (BR (sh hr)) F5 ha hb hm⟩
def Wy{x:Str}(h:QE X (.Name x p1) (eR n))(hb:QD X b fb)(hs:pU b:=by exact fun _ _=>rfl):QD X (.Subscript (.Name x p1) b pos) (sR n fb):=⟨have h:=h.o;have hb:=hb.o;by
 intro pins s σ H Q I ah
 obtain⟨ρ,w,t,r',q,ρ',gd,ee,k⟩:=ah
 unfold sR at ee
 split at ee
 next z0 q0 e0=>
  refine tW tY h hb hs pins s σ H Q I ?_
  obtain⟨v,F,cL,_⟩:=gd.slot n _ _ e0
  split at ee
  next i q2 ρ2 h2=>
   split at ee
   next z q e2=>
    split at ee
    next hz=>
     split at ee
     next cc hc=>
      cases ee
      refine⟨v,cL,ρ,w,t,_,_,_,gd,h2,fun y H2 w2 F2 g2 go r2=>?_⟩
      have hy:=d7 r2
      subst hy
      have gg:=g2.drop (t':=t)
      obtain⟨v',F',cC,rr⟩:=gg.slot n _ q e2
      rw[cL]at cC
      cases cC
      cases rr
      exact .inr (.inr ⟨z,i,cc,rfl,rfl,QO hz (by rw[ZP];omega),hc,k _ H2 (bG t w2) [] gg.up (go.drop gd.wt) (.str _)⟩)
     ·cases ee
    ·cases ee
   ·cases ee
  ·cases ee
 ·exact Gk h hb hs pins s σ H Q I ⟨ρ,w,t,r',q,ρ',gd,ee,k⟩⟩
def Wz{j k:Nat}{F:List D->OD}(C:aI X.prog X.w X.K X.mg X.base k x 4 F)(hr:aS j X.A)(hk:k<=j)(ha:QD X a fa)(gQ:QD X b fb)(hc:QD X c fc)(hv:QE X (.Name y p1) (eR i))(hg:Gl X x:=by rfl)(gU:(x==("__debug__":Str))=false:=by decide)(s0:starEach [a,b,c,.Name y p1] X.env=(false,eval a X.env)::starEach [b,c,.Name y p1] X.env:=by rfl)(s1:starEach [b,c,.Name y p1] X.env=(false,eval b X.env)::starEach [c,.Name y p1] X.env:=by rfl)(s2:starEach [c,.Name y p1] X.env=(false,eval c X.env)::starEach [.Name y p1] X.env:=by rfl)(s3:starEach [.Name y p1] X.env=(false,eval (.Name y p1) X.env)::starEach [] X.env:=by rfl)(cu:(backTo pos (starEach [b,c,.Name y p1] X.env)).any (·.1)=false:=by rfl):QD X (.Call (.Name x p) [a,b,c,.Name y p1] [] pos) (uB F i fa fb fc):=⟨have ha:=ha.o;have gQ:=gQ.o;have hc:=hc.o;have hv:=hv.o;by
 obtain⟨fn,fd,ps,G,hm,sr,hb⟩:=C
 refine PE.imp (AU G (hr.mono hk) hg hm sr hb .nil Bg (gp ha (gp gQ (gp hc (gp hv jO s3) s2) s1) s0) gU s0 cu) fun σ H Q ah=>?_
 obtain⟨ρ,w,t,r',q,ρ',gd,ee,kk⟩:=ah
 unfold uB at ee
 split at ee
 next d0 q0 kH h0=>
  split at ee
  next d1 q1 ρ1 h1=>
   split at ee
   next d2 q2 ρ2 h2=>
    split at ee
    next ds e1=>
     split at ee
     next r q1 hF=>
      split at ee
      next az=>
       cases ee
       refine⟨ρ,w,t,_,_,_,gd,h0,fun v0 H1 w1 F1 g1 aF r1=>?_⟩
       have qM:=g1.drop (t':=t)
       refine⟨kH,bG t w1,t,_,_,_,qM,h1,fun v1 H2 w2 F2 g2 bj r2=>?_⟩
       have Dv:=g2.drop (t':=t)
       have nh:=bj.drop qM.wt
       refine⟨ρ1,bG t w2,t,_,_,_,Dv,h2,fun v2 H3 w3 F3 g3 jT r3=>?_⟩
       have gg:=g3.drop (t':=t)
       have sS:=jT.drop Dv.wt
       have r0:Rep X.K H3 (bG t w3) .f 0 d0 v0 []:=Rep.go qM.wl (nh.trans sS).bA (r1.drop (o:=.f) (Qh t)) nM
       have vX:Rep X.K H3 (bG t w3) .f 0 d1 v1 []:=Rep.go Dv.wl sS.bA (r2.drop (o:=.f) (Qh t)) nM
       have Dt:=r3.drop (o:=.f) (t':=t) (Qh t)
       obtain⟨v,Fs,t1,t2⟩:=gg.slot i _ _ e1
       refine⟨v,t1,?_⟩
       cases t2 with
       | @own _ l vs _ F0 hH hw rs bK=>
        have z0:=rs.zero
        subst z0
        have fr:∀ a,bG t w3 a=none->(fun a=>if a=l then none else(bG t w3 a).map fun _=>Ow.f) a=none:=fun a n=>by
         show(if a=l then none else(bG t w3 a).map _)=_
         split
         ·rfl
         ·rw[n];rfl
        refine⟨rfl,[d0,d1,d2,.lst ds],fun a=>if a=l then none else(bG t w3 a).map fun _=>Ow.f,r',q,fun a o e=>?_,⟨fun a o e=>?_,gg.wl.tb⟩,?_,hF,fun v H4 w4 Fo ja WA rr=>?_⟩
        ·have e:(if a=l then none else(bG t w3 a).map fun _=>Ow.f)=some o:=e
         split at e
         ·cases e
         ·cases ew:bG t w3 a with
          | none=>rw[ew]at e;cases e
          | some o'=>rw[ew]at e;cases e;rfl
        ·have e:(if a=l then none else(bG t w3 a).map fun _=>Ow.f)=some o:=e
         split at e
         ·cases e
         ·cases ew:bG t w3 a with
          | none=>rw[ew]at e;cases e
          | some o'=>exact gg.wl a o' ew
        ·exact .m9 (Rep.freeze fr r0 nM) (.m9 (Rep.freeze fr vX nM) (.m9 (Rep.freeze fr Dt nM) (.m9 (.shr (.inl hH) (Qf rfl) (af.freeze fr rs nM)) .nil)))
        ·obtain⟨b1,b2,b3⟩:=Ww gg hH hw ja WA rr az
         exact kk _ _ _ _ b1 (((aF.drop gd.wt).trans (nh.trans sS)).trans b2) b3
      ·cases ee
     ·cases ee
    ·cases ee
   ·cases ee
  ·cases ee
 ·cases ee⟩
def sT:D->D->Option D
 | .aK,.aK=>some (.bl false)
 | .tup _,.aK=>some (.bl true)
 | .int _,.aK=>some (.bl true)
 | .str _,.aK=>some (.bl true)
 | _,_=>none
def WB{K:PySem.W.Frag}:∀ σ H Q,tD K (e2 sT fa fb) σ H Q->iO (fun x y H Q=>y=.aK/\Q (.bl (!decide (x=.aK))) H) (tD K fa) (tD K fb) σ H Q:=p_ fun x y d h=>by
 unfold sT at h
 split at h
 ·cases h
  exact⟨_,rfl,fun H w o o' q q' u u' F F' r1 r2 _ Q hq=>by cases r1;cases r2;exact⟨rfl,hq⟩⟩
 ·cases h
  exact⟨_,rfl,fun H w o o' q q' u u' F F' r1 r2 _ Q hq=>by cases r1;cases r2;exact⟨rfl,hq⟩⟩
 ·cases h
  exact⟨_,rfl,fun H w o o' q q' u u' F F' r1 r2 _ Q hq=>by cases r1;cases r2;exact⟨rfl,hq⟩⟩
 ·cases h
  exact⟨_,rfl,fun H w o o' q q' u u' F F' r1 r2 _ Q hq=>by cases r1;cases r2;exact⟨rfl,hq⟩⟩
 ·cases h
def WC(ha:QD X a fa)(hb:QD X b fb):f_ X (.Compare a [.IsNot] [b] pos) (a_ (e2 sT fa fb)):=⟨have ha:=ha.o;have hb:=hb.o;qe MU WB ha hb (pQ _)⟩
end
end L3
namespace L3
open PySem PySem.Spec PyProof.Rows L2
theorem uC{k:Nat}{pt:eV}{tt:cF}{te:aB}{deep:Bool}:∀ (ds:List D) (S:Nat->aW) (b:Nat->Bool) (v:Nat->D),
  (∀ i (h:i<ds.length),∃ ρ1 ρ2,pt ds[i] (S i++List.replicate k none)=some ρ1/\tt ρ1=some (b i,ρ2) /\
    (if b i=true then ∃ q eY,te ρ2=some (v i,q,eY)/\¬ (deep=true/\(v i).cK=true/\q≠1)/\eY.take (S i).length=S (i+1)else ρ2.take (S i).length=S (i+1)))->
  jS k pt tt te deep ds (S 0)=some (((List.range ds.length).filter b).map v,S ds.length)
 | [],S,b,v,_=>rfl
 | d::ds,S,b,v,h=>by
  obtain⟨ρ1,ρ2,h1,h2,h3⟩:=h 0 (by simp)
  have ih:=uC ds (fun i=>S (i+1)) (fun i=>b (i+1)) (fun i=>v (i+1)) (fun i hi=>h (i+1) (by simpa using hi))
  have er:((List.range (d::ds).length).filter b).map v=(if b 0=true then [v 0]else [])++((List.range ds.length).filter fun i=>b (i+1)).map fun i=>v (i+1):=by
   rw[Zb,List.range_succ_eq_map,List.filter_cons,List.filter_map]
   split<;>simp[Function.comp_def]
  rw[er]
  unfold jS
  rw[show pt d (S 0++List.replicate k none)=some ρ1 from h1]
  simp only[h2]
  split at h3
  next hb=>
   obtain⟨q,eY,h4,h5,h6⟩:=h3
   simp only[hb,Zv,h4,Qi h5,h6,ih]
   rfl
  next hb=>
   simp only[hb,h3,ih]
   rfl
theorem kI{pt:eV}{body:aN}:∀ (ds:List D) (I:Nat->aW->Prop) (ρ:aW),(∀ i (h:i<ds.length) ρ,I i ρ->∃ ρ1 ρ2,pt ds[i] ρ=some ρ1/\(body ρ1=some (.nx ρ2)\/body ρ1=some (.ct ρ2))/\I (i+1) ρ2)->I 0 ρ->∃ ρ',eX pt body ds ρ=some (.nx ρ')/\I ds.length ρ'
 | [],I,ρ,_,h0=>⟨ρ,rfl,h0⟩
 | d::ds,I,ρ,h,h0=>by
  obtain⟨ρ1,ρ2,h1,h2,h3⟩:=h 0 (by simp) ρ h0
  obtain⟨ρ',e,h4⟩:=kI ds (fun i=>I (i+1)) ρ2 (fun i hi=>h (i+1) (by simpa using hi)) h3
  refine⟨ρ',?_,h4⟩
  unfold eX
  rw[show pt d ρ=some ρ1 from h1]
  rcases h2 with h2|h2<;>(simp only[h2];exact e)
def aZ{f g:aN}{ρ ρ1:aW}(h:f ρ=some (.nx ρ1)):aG f g ρ=g ρ1:=by unfold aG;rw[h]
def qO{f g:aN}{ρ:aW}{d:D}{q:Nat}(h:f ρ=some (.rt d q)):aG f g ρ=some (.rt d q):=by unfold aG;rw[h]
def gB{n:Nat}{body:aN}{ds:List D}{d:D}{q:Nat}(h:body (oS n ds)=some (.rt d q)):cM n body ds=some (d,q):=by unfold cM;rw[h]
def jF{k:Nat}{it:jB}{pt:eV}{tt:cF}{te:aB}{deep:Bool}{ρ ρ1 ρ2:aW}{ds vs:List D}(hi:it ρ=some (ds,ρ1))(hc:jS k pt tt te deep ds ρ1=some (vs,ρ2)):dU k it pt tt te deep ρ=some (.lst vs,if deep=true then 2 else 1,ρ2):=by unfold dU;rw[hi];simp only[hc]
def WD{i:Nat}{f:aB}{ρ ρ1:aW}{d:D}{q:Nat}(h:f ρ=some (d,q,ρ1)):ba i f ρ=some (.nx (ρ1.set i (some (d,q)))):=by unfold ba;rw[h]
def kJ{f:aB}{ρ ρ1:aW}{d:D}{q:Nat}(h:f ρ=some (d,q,ρ1)):bT f ρ=some (.rt d q):=by unfold bT;rw[h]
def jG{it:jB}{pt:eV}{body:aN}{ρ ρ1:aW}{ds:List D}(h:it ρ=some (ds,ρ1)):eJ it pt body ρ=eX pt body ds ρ1:=by unfold eJ;rw[h]
def nY{g:cF}{s s':aN}{ρ ρ1:aW}(h:g ρ=some (true,ρ1)):cY g s s' ρ=s ρ1:=by unfold cY;rw[h];rfl
def iT{g:cF}{s s':aN}{ρ ρ1:aW}(h:g ρ=some (false,ρ1)):cY g s s' ρ=s' ρ1:=by unfold cY;rw[h];rfl
def dQ{i:Nat}{f:aB}{ρ ρ1 ρ2:aW}{d:D}{q:Nat}(h:f ρ=some (d,q,ρ1))(e:ρ1.set i (some (d,q))=ρ2):ba i f ρ=some (.nx ρ2):=by rw[WD h,e]
def eK{f:aB}{ρ ρ1:aW}{d:D}{q:Nat}(h:f ρ=some (d,q,ρ1)):aa f ag ρ=some ([d],ρ1):=by unfold aa;rw[h];rfl
def iF{f:aB}{g:b_}{ρ ρ1 ρ2:aW}{d:D}{q:Nat}{ds:List D}(h:f ρ=some (d,q,ρ1))(h':g ρ1=some (ds,ρ2)):aa f g ρ=some (d::ds,ρ2):=by unfold aa;rw[h];simp only[h']
def HZ{g:b_}{ρ ρ1:aW}{ds:List D}(h:g ρ=some ([.lst ds],ρ1)):kr g ρ=some (.tup ds,9,ρ1):=by unfold kr;rw[h]
def H9{g:b_}{ρ ρ1:aW}{ds:List D}(h:cB g ρ=some (ds,ρ1)):qq g ρ=some (.lst ds,1,ρ1):=by unfold qq;rw[h]
def dh{F:List D->OD}{n:Nat}{g:b_}{ρ ρ1:aW}{ds:List D}{d:D}{q:Nat}(h:g ρ=some (ds,ρ1))(hl:ds.length=n)(hF:F ds=some (d,q)):aE F n g ρ=some (d,q,ρ1):=by unfold aE;rw[h];simp only[hl,Zv,hF]
def aA (l:List Nat):List D:=l.map fun i=>.int (Int.ofNat i)
abbrev iD (k:Nat):D:=.int (Int.ofNat k)
abbrev uL (v:List Nat):OD:=some (.lst (aA v),1)
abbrev v9 (v:List Nat):OD:=some (.tup (aA v),9)
abbrev b9 (b:Bool):OD:=some (.bl b,9)
abbrev i9 (k:Nat):OD:=some ((iD k),9)
def ly (n:Nat)(f:Nat->Nat->Nat)(i:Nat):D:=.tup (aA ((List.range n).map fun j=>f i j))
def bp (n:Nat)(f:Nat->Nat->Nat):D:=.tup ((List.range n).map fun i=>ly n f i)
abbrev t9 (n:Nat)(f:Nat->Nat->Nat):OD:=some (bp n f,9)
def eL (n:Nat)(f:Nat->Nat->Nat)(i:Nat):D:=.lst (aA ((List.range n).map fun j=>f i j))
def bV (n:Nat)(f:Nat->Nat->Nat):D:=.lst ((List.range n).map fun i=>eL n f i)
@[simp] theorem j4n{n:Nat}{f:Nat->Nat->Nat}:(bp n f).cK=false:=rfl
@[simp] theorem j4r{n:Nat}{f:Nat->Nat->Nat}{i:Nat}:(ly n f i).cK=false:=rfl
@[simp] theorem j4m{n:Nat}{f:Nat->Nat->Nat}:(bV n f).cK=true:=rfl
@[simp] theorem j4x{n:Nat}{f:Nat->Nat->Nat}{i:Nat}:(eL n f i).cK=true:=rfl
def iU(l:List Nat):(aA l).length=l.length:=by simp[aA]
def Dw(l:List Nat)(i:Nat):(aA l)[i]? = (l[i]?).map fun x=>.int (Int.ofNat x):=by simp[aA]
def zM{n i:Nat}(h:i<n):iP n (Int.ofNat i)=some i:=by
 unfold iP
 rw[Qf (by exact Int.natCast_nonneg i),Qf (by show(i:Int)<n;omega)]
 rfl
def l0{α:Type}{xs:List α}{i:Nat}{x:α}(h:xs[i]? = some x):L2.dF xs (Int.ofNat i)=some x:=by
 unfold L2.dF
 rw[zM (Qq.mp h).1]
 exact h
def WE{l:List Nat}{i x:Nat}(h:l[i]? = some x):L2.dF (aA l) (Int.ofNat i)=some (iD x):=l0 (by rw[Dw,h];rfl)
def H_{g:Nat->D}{n i:Nat}(h:i<n):L2.dF ((List.range n).map g) (Int.ofNat i)=some (g i):=l0 (by rw[Qk,Zk h];rfl)
def sU{g:Nat->Nat}{n i:Nat}(h:i<n):L2.dF (aA ((List.range n).map g)) (Int.ofNat i)=some (iD (g i)):=WE (by rw[Qk,Zk h];rfl)
def Dx{n:Nat}{f:Nat->Nat->Nat}{i:Nat}(h:i<n):dw (bp n f) (Int.ofNat i)=some (ly n f i):=H_ h
def Ie{n:Nat}{f:Nat->Nat->Nat}{i j:Nat}(h:j<n):dw (ly n f i) (Int.ofNat j)=some (iD (f i j)):=sU h
def WG{n:Nat}{f:Nat->Nat->Nat}{i:Nat}(h:i<n):dw (bV n f) (Int.ofNat i)=some (eL n f i):=H_ h
def WH{n:Nat}{f:Nat->Nat->Nat}{i j:Nat}(h:j<n):dw (eL n f i) (Int.ofNat j)=some (iD (f i j)):=sU h
def l3{n:Nat}{f:Nat->Nat->Nat}:fN (bp n f)=some n:=by simp[bp,fN]
def xg{n:Nat}{f:Nat->Nat->Nat}:fN (bV n f)=some n:=by simp[bV,fN]
def zN{n:Nat}{f g:Nat->Nat->Nat}(h:∀ a b,a<n->b<n->f a b=g a b):bV n f=bV n g:=by
 unfold bV eL
 refine Jb D.lst (Q8 fun a ha=>?_)
 refine Jb (fun l=>D.lst (aA l)) (Q8 fun b hb=>?_)
 exact h a b (QA.mp ha) (QA.mp hb)
def Ig{α:Type}{g:Nat->α}{n m:Nat}{x:α}:((List.range n).map g).set m x=(List.range n).map fun a=>if a=m then x else g a:=by
 apply ZK
 intro i
 by_cases hi:i<n
 ·by_cases h:m=i
  ·subst h
   rw[QP (by simpa using hi),Qk,Zk hi]
   simp
  ·rw[QR h,Qk,Qk,Zk hi]
   simp
   exact fun z=>absurd z.symm h
 ·rw[Q3 (by simp;omega),Q3 (by simp;omega)]
def Ih{g:Nat->Nat}{n:Nat}:aA ((List.range n).map g)=(List.range n).map fun i=>.int (Int.ofNat (g i)):=by simp[aA]
def WI{n:Nat}{f:Nat->Nat->Nat}{a b v:Nat}:D.lst (((List.range n).map fun i=>eL n f i).set a (.lst ((aA ((List.range n).map fun j=>f a j)).set b (iD v))))=bV n fun i j=>if i=a/\j=b then v else f i j:=by
 unfold bV
 rw[Ig]
 refine Jb D.lst (Q8 fun i hi=>?_)
 by_cases h:i=a
 ·subst h
  rw[Qf rfl,Ih,Ig]
  unfold eL
  rw[Ih]
  refine Jb D.lst (Q8 fun j hj=>?_)
  by_cases hj:j=b<;>simp[hj]
 ·rw[Qi h]
  unfold eL
  simp[h]
def WJ(n:Nat):D.lst (List.replicate n [D.int 0]).flatten=eL n (fun _ _=>0) 0:=by
 unfold eL aA
 congr 1
 simp[List.flatten_replicate_singleton,List.map_const']
theorem Ii:∀ ds:List D,cZ ds=ds.map ck
 | []=>rfl
 | d::ds=>by rw[cZ,Ii ds];rfl
def lay (d:D):Bool:=gO d&&(ck d).canLay0
def Ij{d:D}(h:lay d=true):gO d=true:=(QX.mp h).1
def Ik{d:D}(h:lay d=true):(ck d).canLay0=true:=(QX.mp h).2
theorem zO:∀ {ds:List D},(∀ d∈ds,lay d=true)->kn ds=true
 | [],_=>rfl
 | d::ds,h=>by
  show(gO d&&kn ds)=true
  rw[Ij (h d Ql),zO fun x m=>h x (Qj _ m)]
  rfl
def i6 (d:D):Nat:=(ck d).depth
theorem Dy:∀ {ds:List D},(∀ d∈ds,lay d=true)->PyData.canLayAll0 (cZ ds)=true
 | [],_=>rfl
 | d::ds,h=>by
  rw[cZ,PyData.canLayAll0,Dy fun x m=>h x (Qj _ m),Vm]
  exact Ik (h d Ql)
theorem Dz{k:Nat}:∀ {ds:List D},(∀ d∈ds,i6 d<=k)->PyData.depthAll (cZ ds)<=k
 | [],_=>QL _
 | d::ds,h=>by
  rw[cZ,PyData.depthAll]
  exact Nat.max_le.mpr ⟨h d Ql,Dz fun x m=>h x (Qj _ m)⟩
def Sh (k:Nat)(d:D):Prop:=lay d=true/\i6 d<=k
def Sh.int{k:Nat}(i:Int):Sh k (.int i):=⟨rfl,QL _⟩
def Sh.bl{k:Nat}(i:Bool):Sh k (.bl i):=⟨rfl,QL _⟩
def Sh.tup{k:Nat}{ds:List D}(h:∀ d∈ds,Sh k d):Sh (k+1) (.tup ds):=⟨QX.mpr ⟨zO fun d m=>(h d m).1,Dy fun d m=>(h d m).1⟩,Vr (Dz fun d m=>(h d m).2)⟩
def Sh.lst{k:Nat}{ds:List D}(h:∀ d∈ds,Sh k d):Sh (k+1) (.lst ds):=⟨QX.mpr ⟨zO fun d m=>(h d m).1,Dy fun d m=>(h d m).1⟩,Vr (Dz fun d m=>(h d m).2)⟩
def Sh.ok{k:Nat}{d:D}(h:Sh k d)(hk:k<=64:=by decide):dH d=true:=by
 show(gO d&&((ck d).canLay0&&decide ((ck d).depth<=64)))=true
 rw[Ij h.1,Ik h.1,Vn,Vn]
 exact Qt (QO h.2 hk)
def Il{l:List Nat}{d:D}(m:d∈aA l):Sh 0 d:=by
 obtain⟨x,_,rfl⟩:=Qy.mp m
 exact .int _
def sV(l:List Nat):Sh 1 (.lst (aA l)):=.lst fun _ m=>Il m
def pw(l:List Nat):Sh 1 (.tup (aA l)):=.tup fun _ m=>Il m
def WK(n:Nat)(f:Nat->Nat->Nat):Sh 2 (bp n f):=.tup fun d m=>by
 obtain⟨x,_,rfl⟩:=Qy.mp m
 exact pw _
theorem DA:∀ l l':List Nat,PyData.eqvAll (cZ (aA l)) (cZ (aA l'))=decide (l=l')
 | [],[]=>rfl
 | [],_::_=>rfl
 | _::_,[]=>rfl
 | x::l,y::l'=>by
  show(((x:Int)==(y:Int))&&PyData.eqvAll (cZ (aA l)) (cZ (aA l')))=_
  rw[DA l l']
  by_cases h:x=y
  ·subst h;simp
  ·have:((x:Int)==(y:Int))=false:=by simp;omega
   rw[this]
   simp[h]
def Im(l l':List Nat):gy (.lst (aA l)) (.lst (aA l'))=decide (l=l'):=DA l l'
def zP(l l':List Nat):gy (.tup (aA l)) (.tup (aA l'))=decide (l=l'):=DA l l'
def zQ(i j:Int):gy (.int i) (.int j)=decide (i=j):=by
 show(i==j)=_
 rw[Bool.beq_eq_decide_eq]
def DB(i j:Nat):gy (iD i) (iD j)=decide (i=j):=by
 rw[zQ]
 exact ZU.mpr ⟨fun h=>V8 h,fun h=>by rw[h]⟩
def WM(l l':List Nat):cG (.lst (aA l)) (.lst (aA l'))=some (.bl (decide (l=l'))):=by unfold cG;rw[Qf ⟨(sV l).ok,(sV l').ok⟩,Im]
def WN(l l':List Nat):fC (.lst (aA l)) (.lst (aA l'))=some (.bl (!decide (l=l'))):=by unfold fC;rw[Qf ⟨(sV l).ok,(sV l').ok⟩,Im]
def DC(i j:Int):cG (.int i) (.int j)=some (.bl (decide (i=j))):=by unfold cG;rw[Qf ⟨(Sh.int (k:=0) i).ok,(Sh.int (k:=0) j).ok⟩,zQ]
def WO(i j:Int):fC (.int i) (.int j)=some (.bl (!decide (i=j))):=by unfold fC;rw[Qf ⟨(Sh.int (k:=0) i).ok,(Sh.int (k:=0) j).ok⟩,zQ]
def xh(i j:Nat):cG (iD i) (iD j)=some (.bl (decide (i=j))):=by unfold cG;rw[Qf ⟨(Sh.int (k:=0) _).ok,(Sh.int (k:=0) _).ok⟩,DB]
def Io(i j:Nat):fC (iD i) (iD j)=some (.bl (!decide (i=j))):=by unfold fC;rw[Qf ⟨(Sh.int (k:=0) _).ok,(Sh.int (k:=0) _).ok⟩,DB]
theorem Ip{α:Type}{p:α->Bool}:∀ {l:List α} {j:Nat} {x:α},l[j]? = some x->p x=true->(∀ i y,i<j->l[i]? = some y->p y=false)->l.findIdx? p=some j
 | [],j,x,h,_,_=>by simp at h
 | a::l,0,x,h,hp,_=>by
  simp at h;subst h
  simp[List.findIdx?_cons,hp]
 | a::l,j+1,x,h,hp,hn=>by
  have h0:p a=false:=hn 0 a (Jz _) rfl
  have ih:=Ip (l:=l) (j:=j) (x:=x) (by simpa using h) hp fun i y hi hy=>hn (i+1) y (Nat.succ_lt_succ hi) (by simpa using hy)
  simp[List.findIdx?_cons,h0,ih]
structure cm (n:Nat) (f:Nat->Nat->Nat):Prop where
 lo:0<n
 hi:n<=16
 cl:∀ i j,i<n->j<n->f i j<n
 idem:∀ i,i<n->f i i=i
 comm:∀ i j,i<n->j<n->f i j=f j i
 assoc:∀ i j k,i<n->j<n->k<n->f (f i j) k=f i (f j k)
 bot:∃ z,z<n/\∀ j,j<n->f z j=j
def DD (n:Nat)(f:Nat->Nat->Nat):Bool:=
 decide (0<n)&&decide (n<=16)&&((List.range n).all fun i=>(List.range n).all fun j=>decide (f i j<n))&&((List.range n).all fun i=>decide (f i i=i))&&((List.range n).all fun i=>(List.range n).all fun j=>decide (f i j=f j i)) &&
 ((List.range n).all fun i=>(List.range n).all fun j=>(List.range n).all fun k=>decide (f (f i j) k=f i (f j k)))&&((List.range n).any fun z=>(List.range n).all fun j=>decide (f z j=j))
def WQ{n:Nat}{f:Nat->Nat->Nat}(h:DD n f=true):cm n f:=by
 unfold DD at h
 simp only[Jt,ZA,Yu,Yz,QA]at h
 obtain⟨⟨⟨⟨⟨⟨h1,h2⟩,h3⟩,h4⟩,h5⟩,h6⟩,z,hz,h7⟩:=h
 exact⟨h1,h2,fun i j hi hj=>h3 i hi j hj,h4,fun i j hi hj=>h5 i hi j hj,fun i j k hi hj hk=>h6 i hi j hj k hk,z,hz,h7⟩
def cm.WR{n:Nat}{f:Nat->Nat->Nat}(L:cm n f){π ι:Nat->Nat}(h1:∀ i,i<n->π i<n)(h2:∀ i,i<n->ι i<n)(h3:∀ i,i<n->ι (π i)=i)(h4:∀ i,i<n->π (ι i)=i):cm n fun a b=>π (f (ι a) (ι b)):=by
 obtain⟨l1,l2,cl,idem,comm,assoc,z,hz,bot⟩:=L
 refine⟨l1,l2,fun i j hi hj=>h1 _ (cl _ _ (h2 i hi) (h2 j hj)),fun i hi=>?_,fun i j hi hj=>?_,fun i j k hi hj hk=>?_,π z,h1 z hz,fun j hj=>?_⟩
 ·show π (f (ι i) (ι i))=i
  rw[idem _ (h2 i hi),h4 i hi]
 ·show π (f (ι i) (ι j))=π (f (ι j) (ι i))
  rw[comm _ _ (h2 i hi) (h2 j hj)]
 ·show π (f (ι (π (f (ι i) (ι j)))) (ι k))=π (f (ι i) (ι (π (f (ι j) (ι k)))))
  rw[h3 _ (cl _ _ (h2 i hi) (h2 j hj)),h3 _ (cl _ _ (h2 j hj) (h2 k hk)),assoc _ _ _ (h2 i hi) (h2 j hj) (h2 k hk)]
 ·show π (f (ι (π z)) (ι j))=j
  rw[h3 z hz,bot _ (h2 j hj),h4 j hj]
def bP (p:Nat->Nat->Nat)(n:Nat):Nat->List Nat
 | 0=>List.range n
 | k+1=>(bP p n k).eraseIdx (p k (bP p n k).length)
def drawn (p:Nat->Nat->Nat)(n k:Nat):Nat:=(bP p n k).getD (p k (bP p n k).length) 0
theorem Iq:∀ (l:List Nat) (j:Nat),(aA l).eraseIdx j=aA (l.eraseIdx j)
 | [],_=>rfl
 | _::_,0=>rfl
 | a::l,j+1=>Jb ((iD a) :: ·) (Iq l j)
theorem xi{p:Nat->Nat->Nat}{n:Nat}(hp:∀ k m,0<m->p k m<m):∀ k,k<=n->(bP p n k).length=n-k
 | 0,_=>by simp[bP]
 | k+1,h=>by
  have ih:=xi hp k (Nat.le_of_succ_le h)
  have:=hp k (n-k) (by omega)
  rw[bP,V1,ih,Qf this]
  omega
theorem Ir:∀ {l:List Nat} {j:Nat} (h:j<l.length),(l[j]::l.eraseIdx j).Perm l
 | a::l,0,_=>List.Perm.refl _
 | a::l,j+1,h=>(List.Perm.swap a (l[j]'(by simpa using h)) (l.eraseIdx j)).trans (List.Perm.cons a (Ir (by simpa using h)))
theorem Iu{p:Nat->Nat->Nat}{n:Nat}(hp:∀ k m,0<m->p k m<m):∀ k,k<=n->(((List.range k).map (drawn p n))++bP p n k).Perm (List.range n)
 | 0,_=>by simp[bP]
 | k+1,h=>by
  have ih:=Iu hp k (Nat.le_of_succ_le h)
  have hl:=xi hp k (by omega:k<=n)
  have hj:p k (bP p n k).length<(bP p n k).length:=by rw[hl];exact hp k _ (by omega)
  refine List.Perm.trans ?_ ih
  rw[YO,QY,Zz]
  refine VR _ ?_
  have e:drawn p n k=(bP p n k)[p k (bP p n k).length]:=by unfold drawn;rw[Qg,Qb hj];rfl
  show(drawn p n k::(bP p n (k+1))).Perm _
  rw[e,bP]
  exact Ir hj
def zR{p:Nat->Nat->Nat}{n:Nat}(hp:∀ k m,0<m->p k m<m):((List.range n).map (drawn p n)).Perm (List.range n):=by
 have h:=Iu hp n (Qh n)
 have hl:=xi hp n (Qh n)
 rw[Ub]at hl
 rw[ZF.mp hl,ZQ]at h
 exact h
def Iv{p:Nat->Nat->Nat}{n:Nat}(hp:∀ k m,0<m->p k m<m){i:Nat}(h:i<n):drawn p n i<n:=by
 have m:drawn p n i∈(List.range n).map (drawn p n):=Qy.mpr ⟨i,QA.mpr h,rfl⟩
 exact QA.mp ((zR hp).mem_iff.mp m)
def kK (p:Nat->Nat->Nat)(n a:Nat):Nat:=((List.range n).map (drawn p n)).idxOf a
def Iw{p:Nat->Nat->Nat}{n:Nat}(hp:∀ k m,0<m->p k m<m){a:Nat}(h:a<n):kK p n a<n:=by
 have m:a∈(List.range n).map (drawn p n):=(zR hp).mem_iff.mpr (QA.mpr h)
 have:=YY m
 rw[Qc,QB]at this
 exact this
def Iy{p:Nat->Nat->Nat}{n:Nat}(hp:∀ k m,0<m->p k m<m){a:Nat}(h:a<n):drawn p n (kK p n a)=a:=by
 have m:a∈(List.range n).map (drawn p n):=(zR hp).mem_iff.mpr (QA.mpr h)
 have:=List.getElem_idxOf (YY m)
 rw[VC,List.getElem_range]at this
 exact this
def Iz{p:Nat->Nat->Nat}{n:Nat}(hp:∀ k m,0<m->p k m<m){i:Nat}(h:i<n):kK p n (drawn p n i)=i:=by
 have nd:((List.range n).map (drawn p n)).Nodup:=(zR hp).nodup_iff.mpr Yy
 have hi:i<((List.range n).map (drawn p n)).length:=by simpa using h
 have:=nd.idxOf_getElem i hi
 rw[VC,List.getElem_range]at this
 exact this
def px{i n:Nat}{tt:cF}{te:aB}{ρ:aW}{deep:Bool}(hi:ρ.length=i)(b:Nat->Bool)(v:Nat->D)(q:Nat->Nat)(ht:∀ j,j<n->tt (ρ++[(i9 j)])=some (b j,ρ++[(i9 j)]))
  (he:∀ j,j<n->b j=true->te (ρ++[(i9 j)])=some (v j,q j,ρ++[(i9 j)])) (hd:deep=true->∀ j,(v j).cK=true->q j=1:=by intro h;cases h) :
  jS 1 (aL i) tt te deep (da n) ρ=some (((List.range n).filter b).map v,ρ):=by
 have h:=uC (k:=1) (pt:=aL i) (tt:=tt) (te:=te) (deep:=deep) (da n) (fun _=>ρ) b v (fun j hj=>?_)
 ·rw[gv]at h
  exact h
 ·rw[gv]at hj
  refine⟨ρ++[(i9 j)],_,?_,ht j hj,?_⟩
  ·have:(da n)[j]'(by rw[gv];exact hj)=(iD j):=by simp[da]
   rw[this]
   unfold aL
   rw[Qf (by simp[hi])]
   subst hi
   simp[List.set_append]
  ·by_cases hb:b j=true
   ·rw[Qf hb]
    exact⟨q j,_,he j hj hb,fun⟨h1,h2,h3⟩=>h3 (hd h1 j h2),by simp⟩
   ·rw[Qi hb]
    simp
def IA{z:Nat}:∀ n:Nat,(List.range n).filter (fun w=>decide (w=z))=if z<n then [z]else []
 | 0=>by simp
 | n+1=>by
  rw[YO,List.filter_append,IA n]
  by_cases h:n=z
  ·subst h;simp
  ·have:¬ (n=z):=h
   by_cases h2:z<n
   ·rw[Qf h2,Qf (by omega)];simp[h]
   ·rw[Qi h2,Qi (by omega)];simp[h]
def WS{n:Nat}{g:Nat->Nat}:(List.range n).map g=List.range n ↔ ∀ j,j<n->g j=j:=by
 constructor
 ·intro h j hj
  have:=Jb (fun l=>l[j]?) h
  simpa [hj]using this
 ·intro h
  have e:=Q8 (l:=List.range n) (f:=g) (g:=id) fun a ha=>h a (QA.mp ha)
  rw[e,List.map_id]
namespace cm
variable {z:Nat}
variable {n:Nat}{f:Nat->Nat->Nat}(L:cm n f)
include L
theorem ni{x:Nat}(hz:z<n)(bz:∀ j,j<n->f z j=j)(hx:x<n)(bx:∀ j,j<n->f x j=j):x=z:=by
 have h1:=bx z hz
 have h2:=bz x hx
 rw[L.comm x z hx hz]at h1
 omega
theorem fold_lt:∀ {l:List Nat} {a:Nat},a<n->(∀ x∈l,x<n)->l.foldl f a<n
 | [],a,ha,_=>ha
 | y::l,a,ha,h=>fold_lt (l:=l) (L.cl a y ha (h y Ql)) fun x m=>h x (Qj _ m)
theorem IB:∀ {l:List Nat} {a x:Nat},a<n->x<n->(∀ x∈l,x<n)->f x a=a->f x (l.foldl f a)=l.foldl f a
 | [],a,x,_,_,_,e=>e
 | y::l,a,x,ha,hx,h,e=>by
  have hy:=h y Ql
  refine IB (l:=l) (L.cl a y ha hy) hx (fun x m=>h x (Qj _ m)) ?_
  rw[<- L.assoc x a y hx ha hy,e]
theorem je:∀ {l:List Nat} {a x:Nat},a<n->(∀ x∈l,x<n)->x∈l->f x (l.foldl f a)=l.foldl f a
 | y::l,a,x,ha,h,m=>by
  have hy:=h y Ql
  have hl:∀ x∈l,x<n:=fun x m=>h x (Qj _ m)
  rcases Qs.mp m with rfl|m
  ·refine IB L (l:=l) (L.cl a x ha hy) hy hl ?_
   rw[L.comm a x ha hy,<- L.assoc x x a hy hy ha,L.idem x hy]
  ·exact je (l:=l) (L.cl a y ha hy) hl m
theorem gC(hz:z<n)(bz:∀ j,j<n->f z j=j):∀ {l:List Nat} {a:Nat},a<n->(∀ x∈l,x<n)->l.foldl f a=f a (l.foldl f z)
 | [],a,ha,_=>by show a=f a z;rw[L.comm a z ha hz,bz a ha]
 | y::l,a,ha,h=>by
  have hy:=h y Ql
  have hl:∀ x∈l,x<n:=fun x m=>h x (Qj _ m)
  show l.foldl f (f a y)=f a (l.foldl f (f z y))
  rw[bz y hy,gC hz bz (L.cl a y ha hy) hl,gC hz bz hy hl,L.assoc a y _ ha hy (L.fold_lt hz hl)]
end cm
def WT{l:List Nat}{i:Nat}(h:i<(aA l).length):(aA l)[i]=(iD (l.getD i 0)):=by
 have h':i<l.length:=by rw[iU]at h;exact h
 simp[aA,h']
def WU{l:List Nat}{i:Nat}(h:i<l.length):l.getD i 0∈l:=by
 rw[Qg,Qb h]
 exact Q0 h
def WV{i:Nat}{te:aB}{ρ:aW}{deep:Bool}(l:List Nat)(hi:ρ.length=i)(v:Nat->D)(q:Nat->Nat)
  (he:∀ x,x∈l->te (ρ++[(i9 x)])=some (v x,q x,ρ++[(i9 x)])) (hd:deep=true->∀ j,(v j).cK=true->q j=1:=by intro h;cases h) :
  jS 1 (aL i) dI te deep (aA l) ρ=some (l.map v,ρ):=by
 have h:=uC (k:=1) (pt:=aL i) (tt:=dI) (te:=te) (deep:=deep) (aA l) (fun _=>ρ) (fun _=>true) (fun j=>v (l.getD j 0)) (fun j hj=>?_)
 ·rw[iU,show(List.range l.length).filter (fun _=>true)=List.range l.length by simp]at h
  rw[h]
  have e:(List.range l.length).map (fun j=>v (l.getD j 0))=l.map v:=by
   apply ZK
   intro k
   by_cases hk:k<l.length
   ·simp[hk]
   ·rw[Q3 (by simp;omega),Q3 (by simp;omega)]
  rw[e]
 ·have WW:j<l.length:=by rw[iU]at hj;exact hj
  refine⟨ρ++[(i9 (l.getD j 0))],_,?_,rfl,?_⟩
  ·rw[WT hj]
   unfold aL
   rw[Qf (by simp[hi])]
   subst hi
   simp[List.set_append]
  ·rw[Qf rfl]
   exact⟨q _,_,he _ (WU WW),fun⟨h1,h2,h3⟩=>h3 (hd h1 _ h2),by simp⟩
def dR{g:D->D->Option D}{fa fb:aB}{ρ ρ1 ρ2:aW}{x y d:D}{q q':Nat}(ha:fa ρ=some (x,q,ρ1))(hb:fb ρ1=some (y,q',ρ2))(hg:g x y=some d):e2 g fa fb ρ=some (d,9,ρ2):=by unfold e2;rw[ha];simp only[hb,hg]
def eN{f:aB}{ρ ρ1:aW}{b:Bool}{q:Nat}(h:f ρ=some (.bl b,q,ρ1)):a_ f ρ=some (b,ρ1):=by unfold a_;rw[h]
def zS{i:Nat}{g:b_}{ρ ρ1 ρ2:aW}{ds:List D}{d:D}(hl:sj ρ[i]? = true)(hg:g ρ=some ([d],ρ1))(h1:ρ1[i]? = some (some (.lst ds,1)))(hn:ds.length<=1000)(e:ρ1.set i (some (.lst (ds++[d]),1))=ρ2):eI (iq i g) ρ=some (.nx ρ2):=by
 unfold eI iq
 rw[Qf hl,hg]
 simp only[h1,Qf hn,e]
def DE{b:List D->Option D}{g:b_}{ρ ρ1:aW}{ds:List D}{d:D}(h:g ρ=some (ds,ρ1))(hd:b ds=some d):eB b g ρ=some (d,9,ρ1):=by unfold eB;rw[h];simp only[hd]
def xj (n:Nat)(r:Nat->Nat):D:=.tup (aA ((List.range n).map r))
abbrev r9 (n:Nat)(r:Nat->Nat):OD:=some (xj n r,9)
@[simp] theorem j4c{n:Nat}{r:Nat->Nat}:(xj n r).cK=false:=rfl
def zT{n i:Nat}{r:Nat->Nat}(h:i<n):dw (xj n r) (Int.ofNat i)=some (iD (r i)):=sU h
def WX(l l':List Nat):fC (.tup (aA l)) (.tup (aA l'))=some (.bl (!decide (l=l'))):=by unfold fC;rw[Qf ⟨(pw l).ok,(pw l').ok⟩,zP]
def WY(l l':List Nat):cG (.tup (aA l)) (.tup (aA l'))=some (.bl (decide (l=l'))):=by unfold cG;rw[Qf ⟨(pw l).ok,(pw l').ok⟩,zP]
namespace cm
variable {b x y z:Nat}
variable {n:Nat}{f:Nat->Nat->Nat}(L:cm n f)
include L
theorem le_trans(hx:x<n)(hy:y<n)(hz:z<n)(h1:f x y=y)(h2:f y z=z):f x z=z:=by
 rw[<- h2,<- L.assoc x y z hx hy hz,h1]
theorem lub(hx:x<n)(hy:y<n)(hz:z<n)(h1:f x z=z)(h2:f y z=z):f (f x y) z=z:=by rw[L.assoc x y z hx hy hz,h2,h1]
theorem iu(hz:z<n)(bz:∀ j,j<n->f z j=j)(hb:b<n):∀ {l:List Nat},(∀ x∈l,x<n)->(∀ x∈l,f x b=b)->f (l.foldl f z) b=b
 | [],_,_=>bz b hb
 | y::l,h,k=>by
  have hy:=h y Ql
  have hl:∀ x∈l,x<n:=fun x m=>h x (Qj _ m)
  have e:(y::l).foldl f z=f y (l.foldl f z):=by
   show l.foldl f (f z y)=_
   rw[bz y hy,L.gC hz bz hy hl]
  rw[e]
  exact L.lub hy (L.fold_lt hz hl) hb (k y Ql) (iu hz bz hb hl fun x m=>k x (Qj _ m))
omit L
def low (n:Nat)(f:Nat->Nat->Nat)(x:Nat):List Nat:=(List.range n).filter fun y=>decide (f y x=x)
theorem eO:y∈low n f x ↔ y<n/\f y x=x:=by simp[low]
def lr (n:Nat)(f:Nat->Nat->Nat)(z:Nat)(r:Nat->Nat)(x:Nat):Nat:=((low n f x).map r).foldl f z
include L
variable {z:Nat}(hz:z<n)(bz:∀ j,j<n->f z j=j){r s:Nat->Nat}(hr:∀ i,i<n->r i<n)
include hz bz hr
theorem iG:∀ y∈(low n f x).map r,y<n:=fun y m=>by
 obtain⟨k,hk,rfl⟩:=Qy.mp m
 exact hr k (eO.mp hk).1
theorem qP(x:Nat):lr n f z r x<n:=L.fold_lt hz (iG L hz bz hr)
theorem xk(hy:y<n)(h:f y x=x):f (r y) (lr n f z r x)=lr n f z r x:=L.je hz (iG L hz bz hr) (Qy.mpr ⟨y,eO.mpr ⟨hy,h⟩,rfl⟩)
theorem nj(hb:b<n)(h:∀ y,y<n->f y x=x->f (r y) b=b):f (lr n f z r x) b=b:=L.iu hz bz hb (iG L hz bz hr) fun y m=>by
 obtain⟨k,hk,rfl⟩:=Qy.mp m
 exact h k (eO.mp hk).1 (eO.mp hk).2
theorem nq(hx:x<n)(hy:y<n)(h:f x y=y):f (lr n f z r x) (lr n f z r y)=lr n f z r y:=
 L.nj hz bz hr (L.qP hz bz hr y) fun k hk e=>L.xk hz bz hr hk (L.le_trans hk hx hy e h)
end cm
def lj{α:Type}{us:List α}(h:us.length=1):∃ a,us=[a]:=match us,h with|[a],_=>⟨a,rfl⟩
def kL{α:Type}{us:List α}(h:us.length=2):∃ a b,us=[a,b]:=by
 cases us with
 | nil=>cases h
 | cons a us=>
  obtain⟨b,hh⟩:=lj (JC h)
  exact⟨a,b,by rw[hh]⟩
def qQ{α:Type}{us:List α}(h:us.length=3):∃ a b c,us=[a,b,c]:=by
 cases us with
 | nil=>cases h
 | cons a us=>
  obtain⟨b,c,hh⟩:=kL (JC h)
  exact⟨a,b,c,by rw[hh]⟩
def uD{α:Type}{us:List α}(h:us.length=4):∃ a b c d,us=[a,b,c,d]:=by
 cases us with
 | nil=>cases h
 | cons a us=>
  obtain⟨b,c,d,hh⟩:=qQ (JC h)
  exact⟨a,b,c,d,by rw[hh]⟩
def DF{pt:eV}{body:aN}{d:D}{ds:List D}{ρ ρ1 ρ2:aW}(h1:pt d ρ=some ρ1)(h2:body ρ1=some (.nx ρ2)):eX pt body (d::ds) ρ=eX pt body ds ρ2:=by
 show(match pt d ρ with|none=>none|some ρ1=>_)=_
 simp only[h1,h2]
def DG{pt:eV}{body:aN}{d d':D}{q:Nat}{ds:List D}{ρ ρ1:aW}(h1:pt d ρ=some ρ1)(h2:body ρ1=some (.rt d' q)):eX pt body (d::ds) ρ=some (.rt d' q):=by
 unfold eX
 simp only[h1,h2]
theorem IC{c:cF}{b:aN}{Q:aW->Prop}(I:Nat->aW->Prop)
  (h:∀ k ρ,I k ρ->(∃ ρ1,c ρ=some (false,ρ1)/\Q ρ1)\/(∃ ρ1 ρ2 k',c ρ=some (true,ρ1)/\b ρ1=some (.nx ρ2)/\k'<k/\I k' ρ2)):∀ m k ρ,k<m->I k ρ->∃ ρ',mP c b m ρ=some (.nx ρ')/\Q ρ'
 | 0,k,_,hk,_=>absurd hk (Q1 k)
 | m+1,k,ρ,hk,i=>by
  rcases h k ρ i with⟨ρ1,h1,h2⟩|⟨ρ1,ρ2,k',h1,h2,h3,h4⟩
  ·exact⟨ρ1,by unfold mP;simp[h1],h2⟩
  ·obtain⟨ρ',e,q⟩:=IC I h m k' ρ2 (by omega) h4
   refine⟨ρ',?_,q⟩
   unfold mP
   simp[h1,h2,e]
def ID{c:cF}{b:aN}{Q:aW->Prop}(I:Nat->aW->Prop){k:Nat}{ρ:aW}(hk:k<1000)(i:I k ρ)
  (h:∀ k ρ,I k ρ->(∃ ρ1,c ρ=some (false,ρ1)/\Q ρ1)\/(∃ ρ1 ρ2 k',c ρ=some (true,ρ1)/\b ρ1=some (.nx ρ2)/\k'<k/\I k' ρ2)):∃ ρ',ui c b ρ=some (.nx ρ')/\Q ρ':=IC I h 1000 k ρ hk i
namespace cm
variable {n:Nat}{f:Nat->Nat->Nat}(L:cm n f){p:Nat}
include L
end cm
end L3
namespace My
open PySem PySem.Spec PyProof.Rows L2 L3
variable {F:List D->OD}{H M ks nw:List (Nat×Nat)}{T:List ((Nat×Nat)×Nat)}{a i j m n p q q' q0 q2 z:Nat}{b:Bool}{d d0 d2 r x y:D}{ds:List D}{f f0 f2 fa fb fk fz:aB}{g h:cF}{k':Nat×Nat}{l:PySem.W.OpenLaw}{st:Stmt}{ws:List Int}{ρ kH ρ1 ρ2:aW}
def top (i:Nat):Stmt:=PySem.Challenge.pw_ladderhall_k41_whole_path_to.main.body.getD i (.Pass ⟨0,0,0,0⟩)
structure Bt (mg:Str->Option Value):Prop where
 iH:mg "ValueError" = none
 sW:mg "bool" = none
 jf:mg "enumerate" = none
 xl:mg "int" = none
 aJ:mg "isinstance" = none
 aO:mg "len" = none
 dW:mg "list" = none
 qR:mg "max" = none
 aw:mg "range" = none
 qS:mg "set" = none
 gD:mg "sorted" = none
 xm:mg "str" = none
 cw:mg "tuple" = none
structure Xt (K:PySem.W.Frag) (mg:Str->Option Value):Prop where
 u:o8 K mg "RiseError" ["NoStep"]
 jg:∃ C,Co K mg "NoStep" C
 lA:fE K mg ["NoStep"] "NoHouse"
 pz:fE K mg ["NoStep"] "NoMap"
 lC:fE K mg ["NoStep"] "NoPlace"
 nr:fE K mg ["NoStep"] "NoRule"
 nu:fE K mg ["NoStep"] "NoStep"
 j3:fE K mg ["NoStep"] "TooGreat"
section
variable {P:Program}{w:World}{K:PySem.W.Frag}{mg:Str->Option Value}{base:Heap}
def IE:aN:=aG (cY (a_ (e2 ki (ae 1) (bL 0))) (bT (ay 0 (ae 1))) dG)
 (aG (cY (a_ (e2 cG (ae 0) (cW ag))) (bT (eC (.int 0))) dG)
 (bT (e2 bQ (e2 jz (ay 0 (e2 rV (ae 1) (bL 0))) (eC (.int 31))) (ae 1))))
def xn:=cM 2 (IE)
def WZ:aj ["_law_script","_law_k"] ["_law_script","_law_k"] (bD (top 26)):=dE (by decide +kernel)
def W0(B:Bt mg)(a:At K mg "_law_cell" (top 26) ["_law_script","_law_k"]):aI P w K mg base 1 "_law_cell" 2 (xn):=
 aI.dA a WZ fun _ _ _ _ _ _ _ hr=>
  aR (eU (vB (aD 1 rfl rfl) (d9 B.aO (ql 0 rfl rfl))) (aY (cn (bB (ql 0 rfl rfl) (aD 1 rfl rfl)))) fy)
  (aR (eU (lR hr (aD 0 rfl rfl) (eT ao)) (aY (cn aQ)) fy)
  (aY (cn (dk (mB (bB (ql 0 rfl rfl) (ua (aD 1 rfl rfl) (d9 B.aO (ql 0 rfl rfl)))) aQ) (aD 1 rfl rfl)))))
def IF:aN:=aG (ba 3 (e2 rV (e2 jz (e2 bQ (aE xn 2 (aa (ae 0) (aa (ae 1) ag))) (e2 jz (eC (.int 6151)) (e2 bQ (ae 1) (eC (.int 1))))) (eC (.int 40692))) (eC (.int 2147483399))))
 (bT (e2 rV (e2 rV (e2 bQ (e2 jz (ae 3) (ae 3)) (e2 yR (ae 3) (eC (.int 31)))) (eC (.int 2147483629))) (ae 2)))
def bX:=cM 4 (IF)
def IG:aj ["_law_script","_law_k","_law_many","_law_drawn"] ["_law_script","_law_k","_law_many"] (bD (top 27)):=dE (by decide +kernel)
def W1(B:Bt mg)(c7:aI P w K mg base 1 "_law_cell" 2 xn)(a:At K mg "_law_pick" (top 27) ["_law_script","_law_k","_law_many"]):aI P w K mg base 2 "_law_pick" 3 (bX):=
 aI.dA a IG fun _ _ _ _ _ _ _ hr=>
  aR (bJ (i:=3) IG.nd rfl (Or.inl rfl) (ua (mB (dk (bo c7 hr (by decide) (aH 0 rfl rfl (aH 1 rfl rfl ao))) (mB aQ (dk (aD 1 rfl rfl) aQ))) aQ) aQ))
  (aY (cn (ua (ua (dk (mB (aD 3 rfl rfl) (aD 3 rfl rfl)) (BH (aD 3 rfl rfl) aQ)) aQ) (aD 2 rfl rfl))))
def W2:aN:=bT (dU 1 (cB (aa (ae 0) ag)) (aL 1) dI (dU 1 (cB (aa (ae 0) ag)) (aL 2) dI (eB y8 (aa (ae 1) (aa (ae 2) ag))) false) false)
def j4:=cM 1 (W2)
def W3:aj ["_law_many"] ["_law_many"] (bD (top 28)):=dE (by decide +kernel)
abbrev IH:List Str:=["_law_many","_law_one","_law_other"]
def W4:(IH).Nodup:=by decide +kernel
abbrev II:List Str:=["_law_many","_law_one"]
def W5:(II).Nodup:=by decide +kernel
def W6(B:Bt mg)(a:At K mg "_law_chain" (top 28) ["_law_many"]):aI P w K mg base 1 "_law_chain" 1 (j4):=
 aI.dA a W3 fun _ _ _ _ _ _ _ hr=>
  aY (cn (jU (k:=1) (N':=II) false rfl ⟨rfl,by decide +kernel,rfl,rfl,rfl⟩ (fA B.aw (au (cj (qv 0)) ao d_)) (fun _ _ _ _=>cq (i:=1) (show 1<=1 by decide) W5 rfl (Or.inr rfl) (Or.inl rfl)) (fun _ _ _ _=>k9) (fun _ _ _ _=>jU (k:=1) (N':=IH) false rfl ⟨rfl,by decide +kernel,rfl,rfl,rfl⟩ (fA B.aw (au (cj (qv 0)) ao d_)) (fun _ _ _ _=>cq (i:=2) (show 2<=2 by decide) W4 rfl (Or.inl rfl) (Or.inr rfl)) (fun _ _ _ _=>k9) (fun _ _ _ _=>F9 rfl B.qR VT (au (cj (qv 1)) (au (cj (qv 2)) ao d_) d_)))))
abbrev W7:aN:=aG (ba 7 (cA (ay 0 (e2 yR (ae 4) (ae 2))) (e2 yR (ae 6) (ae 2))))
 (eI (iq 5 (aa (e2 bQ (e2 jz (ae 7) (ae 2)) (cA (ay 1 (e2 rV (ae 4) (ae 2))) (e2 rV (ae 6) (ae 2)))) ag)))
abbrev W8:aN:=aG (ba 5 (cW ag))
 (aG (eJ (cB (aa (e2 jz (bL 0) (ae 2)) ag)) (aL 6) W7)
 (eI (iq 3 (aa (ae 5) ag))))
def W9:aN:=aG (ba 2 (bL 1))
 (aG (ba 3 (cW ag))
 (aG (eJ (cB (aa (e2 jz (bL 0) (ae 2)) ag)) (aL 4) W8)
 (bT (ae 3))))
def nZ:=cM 8 (W9)
def sX:aj ["_law_one","_law_other","_law_many","_law_made","_law_here","_law_row","_law_there","_law_first"] ["_law_one","_law_other"] (bD (top 29)):=dE (by decide +kernel)
def W_(B:Bt mg)(a:At K mg "_law_couples" (top 29) ["_law_one","_law_other"]):aI P w K mg base 1 "_law_couples" 2 (nZ):=
 aI.dA a sX fun _ _ _ _ _ _ _ hr=>
  aR (bJ (i:=2) sX.nd rfl (Or.inl rfl) (d9 B.aO (ql 1 rfl rfl)))
  (aR (bJ (i:=3) sX.nd rfl (Or.inl rfl) (eT ao))
  (aR (gN QN rfl (fA B.aw (au (mB (d9 B.aO (ql 0 rfl rfl)) (aD 2 rfl rfl)) ao eZ)) (cq (i:=4) (show 0<=4 by decide) sX.nd rfl (Or.inl rfl)) (aR (bJ (i:=5) sX.nd rfl (Or.inl rfl) (eT ao))
  (aR (gN QN rfl (fA B.aw (au (mB (d9 B.aO (ql 0 rfl rfl)) (aD 2 rfl rfl)) ao eZ)) (cq (i:=6) (show 0<=6 by decide) sX.nd rfl (Or.inl rfl)) (aR (bJ (i:=7) sX.nd rfl (Or.inl rfl) (fL (bB (ql 0 rfl rfl) (BH (aD 4 rfl rfl) (aD 2 rfl rfl))) (BH (aD 6 rfl rfl) (aD 2 rfl rfl))))
  (aY (i_ (lS (ql 5 rfl rfl) (au (dk (mB (aD 7 rfl rfl) (aD 2 rfl rfl)) (fL (bB (ql 1 rfl rfl) (ua (aD 4 rfl rfl) (aD 2 rfl rfl))) (ua (aD 6 rfl rfl) (aD 2 rfl rfl)))) ao eZ))))))
  (aY (i_ (lS (ql 3 rfl rfl) (aH 5 rfl rfl ao)))))))
  (aY (cn (aD 3 rfl rfl)))))
abbrev Xa:aN:=eI (iq 3 (aa (oP (nQ (a_ (e2 qk (eC (.int 0)) (cX (aa (ae 2) (aa (ae 4) ag))))) (a_ (e2 cG (ae 2) (ae 4)))) (eB y8 (aa (ae 2) (aa (ae 4) ag))) (e2 bQ (ae 0) (eC (.int 1)))) ag))
abbrev Xb:aN:=aG (ba 3 (cW ag))
 (aG (eJ (cB (aa (e2 bQ (ae 0) (eC (.int 2))) ag)) (aL 4) Xa)
 (eI (iq 1 (aa (ae 3) ag))))
def Xc:aN:=aG (ba 1 (cW ag))
 (aG (eJ (cB (aa (e2 bQ (ae 0) (eC (.int 2))) ag)) (aL 2) Xb)
 (bT (ae 1)))
def pA:=cM 5 (Xc)
def xp:aj ["_law_many","_law_made","_law_one","_law_row","_law_other"] ["_law_many"] (bD (top 30)):=dE (by decide +kernel)
def Xd(B:Bt mg)(a:At K mg "_law_side_by_side" (top 30) ["_law_many"]):aI P w K mg base 1 "_law_side_by_side" 1 (pA):=
 aI.dA a xp fun _ _ _ _ _ _ _ hr=>
  aR (bJ (i:=1) xp.nd rfl (Or.inl rfl) (eT ao))
  (aR (gN QN rfl (fA B.aw (au (dk (aD 0 rfl rfl) aQ) ao eZ)) (cq (i:=2) (show 0<=2 by decide) xp.nd rfl (Or.inl rfl)) (aR (bJ (i:=3) xp.nd rfl (Or.inl rfl) (eT ao))
  (aR (gN QN rfl (fA B.aw (au (dk (aD 0 rfl rfl) aQ) ao eZ)) (cq (i:=4) (show 0<=4 by decide) xp.nd rfl (Or.inl rfl)) (aY (i_ (lS (ql 3 rfl rfl) (au (FL (uA (vC (F7 hr aQ (gu (aH 2 rfl rfl (aH 4 rfl rfl ao)))) (yU (lR hr (aD 2 rfl rfl) (aD 4 rfl rfl))))) (F9 rfl B.qR VT (aH 2 rfl rfl (aH 4 rfl rfl ao))) (dk (aD 0 rfl rfl) aQ)) ao P9)))))
  (aY (i_ (lS (ql 1 rfl rfl) (aH 3 rfl rfl ao)))))))
  (aY (cn (aD 1 rfl rfl))))
def IJ:aN:=aG (ba 2 (aE bX 3 (aa (ae 0) (aa (ae 1) (aa (eC (.int 9)) ag)))))
 (aG (cY (a_ (e2 ki (ae 2) (eC (.int 3)))) (bT (aE j4 1 (aa (e2 bQ (eC (.int 1)) (aE bX 3 (aa (ae 0) (aa (e2 bQ (ae 1) (eC (.int 1))) (aa (eC (.int 5)) ag))))) ag))) dG)
 (aG (cY (a_ (e2 ki (ae 2) (eC (.int 5)))) (bT (aE nZ 2 (aa (aE j4 1 (aa (eC (.int 2)) ag)) (aa (aE j4 1 (aa (cA (cW (aa (eC (.int 2)) (aa (eC (.int 3)) (aa (eC (.int 4)) ag)))) (aE bX 3 (aa (ae 0) (aa (e2 bQ (ae 1) (eC (.int 1))) (aa (eC (.int 3)) ag))))) ag)) ag)))) dG)
 (aG (cY (a_ (e2 ki (ae 2) (eC (.int 7)))) (bT (aE pA 1 (aa (aE bX 3 (aa (ae 0) (aa (e2 bQ (ae 1) (eC (.int 1))) (aa (eC (.int 5)) ag)))) ag))) dG)
 (aG (cY (a_ (e2 cG (ae 2) (eC (.int 7)))) (bT (aE nZ 2 (aa (aE j4 1 (aa (eC (.int 2)) ag)) (aa (aE nZ 2 (aa (aE j4 1 (aa (eC (.int 2)) ag)) (aa (aE j4 1 (aa (eC (.int 2)) ag)) ag))) ag)))) dG)
 (aG (ba 3 (cW (aa (cW (aa (eC (.int 0)) (aa (eC (.int 1)) (aa (eC (.int 2)) (aa (eC (.int 3)) (aa (eC (.int 4)) ag)))))) (aa (cW (aa (eC (.int 1)) (aa (eC (.int 1)) (aa (eC (.int 2)) (aa (eC (.int 4)) (aa (eC (.int 4)) ag)))))) (aa (cW (aa (eC (.int 2)) (aa (eC (.int 2)) (aa (eC (.int 2)) (aa (eC (.int 4)) (aa (eC (.int 4)) ag)))))) (aa (cW (aa (eC (.int 3)) (aa (eC (.int 4)) (aa (eC (.int 4)) (aa (eC (.int 3)) (aa (eC (.int 4)) ag)))))) (aa (cW (aa (eC (.int 4)) (aa (eC (.int 4)) (aa (eC (.int 4)) (aa (eC (.int 4)) (aa (eC (.int 4)) ag)))))) ag)))))))
 (bT (ae 3)))))))
def xq:=cM 4 (IJ)
def DH:aj ["_law_script","_law_at","_law_kind","_law_rows"] ["_law_script","_law_at"] (bD (top 31)):=dE (by decide +kernel)
def Xe(B:Bt mg)(dX:aI P w K mg base 2 "_law_pick" 3 bX)(c8:aI P w K mg base 1 "_law_chain" 1 j4)(DI:aI P w K mg base 1 "_law_couples" 2 nZ)(Xf:aI P w K mg base 1 "_law_side_by_side" 1 pA)(a:At K mg "_law_base" (top 31) ["_law_script","_law_at"]):aI P w K mg base 3 "_law_base" 2 (xq):=
 aI.dA a DH fun _ _ _ _ _ _ _ hr=>
  aR (bJ (i:=2) DH.nd rfl (Or.inl rfl) (bo dX hr (by decide) (aH 0 rfl rfl (aH 1 rfl rfl (bU ao)))))
  (aR (eU (vB (aD 2 rfl rfl) aQ) (aY (cn (bo c8 hr (by decide) (au (dk aQ (bo dX hr (by decide) (aH 0 rfl rfl (au (dk (aD 1 rfl rfl) aQ) (bU ao) eZ)))) ao eZ)))) fy)
  (aR (eU (vB (aD 2 rfl rfl) aQ) (aY (cn (bo DI hr (by decide) (au (bo c8 hr (by decide) (bU ao)) (au (bo c8 hr (by decide) (au (fL (eT (bU (bU (bU ao)))) (bo dX hr (by decide) (aH 0 rfl rfl (au (dk (aD 1 rfl rfl) aQ) (bU ao) eZ)))) ao dy)) ao bO) bO)))) fy)
  (aR (eU (vB (aD 2 rfl rfl) aQ) (aY (cn (bo Xf hr (by decide) (au (bo dX hr (by decide) (aH 0 rfl rfl (au (dk (aD 1 rfl rfl) aQ) (bU ao) eZ))) ao bO)))) fy)
  (aR (eU (lR hr (aD 2 rfl rfl) aQ) (aY (cn (bo DI hr (by decide) (au (bo c8 hr (by decide) (bU ao)) (au (bo DI hr (by decide) (au (bo c8 hr (by decide) (bU ao)) (au (bo c8 hr (by decide) (bU ao)) ao bO) bO)) ao bO) bO)))) fy)
  (aR (bJ (i:=3) DH.nd rfl (Or.inl rfl) (eT (au (eT (bU (bU (bU (bU (bU ao)))))) (au (eT (bU (bU (bU (bU (bU ao)))))) (au (eT (bU (bU (bU (bU (bU ao)))))) (au (eT (bU (bU (bU (bU (bU ao)))))) (au (eT (bU (bU (bU (bU (bU ao)))))) ao uf) uf) uf) uf) uf)))
  (aY (cn (aD 3 rfl rfl))))))))
abbrev Xg:aN:=vP 5 (nT 4 (sk 6)) (nT 4 (sk 7)) (ay 4 (cA (ay 2 (ae 6)) (ae 7)))
abbrev Xh:aN:=eJ (cB (aa (bL 2) ag)) (aL 7) (Xg)
def IK:aN:=aG (ba 2 (aE xq 2 (aa (ae 0) (aa (ae 1) ag))))
 (aG (ba 3 (qq (aa (bL 2) ag)))
 (aG (ba 4 (dU 1 (cB (aa (bL 2) ag)) (aL 8) dI (vJ 3 (aa (aE bX 3 (aa (ae 0) (aa (e2 bQ (e2 bQ (ae 1) (eC (.int 2))) (ae 8)) (aa (bL 3) ag)))) ag)) false))
 (aG (ba 5 (dU 1 (d8 (ae 2)) (aL 8) dI (vN (cW (aa (eC (.int 0)) ag)) (bL 2)) true))
 (aG (eJ (cB (aa (bL 2) ag)) (aL 6) Xh)
 (bT (kr (aa (dU 1 (d8 (ae 5)) (aL 8) dI (kr (aa (ae 8) ag)) false) ag)))))))
def xt:=cM 8 (IK)
def sY:aj ["_law_script","_law_at","_law_base_here","_law_left","_law_name","_law_made","_law_one","_law_other"] ["_law_script","_law_at"] (bD (top 32)):=dE (by decide +kernel)
abbrev IL:List Str:=["_law_script","_law_at","_law_base_here","_law_left","_law_name","_law_made","_law_one","_law_other","_law_k"]
def Xi:(IL).Nodup:=by decide +kernel
abbrev DJ:List Str:=["_law_script","_law_at","_law_base_here","_law_left","_law_name","_law_made","_law_one","_law_other","_law_row"]
def IM:(DJ).Nodup:=by decide +kernel
def Xj(B:Bt mg)(c0:aI P w K mg base 3 "_law_base" 2 xq)(dX:aI P w K mg base 2 "_law_pick" 3 bX)(a:At K mg "_law_ladder" (top 32) ["_law_script","_law_at"]):aI P w K mg base 4 "_law_ladder" 2 (xt):=
 aI.dA a sY fun _ _ _ _ _ _ _ hr=>
  aR (bJ (i:=2) sY.nd rfl (Or.inr rfl) (bo c0 hr (by decide) (au (cj (qv 0)) (au (cj (qv 1)) ao d_) d_)))
  (aR (bJ (i:=3) sY.nd rfl (Or.inr rfl) (BW rfl B.dW Zx B.aw (au (d9 B.aO (qv 2)) ao bO)))
  (aR (y6 (i:=4) (k:=1) (N':=IL) false sY.nd rfl (Or.inl rfl) rfl rfl ⟨rfl,by decide +kernel,rfl,rfl,rfl⟩ (fA B.aw (au (d9 B.aO (qv 2)) ao bO)) (fun _ _ _ _=>cq (i:=8) (show 8<=8 by decide) Xi rfl (Or.inl rfl) (Or.inr rfl)) (fun _ _ _ _=>k9) (fun _ _ _ _=>P1 (qv 3) (au (bo dX hr (by decide) (au (cj (qv 0)) (au (dk (dk (cj (qv 1)) aQ) (cj (qv 8))) (au (d9 B.aO (qv 3)) ao bO) eZ) d_)) ao bO)))
  (aR (y6 (i:=5) (k:=1) (N':=DJ) true sY.nd rfl (Or.inl rfl) rfl rfl ⟨rfl,by decide +kernel,rfl,rfl,rfl⟩ (km (cj (qv 2))) (fun _ _ _ _=>cq (i:=8) (show 8<=8 by decide) IM rfl (Or.inl rfl) (Or.inr rfl)) (fun _ _ _ _=>k9) (fun _ _ _ _=>P5 (eT (bU ao)) (d9 B.aO (qv 2))))
  (aR (gN QN rfl (fA B.aw (au (d9 B.aO (qv 2)) ao bO)) (cq (i:=6) (show 0<=6 by decide) sY.nd rfl (Or.inl rfl)) (aY (gN QN rfl (fA B.aw (au (d9 B.aO (qv 2)) ao bO)) (cq (i:=7) (show 0<=7 by decide) sY.nd rfl (Or.inl rfl)) (aY (P7 (ql 5 rfl rfl) (B7 (ql 4 rfl rfl) (Gn (ql 6 rfl rfl))) (B7 (ql 4 rfl rfl) (Gn (ql 7 rfl rfl))) (bB (ql 4 rfl rfl) (fL (bB (qv 2) (aD 6 rfl rfl)) (aD 7 rfl rfl))))))))
  (aY (cn (si B.cw Zg (au (jU (k:=1) (N':=DJ) false rfl ⟨rfl,by decide +kernel,rfl,rfl,rfl⟩ (km (aD 5 rfl rfl)) (fun _ _ _ _=>cq (i:=8) (show 8<=8 by decide) IM rfl (Or.inl rfl) (Or.inr rfl)) (fun _ _ _ _=>k9) (fun _ _ _ _=>si B.cw Zg (au (cj (qv 8)) ao d_))) ao Ca))))))))
def IP:aN:=bT (cA (dU 1 (cB (aa (bL 0) ag)) (aL 1) (a_ (e2 cG (qp (aa (ay 0 (ae 1)) ag)) (qq (aa (bL 0) ag)))) (ae 1) false) (eC (.int 0)))
def jh:=cM 1 (IP)
def Xk:aj ["_law_ladder_here"] ["_law_ladder_here"] (bD (top 33)):=dE (by decide +kernel)
abbrev IQ:List Str:=["_law_ladder_here","_law_worth"]
def Xl:(IQ).Nodup:=by decide +kernel
def Xm(B:Bt mg)(a:At K mg "_law_low" (top 33) ["_law_ladder_here"]):aI P w K mg base 1 "_law_low" 1 (jh):=
 aI.dA a Xk fun _ _ _ _ _ _ _ hr=>
  aY (cn (fL (jU (k:=1) (N':=IQ) false rfl ⟨rfl,by decide +kernel,rfl,rfl,rfl⟩ (fA B.aw (au (d9 B.aO (qv 0)) ao bO)) (fun _ _ _ _=>cq (i:=1) (show 1<=1 by decide) Xl rfl (Or.inl rfl) (Or.inr rfl)) (fun _ _ _ _=>ub (lR hr (F_ B.dW Zx (au (bB (qv 0) (cj (qv 1))) ao dy)) (BW rfl B.dW Zx B.aw (au (d9 B.aO (qv 0)) ao bO)))) (fun _ _ _ _=>cj (qv 1))) aQ))
abbrev Xn:aN:=ba 2 (cA (ay 0 (ae 2)) (ae 3))
def IS:aN:=aG (ba 2 (aE jh 1 (aa (ae 0) ag)))
 (aG (eJ (d8 (ae 1)) (aL 3) Xn)
 (bT (ae 2)))
def sZ:=cM 4 (IS)
def zU:aj ["_law_ladder_here","_law_worths","_law_here","_law_worth"] ["_law_ladder_here","_law_worths"] (bD (top 34)):=dE (by decide +kernel)
def Xo(B:Bt mg)(pB:aI P w K mg base 1 "_law_low" 1 jh)(a:At K mg "_law_join" (top 34) ["_law_ladder_here","_law_worths"]):aI P w K mg base 2 "_law_join" 2 (sZ):=
 aI.dA a zU fun _ _ _ _ _ _ _ hr=>
  aR (bJ (i:=2) zU.nd rfl (Or.inl rfl) (bo pB hr (by decide) (aH 0 rfl rfl ao)))
  (aR (gN QN rfl (km (aD 1 rfl rfl)) (cq (i:=3) (show 0<=3 by decide) zU.nd rfl (Or.inl rfl)) (aY (bJ (i:=2) zU.nd rfl (Or.inl rfl) (fL (bB (ql 0 rfl rfl) (aD 2 rfl rfl)) (aD 3 rfl rfl)))))
  (aY (cn (aD 2 rfl rfl))))
def IU:aN:=bT (dU 1 (cB (aa (bL 0) ag)) (aL 2) (a_ (e2 cG (cA (ay 0 (ae 2)) (ae 1)) (ae 1))) (ae 2) false)
def qT:=cM 2 (IU)
def Xp:aj ["_law_ladder_here","_law_worth"] ["_law_ladder_here","_law_worth"] (bD (top 35)):=dE (by decide +kernel)
abbrev IV:List Str:=["_law_ladder_here","_law_worth","_law_one"]
def Xq:(IV).Nodup:=by decide +kernel
def Xr(B:Bt mg)(a:At K mg "_law_under" (top 35) ["_law_ladder_here","_law_worth"]):aI P w K mg base 1 "_law_under" 2 (qT):=
 aI.dA a Xp fun _ _ _ _ _ _ _ hr=>
  aY (cn (jU (k:=1) (N':=IV) false rfl ⟨rfl,by decide +kernel,rfl,rfl,rfl⟩ (fA B.aw (au (d9 B.aO (qv 0)) ao bO)) (fun _ _ _ _=>cq (i:=2) (show 2<=2 by decide) Xq rfl (Or.inl rfl) (Or.inr rfl)) (fun _ _ _ _=>ub (lR hr (fL (bB (qv 0) (cj (qv 2))) (cj (qv 1))) (cj (qv 1)))) (fun _ _ _ _=>cj (qv 2))))
abbrev Xs:aN:=eI (iq 6 (aa (aE sZ 2 (aa (ae 2) (aa (dU 1 (d8 (aE qT 2 (aa (ae 2) (aa (ae 5) ag)))) (aL 7) dI (ay 4 (ae 7)) false) ag))) ag))
abbrev Xu:aN:=eI (iq 4 (aa (cA (cW (aa (ae 3) (aa (ae 5) (aa (aE bX 3 (aa (ae 0) (aa (e2 bQ (ae 1) (ae 5)) (aa (bL 2) ag)))) ag)))) (aE bX 3 (aa (ae 0) (aa (e2 bQ (e2 bQ (ae 1) (eC (.int 8))) (ae 5)) (aa (eC (.int 3)) ag))))) ag))
def IW:aN:=aG (ba 3 (aE jh 1 (aa (ae 2) ag)))
 (aG (ba 4 (cW ag))
 (aG (eJ (cB (aa (bL 2) ag)) (aL 5) Xu)
 (aG (ba 6 (cW ag))
 (aG (eJ (cB (aa (bL 2) ag)) (aL 5) Xs)
 (bT (kr (aa (ae 6) ag)))))))
def s_:=cM 7 (IW)
def uE:aj ["_law_script","_law_at","_law_ladder_here","_law_low_here","_law_drawn","_law_worth","_law_made"] ["_law_script","_law_at","_law_ladder_here"] (bD (top 36)):=dE (by decide +kernel)
abbrev IX:List Str:=["_law_script","_law_at","_law_ladder_here","_law_low_here","_law_drawn","_law_worth","_law_made","_law_one"]
def Xv:(IX).Nodup:=by decide +kernel
def Xw(B:Bt mg)(pB:aI P w K mg base 1 "_law_low" 1 jh)(dX:aI P w K mg base 2 "_law_pick" 3 bX)(Xx:aI P w K mg base 2 "_law_join" 2 sZ)(Xy:aI P w K mg base 1 "_law_under" 2 qT)(a:At K mg "_law_rule" (top 36) ["_law_script","_law_at","_law_ladder_here"]):aI P w K mg base 3 "_law_rule" 3 (s_):=
 aI.dA a uE fun _ _ _ _ _ _ _ hr=>
  aR (bJ (i:=3) uE.nd rfl (Or.inl rfl) (bo pB hr (by decide) (aH 2 rfl rfl ao)))
  (aR (bJ (i:=4) uE.nd rfl (Or.inr rfl) (eT ao))
  (aR (gN QN rfl (fA B.aw (au (d9 B.aO (ql 2 rfl rfl)) ao bO)) (cq (i:=5) (show 0<=5 by decide) uE.nd rfl (Or.inl rfl)) (aY (i_ (lS (qv 4) (au (fL (eT (aH 3 rfl rfl (aH 5 rfl rfl (au (bo dX hr (by decide) (aH 0 rfl rfl (au (dk (aD 1 rfl rfl) (aD 5 rfl rfl)) (au (d9 B.aO (ql 2 rfl rfl)) ao bO) eZ))) ao bO)))) (bo dX hr (by decide) (aH 0 rfl rfl (au (dk (dk (aD 1 rfl rfl) aQ) (aD 5 rfl rfl)) (bU ao) eZ)))) ao dy)))))
  (aR (bJ (i:=6) uE.nd rfl (Or.inl rfl) (eT ao))
  (aR (gN QN rfl (fA B.aw (au (d9 B.aO (ql 2 rfl rfl)) ao bO)) (cq (i:=5) (show 0<=5 by decide) uE.nd rfl (Or.inl rfl)) (aY (i_ (lS (ql 6 rfl rfl) (au (bo Xx hr (by decide) (aH 2 rfl rfl (au (jU (k:=1) (N':=IX) false rfl ⟨rfl,by decide +kernel,rfl,rfl,rfl⟩ (km (bo Xy hr (by decide) (aH 2 rfl rfl (aH 5 rfl rfl ao)))) (fun _ _ _ _=>cq (i:=7) (show 7<=7 by decide) Xv rfl (Or.inl rfl) (Or.inr rfl)) (fun _ _ _ _=>k9) (fun _ _ _ _=>bB (qv 4) (cj (qv 7)))) ao Ca))) ao bO)))))
  (aY (cn (si B.cw Zg (aH 6 rfl rfl ao))))))))
abbrev Xz:aN:=aG (ba 4 (cA (ay 0 (ay 1 (ae 2))) (ay 1 (ae 3))))
 (cY (a_ (e2 fC (ay 1 (cA (ay 0 (ae 2)) (ae 3))) (ae 4))) (bT (eC (.bl false))) dG)
abbrev XA:aN:=eJ (cB (aa (ae 2) ag)) (aL 3) (Xz)
def XB:aN:=aG (eJ (cB (aa (bL 0) ag)) (aL 2) XA)
 (bT (eC (.bl true)))
def DK:=cM 5 (XB)
def zV:aj ["_law_ladder_here","_law_rule_here","_law_one","_law_other","_law_due"] ["_law_ladder_here","_law_rule_here"] (bD (top 37)):=dE (by decide +kernel)
def XD(B:Bt mg)(a:At K mg "_law_spreads" (top 37) ["_law_ladder_here","_law_rule_here"]):aI P w K mg base 1 "_law_spreads" 2 (DK):=
 aI.dA a zV fun _ _ _ _ _ _ _ hr=>
  aR (gN QN rfl (fA B.aw (au (d9 B.aO (ql 0 rfl rfl)) ao bO)) (cq (i:=2) (show 0<=2 by decide) zV.nd rfl (Or.inl rfl)) (aY (gN QN rfl (fA B.aw (aH 2 rfl rfl ao)) (cq (i:=3) (show 0<=3 by decide) zV.nd rfl (Or.inl rfl)) (aR (bJ (i:=4) zV.nd rfl (Or.inl rfl) (fL (bB (ql 0 rfl rfl) (bB (ql 1 rfl rfl) (aD 2 rfl rfl))) (bB (ql 1 rfl rfl) (aD 3 rfl rfl))))
  (aY (eU (qo hr (bB (ql 1 rfl rfl) (fL (bB (ql 0 rfl rfl) (aD 2 rfl rfl)) (aD 3 rfl rfl))) (aD 4 rfl rfl)) (aY (cn oK)) fy))))))
  (aY (cn oK))
def XE:aN:=aG (ba 3 (aE s_ 3 (aa (ae 0) (aa (ae 1) (aa (ae 2) ag)))))
 (aG (cY (iA (aE DK 2 (aa (ae 2) (aa (ae 3) ag)))) (bT (ae 3)) dG)
 (aG (ba 4 (aE bX 3 (aa (ae 0) (aa (e2 bQ (ae 1) (eC (.int 17))) (aa (bL 2) ag)))))
 (aG (ba 5 (cW (aa (kr (aa (qq (aa (bL 2) ag)) ag)) (aa (Cf (cX (aa (ae 4) ag)) (bL 2)) ag))))
 (aG (eI (iq 5 (aa (kr (aa (dU 1 (cB (aa (bL 2) ag)) (aL 6) dI (cA (ay 2 (ae 6)) (ae 4)) false) ag)) ag)))
 (bT (ay 5 (aE bX 3 (aa (ae 0) (aa (e2 bQ (ae 1) (eC (.int 16))) (aa (eC (.int 3)) ag))))))))))
def DL:=cM 6 (XE)
def zW:aj ["_law_script","_law_at","_law_ladder_here","_law_rule_here","_law_worth","_law_some"] ["_law_script","_law_at","_law_ladder_here"] (bD (top 38)):=dE (by decide +kernel)
abbrev IY:List Str:=["_law_script","_law_at","_law_ladder_here","_law_rule_here","_law_worth","_law_some","_law_one"]
def XF:(IY).Nodup:=by decide +kernel
def XG(B:Bt mg)(DM:aI P w K mg base 3 "_law_rule" 3 s_)(XH:aI P w K mg base 1 "_law_spreads" 2 DK)(dX:aI P w K mg base 2 "_law_pick" 3 bX)(a:At K mg "_law_spread_rule" (top 38) ["_law_script","_law_at","_law_ladder_here"]):aI P w K mg base 4 "_law_spread_rule" 3 (DL):=
 aI.dA a zW fun _ _ _ _ _ _ _ hr=>
  aR (bJ (i:=3) zW.nd rfl (Or.inl rfl) (bo DM hr (by decide) (aH 0 rfl rfl (aH 1 rfl rfl (au (cj (qv 2)) ao d_)))))
  (aR (eU (oO (bo XH hr (by decide) (au (cj (qv 2)) (aH 3 rfl rfl ao) d_))) (aY (cn (aD 3 rfl rfl))) fy)
  (aR (bJ (i:=4) zW.nd rfl (Or.inr rfl) (bo dX hr (by decide) (aH 0 rfl rfl (au (dk (aD 1 rfl rfl) aQ) (au (d9 B.aO (qv 2)) ao bO) eZ))))
  (aR (bJ (i:=5) zW.nd rfl (Or.inl rfl) (eT (au (si B.cw Zg (au (BW rfl B.dW Zx B.aw (au (d9 B.aO (qv 2)) ao bO)) ao bO)) (au (Rx (gu (au (cj (qv 4)) ao d_)) (d9 B.aO (qv 2))) ao eZ) bO)))
  (aR (i_ (lS (ql 5 rfl rfl) (au (si B.cw Zg (au (jU (k:=1) (N':=IY) false rfl ⟨rfl,by decide +kernel,rfl,rfl,rfl⟩ (fA B.aw (au (d9 B.aO (qv 2)) ao bO)) (fun _ _ _ _=>cq (i:=6) (show 6<=6 by decide) XF rfl (Or.inl rfl) (Or.inr rfl)) (fun _ _ _ _=>k9) (fun _ _ _ _=>fL (bB (qv 2) (cj (qv 6))) (cj (qv 4)))) ao Ca)) ao bO)))
  (aY (cn (bB (ql 5 rfl rfl) (bo dX hr (by decide) (aH 0 rfl rfl (au (dk (aD 1 rfl rfl) aQ) (bU ao) eZ))))))))))
abbrev zX:aN:=aG (ba 10 (aE bX 3 (aa (ae 0) (aa (e2 bQ (e2 bQ (ae 1) (eC (.int 3))) (e2 jz (eC (.int 2)) (ae 6))) (aa (bL 2) ag)))))
 (eI (iq 9 (aa (cX (aa (aE bX 3 (aa (ae 0) (aa (e2 bQ (e2 bQ (ae 1) (eC (.int 4))) (e2 jz (eC (.int 2)) (ae 6))) (aa (ae 4) ag)))) (aa (ae 10) ag))) ag)))
abbrev zY:aN:=aG (ba 7 (e2 bQ (e2 bQ (ae 1) (eC (.int 10))) (e2 jz (eC (.int 22)) (ae 6))))
 (aG (ba 8 (aE s_ 3 (aa (ae 0) (aa (e2 bQ (ae 7) (eC (.int 2))) (aa (ae 2) ag)))))
 (aG (cY (iA (ae 3)) (ba 8 (aE DL 3 (aa (ae 0) (aa (e2 bQ (ae 7) (eC (.int 2))) (aa (ae 2) ag))))) dG)
 (eI (iq 5 (aa (cX (aa (aE bX 3 (aa (ae 0) (aa (ae 7) (aa (ae 4) ag)))) (aa (aE bX 3 (aa (ae 0) (aa (e2 bQ (ae 7) (eC (.int 1))) (aa (ae 4) ag)))) (aa (ae 8) ag)))) ag)))))
def IZ:aN:=aG (ba 4 (e2 bQ (eC (.int 1)) (aE bX 3 (aa (ae 0) (aa (ae 1) (aa (eC (.int 5)) ag))))))
 (aG (ba 5 (cW ag))
 (aG (eJ (cB (aa (aE bX 3 (aa (ae 0) (aa (e2 bQ (ae 1) (eC (.int 1))) (aa (eC (.int 8)) ag)))) ag)) (aL 6) zY)
 (aG (ba 9 (cW ag))
 (aG (eJ (cB (aa (aE bX 3 (aa (ae 0) (aa (e2 bQ (ae 1) (eC (.int 2))) (aa (eC (.int 4)) ag)))) ag)) (aL 6) zX)
 (bT (cX (aa (ae 4) (aa (kr (aa (ae 5) ag)) (aa (kr (aa (ae 9) ag)) ag)))))))))
def xu:=cM 11 (IZ)
def n4:aj ["_law_script","_law_at","_law_ladder_here","_law_spread","_law_places","_law_ways","_law_k","_law_base_here","_law_rule_here","_law_begins","_law_worth"] ["_law_script","_law_at","_law_ladder_here","_law_spread"] (bD (top 39)):=dE (by decide +kernel)
def XI(B:Bt mg)(dX:aI P w K mg base 2 "_law_pick" 3 bX)(DM:aI P w K mg base 3 "_law_rule" 3 s_)(XJ:aI P w K mg base 4 "_law_spread_rule" 3 DL)(a:At K mg "_law_chart" (top 39) ["_law_script","_law_at","_law_ladder_here","_law_spread"]):aI P w K mg base 5 "_law_chart" 4 (xu):=
 aI.dA a n4 fun _ _ _ _ _ _ _ hr=>
  aR (bJ (i:=4) n4.nd rfl (Or.inl rfl) (dk aQ (bo dX hr (by decide) (aH 0 rfl rfl (aH 1 rfl rfl (bU ao))))))
  (aR (bJ (i:=5) n4.nd rfl (Or.inl rfl) (eT ao))
  (aR (gN QN rfl (fA B.aw (au (bo dX hr (by decide) (aH 0 rfl rfl (au (dk (aD 1 rfl rfl) aQ) (bU ao) eZ))) ao bO)) (cq (i:=6) (show 0<=6 by decide) n4.nd rfl (Or.inl rfl)) (aR (bJ (i:=7) n4.nd rfl (Or.inl rfl) (dk (dk (aD 1 rfl rfl) aQ) (mB aQ (aD 6 rfl rfl))))
  (aR (bJ (i:=8) n4.nd rfl (Or.inl rfl) (bo DM hr (by decide) (aH 0 rfl rfl (au (dk (aD 7 rfl rfl) aQ) (aH 2 rfl rfl ao) eZ))))
  (aR (eU (oO (aD 3 rfl rfl)) (aY (bJ (i:=8) n4.nd rfl (Or.inl rfl) (bo XJ hr (by decide) (aH 0 rfl rfl (au (dk (aD 7 rfl rfl) aQ) (aH 2 rfl rfl ao) eZ))))) fy)
  (aY (i_ (lS (ql 5 rfl rfl) (au (gu (au (bo dX hr (by decide) (aH 0 rfl rfl (aH 7 rfl rfl (aH 4 rfl rfl ao)))) (au (bo dX hr (by decide) (aH 0 rfl rfl (au (dk (aD 7 rfl rfl) aQ) (aH 4 rfl rfl ao) eZ))) (aH 8 rfl rfl ao) bO) bO)) ao Cb))))))))
  (aR (bJ (i:=9) n4.nd rfl (Or.inl rfl) (eT ao))
  (aR (gN QN rfl (fA B.aw (au (bo dX hr (by decide) (aH 0 rfl rfl (au (dk (aD 1 rfl rfl) aQ) (bU ao) eZ))) ao bO)) (cq (i:=6) (show 0<=6 by decide) n4.nd rfl (Or.inl rfl)) (aR (bJ (i:=10) n4.nd rfl (Or.inl rfl) (bo dX hr (by decide) (aH 0 rfl rfl (au (dk (dk (aD 1 rfl rfl) aQ) (mB aQ (aD 6 rfl rfl))) (au (d9 B.aO (ql 2 rfl rfl)) ao bO) eZ))))
  (aY (i_ (lS (ql 9 rfl rfl) (au (gu (au (bo dX hr (by decide) (aH 0 rfl rfl (au (dk (dk (aD 1 rfl rfl) aQ) (mB aQ (aD 6 rfl rfl))) (aH 4 rfl rfl ao) eZ))) (aH 10 rfl rfl ao) bO)) ao Cb))))))
  (aY (cn (gu (aH 4 rfl rfl (au (si B.cw Zg (aH 5 rfl rfl ao)) (au (si B.cw Zg (aH 9 rfl rfl ao)) ao bO) bO)))))))))
abbrev uF:aN:=cY (qf (a_ (e2 cG (ae 6) (ae 4))) (a_ (qB (cX (aa (ae 7) (aa (ay 8 (ae 5)) ag))) 2))) (eI (iq 2 (aa (cX (aa (ae 7) (aa (ay 8 (ae 5)) ag))) ag))) (dG)
abbrev DN:aN:=aG (vU (ay 2 (ae 3)) (kz (cR (aL 4) (cR (aL 5) jD))))
 (aG (eJ (d8 (ay 1 (eC (.int 1)))) (kz (cR (aL 6) (cR (aL 7) (cR (aL 8) jD)))) uF)
 (ba 3 (e2 bQ (ae 3) (eC (.int 1)))))
def I0:aN:=aG (ba 2 (dU 1 (cB (aa (ay 1 (eC (.int 0))) ag)) (aL 9) dI (cX (aa (ae 9) (aa (aE jh 1 (aa (ae 0) ag)) ag))) false))
 (aG (eI (su 2 (dU 1 (d8 (ay 1 (eC (.int 2)))) (aL 9) (a_ (qB (ae 9) 2)) (ae 9) false)))
 (aG (ba 2 (uw (ae 2)))
 (aG (ba 3 (eC (.int 0)))
 (aG (ui (a_ (e2 ki (ae 3) (bL 2))) DN)
 (bT (Dg (ae 2)))))))
def xw:=cM 9 (I0)
def n6:aj ["_law_ladder_here","_law_chart_here","_law_found","_law_at","_law_place","_law_worth","_law_start","_law_goal","_law_rule_here"] ["_law_ladder_here","_law_chart_here"] (bD (top 41)):=dE (by decide +kernel)
abbrev I_:List Str:=["_law_ladder_here","_law_chart_here","_law_found","_law_at","#4","_law_worth","_law_start","_law_goal","_law_rule_here","_law_place"]
def XM:(I_).Nodup:=by decide +kernel
abbrev J_:List Str:=["_law_ladder_here","_law_chart_here","_law_found","_law_at","_law_place","_law_worth","_law_start","_law_goal","_law_rule_here","_law_begin"]
def XN:(J_).Nodup:=by decide +kernel
def XQ(B:Bt mg)(pB:aI P w K mg base 1 "_law_low" 1 jh)(a:At K mg "_law_states" (top 41) ["_law_ladder_here","_law_chart_here"]):aI P w K mg base 2 "_law_states" 2 (xw):=
 aI.dA a n6 fun _ _ _ _ _ _ _ hr=>
  aR (bJ (i:=2) n6.nd rfl (Or.inr rfl) (jU (k:=1) (N':=I_) false rfl ⟨rfl,by decide +kernel,rfl,rfl,rfl⟩ (fA B.aw (au (bB (ql 1 rfl rfl) aQ) ao dy)) (fun _ _ _ _=>cq (i:=9) (show 9<=9 by decide) XM rfl (Or.inl rfl) (Or.inr rfl)) (fun _ _ _ _=>k9) (fun _ _ _ _=>gu (au (cj (qv 9)) (au (bo pB hr (by decide) (au (cj (qv 0)) ao d_)) ao bO) d_))))
  (aR (i_ (Ci (qv 2) (jU (k:=1) (N':=J_) false rfl ⟨rfl,by decide +kernel,rfl,rfl,rfl⟩ (km (bB (ql 1 rfl rfl) aQ)) (fun _ _ _ _=>cq (i:=9) (show 9<=9 by decide) XN rfl (Or.inl rfl) (Or.inr rfl)) (fun _ _ _ _=>ub (GZ hr (cj (qv 9)) (qv 2))) (fun _ _ _ _=>cj (qv 9)))))
  (aR (bJ (i:=2) n6.nd rfl (Or.inr rfl) (HK rfl hr B.gD B.qS (cj (qv 2))))
  (aR (bJ (i:=3) n6.nd rfl (Or.inl rfl) aQ)
  (aR (Gv QN (vB (aD 3 rfl rfl) (d9 B.aO (qv 2))) (aR (Rp (bB (qv 2) (aD 3 rfl rfl)) (vR (n:=2) rfl (lT (cq (i:=4) (show 0<=4 by decide) n6.nd rfl (Or.inl rfl)) (lT (cq (i:=5) (show 0<=5 by decide) n6.nd rfl (Or.inl rfl)) vQ)) Cc))
  (aR (gN QN rfl (km (bB (ql 1 rfl rfl) aQ)) (vR (n:=3) rfl (lT (cq (i:=6) (show 0<=6 by decide) n6.nd rfl (Or.inl rfl)) (lT (cq (i:=7) (show 0<=7 by decide) n6.nd rfl (Or.inl rfl)) (lT (cq (i:=8) (show 0<=8 by decide) n6.nd rfl (Or.inl rfl)) vQ))) Gs) (aY (eU (uA (FK (lR hr (aD 6 rfl rfl) (aD 4 rfl rfl)) (FJ (GZ hr (gu (aH 7 rfl rfl (au (bB (ql 8 rfl rfl) (aD 5 rfl rfl)) ao dy))) (qv 2))))) (aY (i_ (lS (qv 2) (au (gu (aH 7 rfl rfl (au (bB (ql 8 rfl rfl) (aD 5 rfl rfl)) ao dy))) ao Cb)))) fy)))
  (aY (bJ (i:=3) n6.nd rfl (Or.inl rfl) (dk (aD 3 rfl rfl) aQ))))))
  (aY (cn (UI B.gD (cj (qv 2)))))))))
def Ka:aN:=aG (ba 1 (dU 1 (cB (aa (ay 0 (eC (.int 0))) ag)) (aL 2) dI (cX (aa (eC (.str "place")) (aa (ae 2) ag))) false))
 (bT (lU (ae 1) (dU 1 (cB (aa (eB iB (aa (ay 0 (eC (.int 2))) ag)) ag)) (aL 2) dI (cX (aa (eC (.str "begin")) (aa (ae 2) ag))) false)))
def tj:=cM 2 (Ka)
def Kb:aj ["chart","places"] ["chart"] (bD (top 16)):=dE (by decide +kernel)
abbrev DO:List Str:=["chart","places","number"]
def Kc:(DO).Nodup:=by decide +kernel
def XR(B:Bt mg)(a:At K mg "all_starts" (top 16) ["chart"]):aI P w K mg base 1 "all_starts" 1 (tj):=
 aI.dA a Kb fun _ _ _ _ _ _ _ hr=>
  aR (y6 (i:=1) (k:=1) (N':=DO) false Kb.nd rfl (Or.inl rfl) rfl rfl ⟨rfl,by decide +kernel,rfl,rfl,rfl⟩ (fA B.aw (au (bB (ql 0 rfl rfl) aQ) ao dy)) (fun _ _ _ _=>cq (i:=2) (show 2<=2 by decide) Kc rfl (Or.inl rfl) (Or.inr rfl)) (fun _ _ _ _=>k9) (fun _ _ _ _=>gu (au iQ (au (cj (qv 2)) ao d_) jb)))
  (aY (cn (zf (aD 1 rfl rfl) (jU (k:=1) (N':=DO) false rfl ⟨rfl,by decide +kernel,rfl,rfl,rfl⟩ (fA B.aw (au (vG B.aO (au (bB (ql 0 rfl rfl) aQ) ao dy)) ao bO)) (fun _ _ _ _=>cq (i:=2) (show 2<=2 by decide) Kc rfl (Or.inl rfl) (Or.inr rfl)) (fun _ _ _ _=>k9) (fun _ _ _ _=>gu (au iQ (au (cj (qv 2)) ao d_) jb))))))
def Kd:aN:=bT (dU 2 (wa (aa (ay 0 (eC (.int 1))) ag)) (kz (cR (aL 2) (cR (aL 3) jD))) (a_ (e2 cG (ay 3 (eC (.int 0))) (ae 1))) (ae 2) false)
def jH:=cM 2 (Kd)
def XS:aj ["chart","place"] ["chart","place"] (bD (top 19)):=dE (by decide +kernel)
abbrev Ke:List Str:=["chart","place","number","way"]
def Kf:(Ke).Nodup:=by decide +kernel
def XT(B:Bt mg)(a:At K mg "ways_from" (top 19) ["chart","place"]):aI P w K mg base 1 "ways_from" 2 (jH):=
 aI.dA a XS fun _ _ _ _ _ _ _ hr=>
  aY (cn (jU (k:=2) (N':=Ke) false rfl ⟨rfl,by decide +kernel,rfl,rfl,rfl⟩ (R0 B.jf (au (bB (ql 0 rfl rfl) aQ) ao dy)) (fun _ _ _ _=>vR (n:=2) rfl (lT (cq (i:=2) (show 2<=2 by decide) Kf rfl (Or.inl rfl) (Or.inr rfl)) (lT (cq (i:=3) (show 2<=3 by decide) Kf rfl (Or.inl rfl) (Or.inr rfl)) vQ)) Cc) (fun _ _ _ _=>ub (lR hr (bB (qv 3) aQ) (cj (qv 1)))) (fun _ _ _ _=>cj (qv 2))))
def Kg:aN:=aG (ba 3 (cA (ay 0 (eC (.int 1))) (ae 2)))
 (bT (cX (aa (ay 3 (eC (.int 1))) (aa (cA (ay 3 (eC (.int 2))) (ay 1 (eC (.int 1)))) ag))))
def n8:=cM 4 (Kg)
def Kh:aj ["chart","state","number","way"] ["chart","state","number"] (bD (top 20)):=dE (by decide +kernel)
def XU(B:Bt mg)(a:At K mg "led_on" (top 20) ["chart","state","number"]):aI P w K mg base 1 "led_on" 3 (n8):=
 aI.dA a Kh fun _ _ _ _ _ _ _ hr=>
  aR (bJ (i:=3) Kh.nd rfl (Or.inl rfl) (fL (bB (ql 0 rfl rfl) aQ) (aD 2 rfl rfl)))
  (aY (cn (gu (au (bB (ql 3 rfl rfl) aQ) (au (fL (bB (ql 3 rfl rfl) aQ) (bB (ql 1 rfl rfl) aQ)) ao dy) dy))))
abbrev xx:aN:=aG (ba 7 (aE n8 3 (aa (ae 0) (aa (ae 4) (aa (ae 6) ag)))))
 (cY (a_ (zI (ae 7) 1)) (w9 3 (ae 7) (cX (aa (ay 5 (eC (.int 0))) (aa (lU (ay 5 (eC (.int 1))) (cW (aa (ae 6) ag))) ag)))) dG)
abbrev DP:aN:=aG (ba 5 (uy 1 (ae 4)))
 (eJ (d8 (aE jH 2 (aa (ae 0) (aa (ay 4 (eC (.int 0))) ag)))) (aL 6) xx)
def Ki:aN:=aG (ba 3 Dm)
 (aG (eJ (d8 (ae 2)) (aL 4) DP)
 (zJ 3))
def uG:=cM 8 (Ki)
def uH:aj ["chart","paths","newest","longer","state","path","number","reached"] ["chart","paths","newest"] (bD (top 23)):=dE (by decide +kernel)
def XW(B:Bt mg)(uI:aI P w K mg base 1 "ways_from" 2 jH)(xy:aI P w K mg base 1 "led_on" 3 n8)(a:At K mg "longer_paths" (top 23) ["chart","paths","newest"]):aI P w K mg base 2 "longer_paths" 3 (uG):=
 aI.dA a uH fun _ _ _ _ _ _ _ hr=>
  aR (bJ (i:=3) uH.nd rfl (Or.inl rfl) HQ)
  (aR (gN QN rfl (km (aD 2 rfl rfl)) (cq (i:=4) (show 0<=4 by decide) uH.nd rfl (Or.inl rfl)) (aR (bJ (i:=5) uH.nd rfl (Or.inl rfl) (UR hr (ql 1 rfl rfl) (aD 4 rfl rfl)))
  (aY (gN QN rfl (km (bo uI hr (by decide) (aH 0 rfl rfl (au (bB (ql 4 rfl rfl) aQ) ao dy)))) (cq (i:=6) (show 0<=6 by decide) uH.nd rfl (Or.inl rfl)) (aR (bJ (i:=7) uH.nd rfl (Or.inl rfl) (bo xy hr (by decide) (aH 0 rfl rfl (aH 4 rfl rfl (aH 6 rfl rfl ao)))))
  (aY (eU (Wm hr (aD 7 rfl rfl) (ql 1 rfl rfl)) (aY (US hr (ql 3 rfl rfl) (aD 7 rfl rfl) (gu (au (bB (ql 5 rfl rfl) aQ) (au (zf (bB (ql 5 rfl rfl) aQ) (eT (aH 6 rfl rfl ao))) ao eZ) dy)))) fy)))))))
  (aY (HY (ql 3 rfl rfl))))
def Kj:aN:=bT (Gg (aa (ae 0) ag))
def xA:=cM 1 (Kj)
def XX:aj ["many"] ["many"] (bD (top 13)):=dE (by decide +kernel)
def XY(B:Bt mg)(a:At K mg "row_of_least" (top 13) ["many"]):aI P w K mg base 1 "row_of_least" 1 (xA):=
 aI.dA a XX fun _ _ _ _ _ _ _ hr=>
  aY (cn (PN rfl B.cw Zg B.aw (aH 0 rfl rfl ao)))
def Kk:aN:=bT (B5 (ae 0) (aa (aE xA 1 (aa (bL 0) ag)) ag))
def xB:=cM 1 (Kk)
def XZ:aj ["ladder"] ["ladder"] (bD (top 14)):=dE (by decide +kernel)
def X0(B:Bt mg)(X1:aI P w K mg base 1 "row_of_least" 1 xA)(a:At K mg "least_of" (top 14) ["ladder"]):aI P w K mg base 2 "least_of" 1 (xB):=
 aI.dA a XZ fun _ _ _ _ _ _ _ hr=>
  aY (cn (PZ hr (aD 0 rfl rfl) (au (bo X1 hr (by decide) (au (d9 B.aO (ql 0 rfl rfl)) ao bO)) ao bO)))
def Kl:aN:=aG (cY (a_ (e2 cG (ay 2 (eC (.int 0))) (eC (.str "place")))) (bT (cX (aa (ay 2 (eC (.int 1))) (aa (aE xB 1 (aa (ae 0) ag)) ag)))) dG)
 (bT (cA (ay 1 (eC (.int 2))) (ay 2 (eC (.int 1)))))
def nv:=cM 3 (Kl)
def X2:aj ["ladder","chart","start"] ["ladder","chart","start"] (bD (top 18)):=dE (by decide +kernel)
def X3(B:Bt mg)(X4:aI P w K mg base 2 "least_of" 1 xB)(a:At K mg "started" (top 18) ["ladder","chart","start"]):aI P w K mg base 3 "started" 3 (nv):=
 aI.dA a X2 fun _ _ _ _ _ _ _ hr=>
  aR (eU (lR hr (bB (ql 2 rfl rfl) aQ) iQ) (aY (cn (gu (au (bB (ql 2 rfl rfl) aQ) (au (bo X4 hr (by decide) (aH 0 rfl rfl ao)) ao bO) dy)))) fy)
  (aY (cn (fL (bB (ql 1 rfl rfl) aQ) (bB (ql 2 rfl rfl) aQ))))
abbrev DQ:aN:=aG (ba 5 (xf uG 2 (ae 1) (ae 4)))
 (aG (eI (zH 2 5))
 (ba 4 (uz 5)))
abbrev DR:aN:=eI (sP 2 (aE nv 3 (aa (ae 0) (aa (ae 1) (aa (ae 3) ag)))) (cX (aa (ae 3) (aa (cW ag) ag))))
def Km:aN:=aG (ba 2 Dm)
 (aG (eJ (d8 (aE tj 1 (aa (ae 1) ag))) (aL 3) DR)
 (aG (ba 4 (uz 2))
 (aG (ui (iA (ae 4)) DQ)
 (zJ 2))))
def uJ:=cM 6 (Km)
def uK:aj ["ladder","chart","paths","start","newest","further"] ["ladder","chart"] (bD (top 22)):=dE (by decide +kernel)
def X5(B:Bt mg)(X6:aI P w K mg base 1 "all_starts" 1 tj)(xC:aI P w K mg base 3 "started" 3 nv)(X7:aI P w K mg base 2 "longer_paths" 3 uG)(a:At K mg "shortest_paths" (top 22) ["ladder","chart"]):aI P w K mg base 4 "shortest_paths" 2 (uJ):=
 aI.dA a uK fun _ _ _ _ _ _ _ hr=>
  aR (bJ (i:=2) uK.nd rfl (Or.inl rfl) HQ)
  (aR (gN QN rfl (km (bo X6 hr (by decide) (aH 1 rfl rfl ao))) (cq (i:=3) (show 0<=3 by decide) uK.nd rfl (Or.inl rfl)) (aY (i_ (Wg hr (ql 2 rfl rfl) (bo xC hr (by decide) (aH 0 rfl rfl (aH 1 rfl rfl (aH 3 rfl rfl ao)))) (gu (aH 3 rfl rfl (au (eT ao) ao uf)))))))
  (aR (bJ (i:=4) uK.nd rfl (Or.inl rfl) (HX rfl B.dW Zx (ql 2 rfl rfl)))
  (aR (Gv QN (oO (aD 4 rfl rfl)) (aR (bJ (i:=5) uK.nd rfl (Or.inl rfl) (Ws X7 hr (by decide) (aD 1 rfl rfl) (ql 2 rfl rfl) (aD 4 rfl rfl)))
  (aR (i_ (Wj hr (ql 2 rfl rfl) (ql 5 rfl rfl)))
  (aY (bJ (i:=4) uK.nd rfl (Or.inl rfl) (HX rfl B.dW Zx (ql 5 rfl rfl)))))))
  (aY (HY (ql 2 rfl rfl))))))
def Kn:aN:=bT (xa (aE uJ 2 (aa (ae 0) (aa (ae 1) ag))) (cX (aa (ae 2) (aa (ae 3) ag))))
def uM:=cM 4 (Kn)
def X8:aj ["ladder","chart","place","worth"] ["ladder","chart","place","worth"] (bD (top 24)):=dE (by decide +kernel)
def X9(B:Bt mg)(X_:aI P w K mg base 4 "shortest_paths" 2 uJ)(a:At K mg "path_to" (top 24) ["ladder","chart","place","worth"]):aI P w K mg base 5 "path_to" 4 (uM):=
 aI.dA a X8 fun _ _ _ _ _ _ _ hr=>
  aY (cn (Wo hr (bo X_ hr (by decide) (aH 0 rfl rfl (aH 1 rfl rfl ao))) (gu (aH 2 rfl rfl (aH 3 rfl rfl ao)))))
abbrev pC:aN:=aG (cY (nQ (i8 (a_ (nV vA ki (eC (.int 0)) (ae 6) (eB iB (aa (ay 1 (eC (.int 1))) ag))))) (a_ (e2 fC (cA (cA (ay 1 (eC (.int 1))) (ae 6)) (eC (.int 0))) (ay 5 (eC (.int 0)))))) (bT (eC (.str "no step"))) dG)
 (ba 5 (cX (aa (cA (cA (ay 1 (eC (.int 1))) (ae 6)) (eC (.int 1))) (aa (cA (cA (cA (ay 1 (eC (.int 1))) (ae 6)) (eC (.int 2))) (ay 5 (eC (.int 1)))) ag))))
def DS:aN:=aG (ba 4 (lU (dU 1 (cB (aa (ay 1 (eC (.int 0))) ag)) (aL 7) dI (cX (aa (eC (.str "place")) (aa (ae 7) ag))) false) (dU 1 (cB (aa (eB iB (aa (ay 1 (eC (.int 2))) ag)) ag)) (aL 7) dI (cX (aa (eC (.str "begin")) (aa (ae 7) ag))) false)))
 (aG (cY (a_ (e2 fM (ae 2) (ae 4))) (bT (eC (.str "no step"))) dG)
 (aG (ba 5 (oP (a_ (e2 cG (ay 2 (eC (.int 0))) (eC (.str "place")))) (cX (aa (ay 2 (eC (.int 1))) (aa (aE jh 1 (aa (ae 0) ag)) ag))) (cA (ay 1 (eC (.int 2))) (ay 2 (eC (.int 1))))))
 (aG (eJ (d8 (ae 3)) (aL 6) pC)
 (bT (ae 5)))))
def lD:=cM 7 (DS)
def xD:aj ["_law_ladder_here","_law_chart_here","_law_start","_law_ways","_law_starts","_law_here","_law_number"] ["_law_ladder_here","_law_chart_here","_law_start","_law_ways"] (bD (top 43)):=dE (by decide +kernel)
abbrev DT:List Str:=["_law_ladder_here","_law_chart_here","_law_start","_law_ways","_law_starts","_law_here","_law_number","_law_k"]
def Ko:(DT).Nodup:=by decide +kernel
def Y_(B:Bt mg)(pB:aI P w K mg base 1 "_law_low" 1 jh)(a:At K mg "_law_walked" (top 43) ["_law_ladder_here","_law_chart_here","_law_start","_law_ways"]):aI P w K mg base 2 "_law_walked" 4 (lD):=
 aI.dA a xD fun _ _ _ _ _ _ _ hr=>
  aR (bJ (i:=4) xD.nd rfl (Or.inl rfl) (zf (jU (k:=1) (N':=DT) false rfl ⟨rfl,by decide +kernel,rfl,rfl,rfl⟩ (fA B.aw (au (bB (ql 1 rfl rfl) aQ) ao dy)) (fun _ _ _ _=>cq (i:=7) (show 7<=7 by decide) Ko rfl (Or.inl rfl) (Or.inr rfl)) (fun _ _ _ _=>k9) (fun _ _ _ _=>gu (au iQ (au (cj (qv 7)) ao d_) jb))) (jU (k:=1) (N':=DT) false rfl ⟨rfl,by decide +kernel,rfl,rfl,rfl⟩ (fA B.aw (au (vG B.aO (au (bB (ql 1 rfl rfl) aQ) ao dy)) ao bO)) (fun _ _ _ _=>cq (i:=7) (show 7<=7 by decide) Ko rfl (Or.inl rfl) (Or.inr rfl)) (fun _ _ _ _=>k9) (fun _ _ _ _=>gu (au iQ (au (cj (qv 7)) ao d_) jb)))))
  (aR (eU (y7 hr (aD 2 rfl rfl) (aD 4 rfl rfl)) (aY (cn iQ)) fy)
  (aR (bJ (i:=5) xD.nd rfl (Or.inl rfl) (FL (lR hr (bB (ql 2 rfl rfl) aQ) iQ) (gu (au (bB (ql 2 rfl rfl) aQ) (au (bo pB hr (by decide) (aH 0 rfl rfl ao)) ao bO) dy)) (fL (bB (ql 1 rfl rfl) aQ) (bB (ql 2 rfl rfl) aQ))))
  (aR (gN QN rfl (km (aD 3 rfl rfl)) (cq (i:=6) (show 0<=6 by decide) xD.nd rfl (Or.inl rfl)) (aR (eU (uA (vC (r_ (Rz aQ (aD 6 rfl rfl) (vG B.aO (au (bB (ql 1 rfl rfl) aQ) ao dy)))) (yU (qo hr (fL (fL (bB (ql 1 rfl rfl) aQ) (aD 6 rfl rfl)) aQ) (bB (ql 5 rfl rfl) aQ))))) (aY (cn iQ)) fy)
  (aY (bJ (i:=5) xD.nd rfl (Or.inl rfl) (gu (au (fL (fL (bB (ql 1 rfl rfl) aQ) (aD 6 rfl rfl)) aQ) (au (fL (fL (fL (bB (ql 1 rfl rfl) aQ) (aD 6 rfl rfl)) aQ) (bB (ql 5 rfl rfl) aQ)) ao dy) dy))))))
  (aY (cn (aD 5 rfl rfl))))))
def Z_:aN:=aG (ba 1 (cW (aa (qy ["NoStep"] "NoHouse" (ae 0)) (aa (qy ["NoStep"] "NoMap" (ae 0)) (aa (qy ["NoStep"] "NoPlace" (ae 0)) (aa (qy ["NoStep"] "NoRule" (ae 0)) ag))))))
 (aG (eI (su 1 (cW (aa (qy ["NoStep"] "NoStep" (ae 0)) (aa (qy ["NoStep"] "TooGreat" (ae 0)) ag)))))
 (aG (cY (nQ (a_ (e2 fC (Cz (ae 1) (aa (eC (.bl true)) ag)) (eC (.int 1)))) (i8 (iA (Cw (ae 0))))) (bT (eC (.str "wrong"))) dG)
 (bT (cA (cW (aa (eC (.str "no house")) (aa (eC (.str "no map")) (aa (eC (.str "no place")) (aa (eC (.str "no rule")) (aa (eC (.str "no step")) (aa (eC (.str "too great")) ag))))))) (CA (ae 1) (aa (eC (.bl true)) ag))))))
def zZ:=cM 2 (Z_)
def Kp:aj ["_law_kept","_law_kinds"] ["_law_kept"] (bD (top 40)):=dE (by decide +kernel)
def y83(B:Bt mg)(T:Xt K mg)(a:At K mg "_law_word" (top 40) ["_law_kept"]):aI P w K mg base 1 "_law_word" 1 (zZ):=
 aI.dA a Kp fun _ _ _ _ _ _ _ hr=>
  aR (bJ (i:=1) Kp.nd rfl (Or.inl rfl) (eT (au (uk T.lA B.aJ (aD 0 rfl rfl)) (au (uk T.pz B.aJ (aD 0 rfl rfl)) (au (uk T.lC B.aJ (aD 0 rfl rfl)) (au (uk T.nr B.aJ (aD 0 rfl rfl)) ao bO) bO) bO) bO)))
  (aR (i_ (Ci (ql 1 rfl rfl) (eT (au (uk T.nu B.aJ (aD 0 rfl rfl)) (au (uk T.j3 B.aJ (aD 0 rfl rfl)) ao bO) bO))))
  (aR (eU (uA (vC (qo hr (Sw hr (aD 1 rfl rfl) (au oK ao jb)) aQ) (yU (r_ (oO (Sk B.aJ B.iH (aD 0 rfl rfl))))))) (aY (cn iQ)) fy)
  (aY (cn (fL (eT (au iQ (au iQ (au iQ (au iQ (au iQ (au iQ ao jb) jb) jb) jb) jb) jb)) (Sx hr (aD 1 rfl rfl) (au oK ao jb)))))))
def Kq:aN:=bT (y9 (ug .int (ae 0)) (B_ (ug .bool (ae 0))))
def xE:=cM 1 (Kq)
def y7y:aj ["thing"] ["thing"] (bD (top 9)):=dE (by decide +kernel)
def z02(B:Bt mg)(a:At K mg "is_whole" (top 9) ["thing"]):aI P w K mg base 1 "is_whole" 1 (xE):=
 aI.dA a y7y fun _ _ _ _ _ _ _ hr=>
  aY (cn (Gq (y_ .int B.aJ B.xl PyProof.Rows.boot_int (aD 0 rfl rfl)) (Gp (P8 (y_ .bool B.aJ B.sW PyProof.Rows.boot_bool (aD 0 rfl rfl))))))
def Kr:aN:=bT (y9 (aE xE 1 (aa (ae 0) ag)) (nV vA ki (eC (.int 0)) (ae 0) (ae 1)))
def xF:=cM 2 (Kr)
def y1h:aj ["thing","many"] ["thing","many"] (bD (top 10)):=dE (by decide +kernel)
def y1x(B:Bt mg)(c31:aI P w K mg base 1 "is_whole" 1 xE)(a:At K mg "is_number_of" (top 10) ["thing","many"]):aI P w K mg base 2 "is_number_of" 2 (xF):=
 aI.dA a y1h fun _ _ _ _ _ _ _ hr=>
  aY (cn (Gq (bo c31 hr (by decide) (aH 0 rfl rfl ao)) (Gp (Ro aQ (aD 0 rfl rfl) (aD 1 rfl rfl)))))
def Ks:aN:=aG (cY (nQ (i8 (iA (ug .tuple (ae 0)))) (nQ (a_ (e2 fC (bL 0) (eC (.int 2)))) (i8 (iA (ug .str (ay 0 (eC (.int 0)))))))) (bT (eC (.bl false))) dG)
 (bT (aE xF 2 (aa (ay 0 (eC (.int 1))) (aa (Cn (ae 1) (ay 0 (eC (.int 0))) (eC (.int 0))) ag))))
def uN:=cM 2 (Ks)
def x8g:aj ["thing","many_by_name"] ["thing","many_by_name"] (bD (top 11)):=dE (by decide +kernel)
def x9b(B:Bt mg)(c29:aI P w K mg base 2 "is_number_of" 2 xF)(a:At K mg "is_named_number" (top 11) ["thing","many_by_name"]):aI P w K mg base 3 "is_named_number" 2 (uN):=
 aI.dA a x8g fun _ _ _ _ _ _ _ hr=>
  aR (eU (uA (vC (r_ (oO (y_ .tuple B.aJ B.cw Zg (aD 0 rfl rfl)))) (vC (qo hr (d9 B.aO (ql 0 rfl rfl)) aQ) (yU (r_ (oO (y_ .str B.aJ B.xm PyProof.Rows.boot_str (bB (ql 0 rfl rfl) aQ)))))))) (aY (cn oK)) fy)
  (aY (cn (bo c29 hr (by decide) (au (bB (ql 0 rfl rfl) aQ) (au (RN hr (aD 1 rfl rfl) (bB (ql 0 rfl rfl) aQ) aQ) ao bO) dy))))
def Kt:aN:=bT (aE uN 2 (aa (ae 1) (aa (vW "place" "begin" (nT 0 (qC 0)) (vV 0 2)) ag)))
def jI:=cM 2 (Kt)
def y79:aj ["chart","thing"] ["chart","thing"] (bD (top 17)):=dE (by decide +kernel)
def z0h(B:Bt mg)(c28:aI P w K mg base 3 "is_named_number" 2 uN)(a:At K mg "is_start" (top 17) ["chart","thing"]):aI P w K mg base 4 "is_start" 2 (jI):=
 aI.dA a y79 fun _ _ _ _ _ _ _ hr=>
  aY (cn (bo c28 hr (by decide) (aH 1 rfl rfl (au (RL (by decide) (B7 (ql 0 rfl rfl) RI) (RJ B.aO (ql 0 rfl rfl))) ao RP))))
abbrev xG:aN:=aG (cY (a_ (e2 fM (ae 5) (aE jH 2 (aa (ae 1) (aa (ay 4 (eC (.int 0))) ag))))) uh dG)
 (ba 4 (aE n8 3 (aa (ae 1) (aa (ae 4) (aa (ae 5) ag)))))
def Ku:aN:=aG (cY (i8 (iA (aE jI 2 (aa (ae 1) (aa (ae 2) ag))))) uh dG)
 (aG (ba 4 (aE nv 3 (aa (ae 0) (aa (ae 1) (aa (ae 2) ag)))))
 (aG (eJ (d8 (ae 3)) (aL 5) xG)
 (bT (ae 4))))
def uO:=cM 6 (Ku)
def qU:aj ["ladder","chart","start","ways","state","number"] ["ladder","chart","start","ways"] (bD (top 21)):=dE (by decide +kernel)
def z15(B:Bt mg)(z_:aI P w K mg base 4 "is_start" 2 jI)(xC:aI P w K mg base 3 "started" 3 nv)(uI:aI P w K mg base 1 "ways_from" 2 jH)(xy:aI P w K mg base 1 "led_on" 3 n8)(a:At K mg "brought" (top 21) ["ladder","chart","start","ways"]):aI P w K mg base 5 "brought" 4 (uO):=
 aI.dA a qU fun _ _ _ _ _ _ _ hr=>
  aR (eU (r_ (oO (bo z_ hr (by decide) (aH 1 rfl rfl (aH 2 rfl rfl ao))))) (aY zd) fy)
  (aR (bJ (i:=4) qU.nd rfl (Or.inl rfl) (bo xC hr (by decide) (aH 0 rfl rfl (aH 1 rfl rfl (aH 2 rfl rfl ao)))))
  (aR (gN QN rfl (km (aD 3 rfl rfl)) (cq (i:=5) (show 0<=5 by decide) qU.nd rfl (Or.inl rfl)) (aR (eU (y7 hr (aD 5 rfl rfl) (bo uI hr (by decide) (aH 1 rfl rfl (au (bB (ql 4 rfl rfl) aQ) ao dy)))) (aY zd) fy)
  (aY (bJ (i:=4) qU.nd rfl (Or.inl rfl) (bo xy hr (by decide) (aH 1 rfl rfl (aH 4 rfl rfl (aH 5 rfl rfl ao))))))))
  (aY (cn (aD 4 rfl rfl)))))
def DU:gP:=sC (lg (i8 (iA (aE jI 2 (aa (ae 1) (aa (ae 2) ag))))) (qA "NoStep") qz) (wy (cY (i8 (iA (aE jI 2 (aa (ae 1) (aa (ae 2) ag))))) uh dG) (wy (ba 4 (aE nv 3 (aa (ae 0) (aa (ae 1) (aa (ae 2) ag))))) (zi (d8 (ae 3)) (aL 5) (aG (cY (a_ (e2 fM (ae 5) (aE jH 2 (aa (ae 1) (aa (ay 4 (eC (.int 0))) ag))))) uh dG)
 (ba 4 (aE n8 3 (aa (ae 1) (aa (ae 4) (aa (ae 5) ag)))))) (lg (a_ (e2 fM (ae 5) (aE jH 2 (aa (ae 1) (aa (ay 4 (eC (.int 0))) ag))))) (qA "NoStep") qz))))
def lE:List D->Option Str:=fnX 6 DU
def y9t(B:Bt mg)(T:Xt K mg)(z_:aI P w K mg base 4 "is_start" 2 jI)(uI:aI P w K mg base 1 "ways_from" 2 jH)(xy:aI P w K mg base 1 "led_on" 3 n8)(xC:aI P w K mg base 3 "started" 3 nv)(a:At K mg "brought" (top 21) ["ladder","chart","start","ways"]):o7 P w K mg base 5 "brought" 4 lE:=
 o7.dA (k:=4) a qU fun _ _ _ _ _ _ _ hr=>
  SA (wz (GN (r_ (oO (bo z_ hr (by decide) (aH 1 rfl rfl (aH 2 rfl rfl ao))))) (wz (GO hr T.jg)) GK)) (GL (eU (r_ (oO (bo z_ hr (by decide) (aH 1 rfl rfl (aH 2 rfl rfl ao))))) (aY zd) fy) (GL (bJ (i:=4) qU.nd rfl (Or.inl rfl) (bo xC hr (by decide) (aH 0 rfl rfl (aH 1 rfl rfl (aH 2 rfl rfl ao))))) (wz (SD PassesOwn.leaving rfl (km (aD 3 rfl rfl)) (cq (i:=5) (show 0<=5 by decide) qU.nd rfl (Or.inl rfl)) (aR (eU (y7 hr (aD 5 rfl rfl) (bo uI hr (by decide) (aH 1 rfl rfl (au (bB (ql 4 rfl rfl) aQ) ao dy)))) (aY zd) fy)
  (aY (bJ (i:=4) qU.nd rfl (Or.inl rfl) (bo xy hr (by decide) (aH 1 rfl rfl (aH 4 rfl rfl (aH 5 rfl rfl ao))))))) (wz (GN (y7 hr (aD 5 rfl rfl) (bo uI hr (by decide) (aH 1 rfl rfl (au (bB (ql 4 rfl rfl) aQ) ao dy)))) (wz (GO hr T.jg)) GK))))))
def DV:aN:=aG (ba 4 (eC .aK))
 (aG (ba 5 (eC .aK))
 (aG (wB ["NoStep"] (ba 5 (aE uO 4 (aa (ae 0) (aa (ae 1) (aa (ae 2) (aa (ae 3) ag)))))) (wA lE 4 (aa (ae 0) (aa (ae 1) (aa (ae 2) (aa (ae 3) ag))))) 6 4)
 (aG (cY (a_ (e2 o9 (ae 4) (eC .aK))) (bT (ae 5)) dG)
 (bT (aE zZ 1 (aa (ae 4) ag))))))
def lF:=cM 7 (DV)
def xH:aj ["_law_ladder_here","_law_chart_here","_law_start","_law_ways","_law_kept","_law_answer","e"] ["_law_ladder_here","_law_chart_here","_law_start","_law_ways"] (bD (top 42)):=dE (by decide +kernel)
def y4q(B:Bt mg)(T:Xt K mg)(c27:aI P w K mg base 5 "brought" 4 uO)(c25:aI P w K mg base 1 "_law_word" 1 zZ)(c41:o7 P w K mg base 5 "brought" 4 lE)(a:At K mg "_law_tried" (top 42) ["_law_ladder_here","_law_chart_here","_law_start","_law_ways"]):aI P w K mg base 6 "_law_tried" 4 (lF):=
 aI.dA a xH fun _ _ _ _ _ _ _ hr=>
  aR (bJ (i:=4) xH.nd rfl (Or.inl rfl) t8)
  (aR (bJ (i:=5) xH.nd rfl (Or.inl rfl) t8)
  (aR (SM (ie:=6) (ik:=4) T.u (aY (bJ (i:=5) xH.nd rfl (Or.inl rfl) (bo c27 hr (by decide) (aH 0 rfl rfl (aH 1 rfl rfl (aH 2 rfl rfl (aH 3 rfl rfl ao))))))) (SG (SH c41 hr (by decide) (aH 0 rfl rfl (aH 1 rfl rfl (aH 2 rfl rfl (aH 3 rfl rfl ao)))))) xH.nd rfl rfl)
  (aR (eU (Sn (aD 4 rfl rfl) t8) (aY (cn (aD 5 rfl rfl))) fy)
  (aY (cn (bo c25 hr (by decide) (aH 4 rfl rfl ao)))))))
abbrev Aa:aN:=eI (su 5 (dU 2 (d8 (ae 3)) (kz (cR (aL 9) (cR (aL 10) jD))) (a_ (e2 cG (ae 9) (ae 6))) (cX (aa (ae 7) (aa (ay 8 (ae 10)) ag))) false))
abbrev Ab:aN:=aG (cY (a_ (e2 qk (ae 2) (ae 3))) (bT (ae 4)) dG)
 (aG (ba 5 (cW ag))
 (aG (eJ (d8 (ay 1 (eC (.int 1)))) (kz (cR (aL 6) (cR (aL 7) (cR (aL 8) jD)))) Aa)
 (ba 3 (uw (ae 5)))))
def Kv:aN:=aG (ba 3 (lU (dU 1 (cB (aa (ay 1 (eC (.int 0))) ag)) (aL 9) dI (cX (aa (ae 9) (aa (aE jh 1 (aa (ae 0) ag)) ag))) false) (qp (aa (ay 1 (eC (.int 2))) ag))))
 (aG (eJ (cB (aa (e2 bQ (e2 jz (ay 1 (eC (.int 0))) (bL 0)) (eC (.int 1))) ag)) (aL 4) Ab)
 (bT (eC .aK)))
def uP:=cM 9 (Kv)
def qV:aj ["_law_ladder_here","_law_chart_here","_law_state","_law_here","_law_many","_law_new","_law_start","_law_goal","_law_rule_here"] ["_law_ladder_here","_law_chart_here","_law_state"] (bD (top 44)):=dE (by decide +kernel)
abbrev Kw:List Str:=["_law_ladder_here","_law_chart_here","_law_state","_law_here","_law_many","_law_new","_law_start","_law_goal","_law_rule_here","_law_place"]
def y0z:(Kw).Nodup:=by decide +kernel
abbrev Kx:List Str:=["_law_ladder_here","_law_chart_here","_law_state","_law_here","_law_many","_law_new","_law_start","_law_goal","_law_rule_here","_law_place","_law_worth"]
def Ky:(Kx).Nodup:=by decide +kernel
def y38(B:Bt mg)(pB:aI P w K mg base 1 "_law_low" 1 jh)(a:At K mg "_law_fewest" (top 44) ["_law_ladder_here","_law_chart_here","_law_state"]):aI P w K mg base 2 "_law_fewest" 3 (uP):=
 aI.dA a qV fun _ _ _ _ _ _ _ hr=>
  aR (bJ (i:=3) qV.nd rfl (Or.inl rfl) (zf (jU (k:=1) (N':=Kw) false rfl ⟨rfl,by decide +kernel,rfl,rfl,rfl⟩ (fA B.aw (au (bB (ql 1 rfl rfl) aQ) ao dy)) (fun _ _ _ _=>cq (i:=9) (show 9<=9 by decide) y0z rfl (Or.inl rfl) (Or.inr rfl)) (fun _ _ _ _=>k9) (fun _ _ _ _=>gu (au (cj (qv 9)) (au (bo pB hr (by decide) (au (cj (qv 0)) ao d_)) ao bO) d_))) (F_ B.dW Zx (au (bB (ql 1 rfl rfl) aQ) ao dy))))
  (aR (gN QN rfl (fA B.aw (au (dk (mB (bB (ql 1 rfl rfl) aQ) (d9 B.aO (qv 0))) aQ) ao eZ)) (cq (i:=4) (show 0<=4 by decide) qV.nd rfl (Or.inl rfl)) (aR (eU (F7 hr (aD 2 rfl rfl) (aD 3 rfl rfl)) (aY (cn (aD 4 rfl rfl))) fy)
  (aR (bJ (i:=5) qV.nd rfl (Or.inl rfl) (eT ao))
  (aR (gN QN rfl (km (bB (ql 1 rfl rfl) aQ)) (vR (n:=3) rfl (lT (cq (i:=6) (show 0<=6 by decide) qV.nd rfl (Or.inr rfl)) (lT (cq (i:=7) (show 0<=7 by decide) qV.nd rfl (Or.inr rfl)) (lT (cq (i:=8) (show 0<=8 by decide) qV.nd rfl (Or.inr rfl)) vQ))) Gs) (aY (i_ (Ci (ql 5 rfl rfl) (jU (k:=2) (N':=Kx) false rfl ⟨rfl,by decide +kernel,rfl,rfl,rfl⟩ (km (aD 3 rfl rfl)) (fun _ _ _ _=>vR (n:=2) rfl (lT (cq (i:=9) (show 9<=9 by decide) Ky rfl (Or.inl rfl) (Or.inr rfl)) (lT (cq (i:=10) (show 9<=10 by decide) Ky rfl (Or.inl rfl) (Or.inr rfl)) vQ)) Cc) (fun _ _ _ _=>ub (lR hr (cj (qv 9)) (cj (qv 6)))) (fun _ _ _ _=>gu (au (cj (qv 7)) (au (bB (qv 8) (cj (qv 10))) ao dy) d_)))))))
  (aY (bJ (i:=3) qV.nd rfl (Or.inl rfl) (HK rfl hr B.gD B.qS (aD 5 rfl rfl))))))))
  (aY (cn t8)))
abbrev uQ:aN:=aG (ba 9 (uB lD 7 (ae 1) (ae 2) (ae 6)))
 (aG (ba 10 (dU 1 (cB (aa (eB iB (aa (ay 2 (eC (.int 1))) ag)) ag)) (aL 11) (a_ (e2 cG (cA (cA (ay 2 (eC (.int 1))) (ae 11)) (eC (.int 0))) (sR 9 (eC (.int 0))))) (ae 11) false))
 (cY (qf (a_ (e2 fC (ae 10) (cW ag))) (a_ (e2 yT (aE bX 3 (aa (ae 0) (aa (e2 bQ (eC (.int 208)) (ae 8)) (aa (eC (.int 5)) ag)))) (eC (.int 0))))) (eI (iq 7 (aa (ay 10 (aE bX 3 (aa (ae 0) (aa (e2 bQ (eC (.int 214)) (ae 8)) (aa (bL 10) ag))))) ag))) (eI (iq 7 (aa (e2 BG (aE bX 3 (aa (ae 0) (aa (e2 bQ (eC (.int 214)) (ae 8)) (aa (eC (.int 9)) ag)))) (eC (.int 1))) ag)))))
def Kz:aN:=aG (ba 1 (aE xt 2 (aa (ae 0) (aa (eC (.int 0)) ag))))
 (aG (ba 2 (aE xu 4 (aa (ae 0) (aa (eC (.int 20)) (aa (ae 1) (aa (eC (.bl false)) ag))))))
 (aG (ba 3 (aE xw 2 (aa (ae 1) (aa (ae 2) ag))))
 (aG (ba 4 (ay 3 (aE bX 3 (aa (ae 0) (aa (eC (.int 200)) (aa (bL 3) ag))))))
 (aG (cY (a_ (e2 cG (aE bX 3 (aa (ae 0) (aa (eC (.int 201)) (aa (eC (.int 3)) ag)))) (eC (.int 0)))) (ba 4 (cX (aa (aE bX 3 (aa (ae 0) (aa (eC (.int 202)) (aa (ay 2 (eC (.int 0))) ag)))) (aa (aE bX 3 (aa (ae 0) (aa (eC (.int 203)) (aa (bL 1) ag)))) ag)))) dG)
 (aG (ba 5 (aE uM 4 (aa (ae 1) (aa (ae 2) (aa (ay 4 (eC (.int 0))) (aa (ay 4 (eC (.int 1))) ag))))))
 (aG (cY (a_ (e2 fC (e2 o9 (ae 5) (eC .aK)) (e2 fM (ae 4) (ae 3)))) (bT (eC (.bl false))) dG)
 (aG (cY (a_ (e2 sT (ae 5) (eC .aK))) (aG (cY (a_ (e2 fC (eB iB (aa (ay 5 (eC (.int 1))) ag)) (aE uP 3 (aa (ae 1) (aa (ae 2) (aa (ae 4) ag)))))) (bT (eC (.bl false))) dG)
 (cY (a_ (e2 fC (aE lF 4 (aa (ae 1) (aa (ae 2) (aa (ay 5 (eC (.int 0))) (aa (ay 5 (eC (.int 1))) ag))))) (ae 4))) (bT (eC (.bl false))) dG)) dG)
 (aG (ba 6 (cA (cW (aa (eC (.str "place")) (aa (eC (.str "begin")) (aa (eC (.str "way")) ag)))) (aE bX 3 (aa (ae 0) (aa (eC (.int 206)) (aa (eC (.int 3)) ag))))))
 (aG (ba 6 (cX (aa (ae 6) (aa (aE bX 3 (aa (ae 0) (aa (eC (.int 204)) (aa (eC (.int 6)) ag)))) ag))))
 (aG (ba 7 (cW ag))
 (aG (eJ (cB (aa (aE bX 3 (aa (ae 0) (aa (eC (.int 207)) (aa (eC (.int 5)) ag)))) ag)) (aL 8) uQ)
 (bT (e2 cG (aE lF 4 (aa (ae 1) (aa (ae 2) (aa (ae 6) (aa (ae 7) ag))))) (aE lD 4 (aa (ae 1) (aa (ae 2) (aa (ae 6) (aa (ae 7) ag))))))))))))))))))
def uR:=cM 11 (Kz)
def lG:aj ["_law_script","_law_ladder_here","_law_chart_here","_law_every","_law_state","_law_path","_law_start","_law_ways","_law_k","_law_here","_law_some"] ["_law_script"] (bD (top 45)):=dE (by decide +kernel)
abbrev KA:List Str:=["_law_script","_law_ladder_here","_law_chart_here","_law_every","_law_state","_law_path","_law_start","_law_ways","_law_k","_law_here","_law_some","_law_number"]
def j0m:(KA).Nodup:=by decide +kernel
def j13(B:Bt mg)(c14:aI P w K mg base 4 "_law_ladder" 2 xt)(c10:aI P w K mg base 5 "_law_chart" 4 xu)(c21:aI P w K mg base 2 "_law_states" 2 xw)(dX:aI P w K mg base 2 "_law_pick" 3 bX)(c36:aI P w K mg base 5 "path_to" 4 uM)(c12:aI P w K mg base 2 "_law_fewest" 3 uP)(KC:aI P w K mg base 6 "_law_tried" 4 lF)(KD:aI P w K mg base 2 "_law_walked" 4 lD){f:Addr}{fd:FuncData}(F:mr K "law" "law" (top 45) f fd):dS P w K mg base jx 7 f fd ["_law_script"] (k6 K 1 uR):=
 Wu (k:=6) F lG fun _ _ _ _ _ _ _ hr=>
  aR (bJ (i:=1) lG.nd rfl (Or.inl rfl) (bo c14 hr (by decide) (aH 0 rfl rfl (bU ao))))
  (aR (bJ (i:=2) lG.nd rfl (Or.inr rfl) (bo c10 hr (by decide) (aH 0 rfl rfl (bU (aH 1 rfl rfl (au oK ao jb))))))
  (aR (bJ (i:=3) lG.nd rfl (Or.inl rfl) (bo c21 hr (by decide) (aH 1 rfl rfl (au (cj (qv 2)) ao d_))))
  (aR (bJ (i:=4) lG.nd rfl (Or.inl rfl) (bB (ql 3 rfl rfl) (bo dX hr (by decide) (aH 0 rfl rfl (bU (au (d9 B.aO (ql 3 rfl rfl)) ao bO))))))
  (aR (eU (lR hr (bo dX hr (by decide) (aH 0 rfl rfl (bU (bU ao)))) aQ) (aY (bJ (i:=4) lG.nd rfl (Or.inl rfl) (gu (au (bo dX hr (by decide) (aH 0 rfl rfl (bU (au (bB (qv 2) aQ) ao dy)))) (au (bo dX hr (by decide) (aH 0 rfl rfl (bU (au (d9 B.aO (ql 1 rfl rfl)) ao bO)))) ao bO) bO)))) fy)
  (aR (bJ (i:=5) lG.nd rfl (Or.inl rfl) (bo c36 hr (by decide) (aH 1 rfl rfl (au (cj (qv 2)) (au (bB (ql 4 rfl rfl) aQ) (au (bB (ql 4 rfl rfl) aQ) ao dy) dy) d_))))
  (aR (eU (qo hr (Sl (aD 5 rfl rfl) t8) (Wx hr (aD 4 rfl rfl) (aD 3 rfl rfl))) (aY (cn oK)) fy)
  (aR (eU (WC (aD 5 rfl rfl) t8) (aR (eU (qo hr (vG B.aO (au (bB (ql 5 rfl rfl) aQ) ao dy)) (bo c12 hr (by decide) (aH 1 rfl rfl (au (cj (qv 2)) (aH 4 rfl rfl ao) d_)))) (aY (cn oK)) fy)
  (aY (eU (qo hr (bo KC hr (by decide) (aH 1 rfl rfl (au (cj (qv 2)) (au (bB (ql 5 rfl rfl) aQ) (au (bB (ql 5 rfl rfl) aQ) ao dy) dy) d_))) (aD 4 rfl rfl)) (aY (cn oK)) fy))) fy)
  (aR (bJ (i:=6) lG.nd rfl (Or.inl rfl) (fL (eT (au iQ (au iQ (au iQ ao jb) jb) jb)) (bo dX hr (by decide) (aH 0 rfl rfl (bU (bU ao))))))
  (aR (bJ (i:=6) lG.nd rfl (Or.inl rfl) (gu (aH 6 rfl rfl (au (bo dX hr (by decide) (aH 0 rfl rfl (bU (bU ao)))) ao bO))))
  (aR (bJ (i:=7) lG.nd rfl (Or.inl rfl) (eT ao))
  (aR (gN QN rfl (fA B.aw (au (bo dX hr (by decide) (aH 0 rfl rfl (bU (bU ao)))) ao bO)) (cq (i:=8) (show 0<=8 by decide) lG.nd rfl (Or.inl rfl)) (aR (bJ (i:=9) lG.nd rfl (Or.inr rfl) (Wz KD hr (by decide) (aD 1 rfl rfl) (cj (qv 2)) (aD 6 rfl rfl) (ql 7 rfl rfl)))
  (aR (y6 (i:=10) (k:=1) (N':=KA) false lG.nd rfl (Or.inl rfl) rfl rfl ⟨rfl,by decide +kernel,rfl,rfl,rfl⟩ (fA B.aw (au (vG B.aO (au (bB (qv 2) aQ) ao dy)) ao bO)) (fun _ _ _ _=>cq (i:=11) (show 11<=11 by decide) j0m rfl (Or.inl rfl) (Or.inr rfl)) (fun _ _ _ _=>ub (lR hr (fL (fL (bB (qv 2) aQ) (cj (qv 11))) aQ) (Wy (qv 9) aQ))) (fun _ _ _ _=>cj (qv 11)))
  (aY (eU (uA (FK (qo hr (aD 10 rfl rfl) (eT ao)) (FJ (O7 (bo dX hr (by decide) (aH 0 rfl rfl (au (dk aQ (aD 8 rfl rfl)) (bU ao) eZ))) aQ)))) (aY (i_ (lS (ql 7 rfl rfl) (au (bB (ql 10 rfl rfl) (bo dX hr (by decide) (aH 0 rfl rfl (au (dk aQ (aD 8 rfl rfl)) (au (d9 B.aO (ql 10 rfl rfl)) ao bO) eZ)))) ao dy)))) (aY (i_ (lS (ql 7 rfl rfl) (au (O2 (bo dX hr (by decide) (aH 0 rfl rfl (au (dk aQ (aD 8 rfl rfl)) (bU ao) eZ))) aQ) ao eZ)))))))))
  (aY (cn (Pz hr (bo KC hr (by decide) (aH 1 rfl rfl (au (cj (qv 2)) (aH 6 rfl rfl (aH 7 rfl rfl ao)) d_))) (bo KD hr (by decide) (aH 1 rfl rfl (au (cj (qv 2)) (aH 6 rfl rfl (aH 7 rfl rfl ao)) d_)))))))))))))))))
end
abbrev cI (ns:List Int):D:=.lst (ns.map D.int)
abbrev n0 (l:List Int):OD:=some (cI l,0)
def Ac (ns:List Int)(k:Int):Int:=if k<ns.length then ns.getD k.toNat 0 else if ns=[]then 0 else ns.getD (k % ns.length).toNat 0*31+k
def KG{ns:List Int}{k:Int}(h0:0<=k)(h:k<ns.length):L2.dF (ns.map D.int) k=some (.int (ns.getD k.toNat 0)):=by
 obtain⟨m,rfl⟩:∃ m:Nat,k=Int.ofNat m:=⟨k.toNat,by show k=(k.toNat:Int);omega⟩
 have hk:m<ns.length:=by have:(m:Int)<ns.length:=h;omega
 apply l0
 rw[Qk,Qb hk]
 simp[hk]
def j27(ns:List Int):Sh 1 (cI ns):=.lst fun d m=>by
 obtain⟨x,_,rfl⟩:=Qy.mp m
 exact .int _
def KH(ns:List Int):cG (cI ns) (.lst [])=some (.bl (decide (ns=[]))):=by
 unfold cG
 rw[Qf ⟨(j27 ns).ok,(sV []).ok⟩]
 cases ns<;>rfl
def j0g(ns:List Int)(k:Int)(h0:0<=k):xn [cI ns,.int k]=some (.int (Ac ns k),9):=by
 unfold xn IE Ac
 by_cases h:k<ns.length
 ·simp[h,KG h0 h,fN,dw]
 ·by_cases hn:ns=[]
  ·subst hn
   have h':¬ k<0:=by omega
   simp[h',fN,KH]
  ·have hp:(0:Int)<ns.length:=by have:=ZO.mpr hn;omega
   have h1:=VO k (Int.ne_of_gt hp)
   have h2:=Vc k hp
   have h3:=KG h1 h2
   have lQ:=ZO.mpr hn
   simp[h,fN,dw,KH,hn,lQ,h3]
def qW (ns:List Int)(k:Int):Int:=(Ac ns k+6151*(k+1))*40692 % 2147483399
def jJ (ns:List Int)(k m:Int):Int:=(qW ns k*qW ns k+qW ns k / 31) % 2147483629 % m
def tm(ns:List Int)(k m:Int)(h0:0<=k)(hm:0<m):bX [cI ns,.int k,.int m]=some (.int (jJ ns k m),9):=by
 have d0:0<=qW ns k:=VO _ (by decide)
 have d1:qW ns k<2147483399:=Vc _ (by decide)
 have g1:-18446744073709551616<qW ns k:=by omega
 have g2:qW ns k<18446744073709551616:=by omega
 have hd:(Ac ns k+6151*(k+1))*40692 % 2147483399=qW ns k:=rfl
 unfold bX IF jJ
 simp[j0g ns k h0,hm,hd,g1,g2]
def qX(ns:List Int)(k:Int){m:Int}(hm:0<m):0<=jJ ns k m:=VO _ (Int.ne_of_gt hm)
def tq(ns:List Int)(k:Int){m:Int}(hm:0<m):jJ ns k m<m:=Vc _ hm
def tf (rows:List (List Nat))(i j:Nat):Nat:=(rows.getD i []).getD j 0
def eA (rows:List (List Nat)):D:=bV rows.length (tf rows)
def ch (n:Nat):List (List Nat):=(List.range n).map fun i=>(List.range n).map fun j=>max i j
def cp (a b:List (List Nat)):List (List Nat):=(List.range (a.length*b.length)).map fun i=>(List.range (a.length*b.length)).map fun j=>tf a (i / b.length) (j / b.length)*b.length+tf b (i % b.length) (j % b.length)
def sb (n:Nat):List (List Nat):=(List.range (n+2)).map fun i=>(List.range (n+2)).map fun j=>if i=0\/j=0\/i=j then max i j else n+1
def n5:List (List Nat):=[[0,1,2,3,4],[1,1,2,4,4],[2,2,2,4,4],[3,4,4,3,4],[4,4,4,4,4]]
def pD:List (List (List Nat)):=[ch 1,ch 2,ch 3,ch 4,ch 5,cp (ch 2) (ch 2),cp (ch 2) (ch 3),cp (ch 2) (ch 4),sb 0,sb 1,sb 2,sb 3,sb 4,cp (ch 2) (cp (ch 2) (ch 2)),n5]
def ch1:j4 [.int 1]=some (eA (ch 1),1):=by rfl
def Ad:j4 [.int 2]=some (eA (ch 2),1):=by rfl
def KI:j4 [.int 3]=some (eA (ch 3),1):=by rfl
def KJ:j4 [.int 4]=some (eA (ch 4),1):=by rfl
def ch5:j4 [.int 5]=some (eA (ch 5),1):=by rfl
def sb0:pA [.int 0]=some (eA (sb 0),0):=by rfl
def sb1:pA [.int 1]=some (eA (sb 1),0):=by rfl
def sb2:pA [.int 2]=some (eA (sb 2),0):=by rfl
def sb3:pA [.int 3]=some (eA (sb 3),0):=by rfl
def sb4:pA [.int 4]=some (eA (sb 4),0):=by rfl
def KN:nZ [eA (ch 2),eA (ch 2)]=some (eA (cp (ch 2) (ch 2)),0):=by rfl
def j7w:nZ [eA (ch 2),eA (ch 3)]=some (eA (cp (ch 2) (ch 3)),0):=by rfl
def j7c:nZ [eA (ch 2),eA (ch 4)]=some (eA (cp (ch 2) (ch 4)),0):=by rfl
def j56:nZ [eA (ch 2),eA (cp (ch 2) (ch 2))]=some (eA (cp (ch 2) (cp (ch 2) (ch 2))),0):=by rfl
def z9c(ns:List Int)(t:Int)(h0:0<=t):∃ rows∈pD,∃ q,xq [cI ns,.int t]=some (eA rows,q):=by
 have k0:=qX ns t (m:=9) (by decide)
 have k1:=tq ns t (m:=9) (by decide)
 have p0:=qX ns (t+1) (m:=5) (by decide)
 have p1:=tq ns (t+1) (m:=5) (by decide)
 have r0:=qX ns (t+1) (m:=3) (by decide)
 have r1:=tq ns (t+1) (m:=3) (by decide)
 have e9:=tm ns t 9 h0 (by decide)
 have e5:=tm ns (t+1) 5 (by omega) (by decide)
 have e3:=tm ns (t+1) 3 (by omega) (by decide)
 have mem:∀ i:Nat,i<15->pD.getD i []∈pD:=fun i hi=>by
  rw[Qg,Qb (show i<pD.length from hi)]
  exact Q0 _
 have hc:∀ p:Int,0<=p->p<5->∃ rows∈pD,j4 [.int (1+p)]=some (eA rows,1):=fun p a b=>by
  have:p=0\/p=1\/p=2\/p=3\/p=4:=by omega
  rcases this with rfl|rfl|rfl|rfl|rfl
  ·exact⟨_,mem 0 (by decide),ch1⟩
  ·exact⟨_,mem 1 (by decide),Ad⟩
  ·exact⟨_,mem 2 (by decide),KI⟩
  ·exact⟨_,mem 3 (by decide),KJ⟩
  ·exact⟨_,mem 4 (by decide),ch5⟩
 have hs:∀ p:Int,0<=p->p<5->∃ rows∈pD,pA [.int p]=some (eA rows,0):=fun p a b=>by
  have:p=0\/p=1\/p=2\/p=3\/p=4:=by omega
  rcases this with rfl|rfl|rfl|rfl|rfl
  ·exact⟨_,mem 8 (by decide),sb0⟩
  ·exact⟨_,mem 9 (by decide),sb1⟩
  ·exact⟨_,mem 10 (by decide),sb2⟩
  ·exact⟨_,mem 11 (by decide),sb3⟩
  ·exact⟨_,mem 12 (by decide),sb4⟩
 have hp:∀ r:Int,0<=r->r<3->∃ x ny rows,dw (.lst [.int 2,.int 3,.int 4]) r=some (.int x)/\j4 [.int x]=some (eA ny,1)/\rows∈pD/\nZ [eA (ch 2),eA ny]=some (eA rows,0):=fun r a b=>by
  have:r=0\/r=1\/r=2:=by omega
  rcases this with rfl|rfl|rfl
  ·exact⟨2,_,_,rfl,Ad,mem 5 (by decide),KN⟩
  ·exact⟨3,_,_,rfl,KI,mem 6 (by decide),j7w⟩
  ·exact⟨4,_,_,rfl,KJ,mem 7 (by decide),j7c⟩
 unfold xq IJ
 generalize jJ ns t 9=k at *
 generalize jJ ns (t+1) 5=p at *
 generalize jJ ns (t+1) 3=r at *
 by_cases h3:k<3
 ·obtain⟨rows,hm,e⟩:=hc p p0 p1
  exact⟨rows,hm,1,by simp[e9,e5,h3,e]⟩
 by_cases h5:k<5
 ·obtain⟨x,ny,rows,ea,e1,hm,jW⟩:=hp r r0 r1
  exact⟨rows,hm,0,by simp[e9,e3,h3,h5,Ad,ea,e1,jW]⟩
 by_cases h7:k<7
 ·obtain⟨rows,hm,e⟩:=hs p p0 p1
  exact⟨rows,hm,0,by simp[e9,e5,h3,h5,h7,e]⟩
 have:k=7\/k=8:=by omega
 rcases this with rfl|rfl
 ·exact⟨_,mem 13 (by decide),0,by simp[e9,DC,Ad,KN];exact j56⟩
 ·refine⟨_,mem 14 (by decide),0,?_⟩
  simp[e9,DC]
  rfl
def z5s:∀ rows∈pD,DD rows.length (tf rows)=true:=by decide +kernel
def pk (ns:List Int)(t:Int)(k m:Nat):Nat:=(jJ ns (t+2+Int.ofNat k) (Int.ofNat m)).toNat
def DW(ns:List Int)(t:Int)(k m:Nat)(h:0<m):pk ns t k m<m:=by
 have h1:=qX ns (t+2+Int.ofNat k) (m:=Int.ofNat m) (by show(0:Int)<m;omega)
 have h2:=tq ns (t+2+Int.ofNat k) (m:=Int.ofNat m) (by show(0:Int)<m;omega)
 have h3:(Int.ofNat m)=(m:Int):=rfl
 unfold pk
 omega
def j5j(ns:List Int)(t:Int)(k m:Nat)(h:0<m):jJ ns (t+2+Int.ofNat k) (Int.ofNat m)=Int.ofNat (pk ns t k m):=by
 have h1:=qX ns (t+2+Int.ofNat k) (m:=Int.ofNat m) (by show(0:Int)<m;omega)
 unfold pk
 show _=((jJ ns (t+2+Int.ofNat k) (Int.ofNat m)).toNat:Int)
 omega
section
variable (ns:List Int)(t:Int)(n:Nat)(B:Nat->Nat->Nat)(q:Nat)
def z5f(h0:0<=t)(hn:n<=16):jS 1 (aL 8) dI (vJ 3 (aa (aE bX 3 (aa (ae 0) (aa (e2 bQ (e2 bQ (ae 1) (eC (.int 2))) (ae 8)) (aa (bL 3) ag)))) ag)) false (da n)
  [(n0 ns),some (.int t,9),some (bV n B,q),some (.lst (da n),1),none,none,none,none] =
  some (aA ((List.range n).map (drawn (pk ns t) n)),[(n0 ns),some (.int t,9),some (bV n B,q),some (.lst [],1),none,none,none,none]):=by
 have hp:=DW ns t
 have h:=uC (k:=1) (pt:=aL 8) (tt:=dI) (te:=vJ 3 (aa (aE bX 3 (aa (ae 0) (aa (e2 bQ (e2 bQ (ae 1) (eC (.int 2))) (ae 8)) (aa (bL 3) ag)))) ag)) (deep:=false) (da n)
  (fun k=>[(n0 ns),some (.int t,9),some (bV n B,q),(uL (bP (pk ns t) n k)),none,none,none,none]) (fun _=>true) (fun k=>(iD (drawn (pk ns t) n k))) (fun k hk=>?_)
 ·rw[gv]at h
  have hl:bP (pk ns t) n n=[]:=ZF.mp (by rw[xi hp n (Qh n)];omega)
  rw[hl]at h
  have e1:(List.range n).filter (fun _=>true)=List.range n:=by simp
  rw[e1]at h
  simp only[aA,Zf,Function.comp_def]
  exact h
 ·rw[gv]at hk
  have hl:=xi hp k (ZG hk)
  have KO:0<(bP (pk ns t) n k).length:=by rw[hl];omega
  have e:=j5j ns t k _ KO
  have hj:=DW ns t k _ KO
  have Ae:=tm ns (t+2+Int.ofNat k) (Int.ofNat (bP (pk ns t) n k).length) (by show 0<=t+2+(k:Int);omega) (by show(0:Int)<((bP (pk ns t) n k).length:Int);omega)
  have hs:seqIndex? (Int.ofNat (pk ns t k (bP (pk ns t) n k).length)) (aA (bP (pk ns t) n k)).length=some (pk ns t k (bP (pk ns t) n k).length):=(AV (zM (by rw[iU];exact hj))).1
  have hg:(aA (bP (pk ns t) n k))[pk ns t k (bP (pk ns t) n k).length]? = some (iD (drawn (pk ns t) n k)):=by
   rw[Dw]
   unfold drawn
   rw[Qg,Qb hj]
   rfl
  have hb:pk ns t k (bP (pk ns t) n k).length<=16:=by omega
  have he:(aA (bP (pk ns t) n k)).eraseIdx (pk ns t k (bP (pk ns t) n k).length)=aA (bP (pk ns t) n (k+1)):=by rw[bP,Iq]
  refine⟨[(n0 ns),some (.int t,9),some (bV n B,q),(uL (bP (pk ns t) n k)),none,none,none,none,(i9 k)],_,by simp[da],rfl,?_⟩
  rw[Qf rfl]
  refine⟨9,[(n0 ns),some (.int t,9),some (bV n B,q),(uL (bP (pk ns t) n (k+1))),none,none,none,none,(i9 k)],?_,by simp,by simp⟩
  have b1:(-1000:Int)<=Int.ofNat (pk ns t k (bP (pk ns t) n k).length):=by show(-1000:Int)<=(pk ns t k (bP (pk ns t) n k).length:Int);omega
  have b2:Int.ofNat (pk ns t k (bP (pk ns t) n k).length)<=1000:=by show(pk ns t k (bP (pk ns t) n k).length:Int)<=1000;omega
  have ig:fN (.lst (aA (bP (pk ns t) n k)))=some (bP (pk ns t) n k).length:=by simp[fN,iU]
  rw[e]at Ae
  simp[-Int.ofNat_eq_natCast,ig,Ae,hs,hg,he,b1,b2]
def z9h(hn:n<=16)(x:OD):jS 1 (aL 8) dI (vN (cW (aa (eC (.int 0)) ag)) (bL 2)) true ((List.range n).map fun i=>eL n B i)
  [(n0 ns),some (.int t,9),some (bV n B,0),some (.lst [],1),x,none,none,none] =
  some ((List.range n).map fun i=>eL n (fun _ _=>0) i,[(n0 ns),some (.int t,9),some (bV n B,0),some (.lst [],1),x,none,none,none]):=by
 have h:=uC (k:=1) (pt:=aL 8) (tt:=dI) (te:=vN (cW (aa (eC (.int 0)) ag)) (bL 2)) (deep:=true) ((List.range n).map fun i=>eL n B i)
  (fun _=>[(n0 ns),some (.int t,9),some (bV n B,0),some (.lst [],1),x,none,none,none]) (fun _=>true) (fun i=>eL n (fun _ _=>0) i) (fun k hk=>?_)
 ·rw[Qc,QB,show(List.range n).filter (fun _=>true)=List.range n by simp]at h
  exact h
 ·refine⟨[(n0 ns),some (.int t,9),some (bV n B,0),some (.lst [],1),x,none,none,none,some (eL n B k,0)],_,by simp[eL],rfl,?_⟩
  rw[Qf rfl]
  refine⟨1,[(n0 ns),some (.int t,9),some (bV n B,0),some (.lst [],1),x,none,none,none,some (eL n B k,0)],?_,by simp,by simp⟩
  have z:eL n (fun _ _=>0) k=D.lst (List.replicate n [D.int 0]).flatten:=(WJ n).symm
  have b1:(-1000:Int)<=n:=by omega
  have b2:(n:Int)<=1000:=by omega
  have b3:n<=1000:=by omega
  rw[z]
  simp[xg,b1,b2,b3]
def gR (π ι:Nat->Nat)(i j a b:Nat):Nat:=if ι a<i\/(ι a=i/\ι b<j)then π (B (ι a) (ι b))else 0
abbrev tw:aN:=vP 5 (nT 4 (sk 6)) (nT 4 (sk 7)) (ay 4 (cA (ay 2 (ae 6)) (ae 7)))
section
variable {n B}{π ι:Nat->Nat}(cl:∀ i j,i<n->j<n->B i j<n)(h1:∀ i,i<n->π i<n)(h2:∀ i,i<n->ι i<n)(h3:∀ i,i<n->ι (π i)=i)(h4:∀ i,i<n->π (ι i)=i)
include cl h1 h2 h3 h4
theorem z3k{f:Nat->Nat->Nat}(hi:i<n)(hj:j<n){y:OD} :
  tw [(n0 ns),some (.int t,9),some (bV n B,0),some (.lst [],1),(uL ((List.range n).map π)),some (bV n f,2),(i9 i),(i9 j)] =
  some (.nx [(n0 ns),some (.int t,9),some (bV n B,0),some (.lst [],1),(uL ((List.range n).map π)),some (bV n (fun a b=>if a=π i/\b=π j then π (B i j)else f a b),2),(i9 i),(i9 j)]):=by
 have a1:=WG (f:=B) hi
 have a2:=WH (f:=B) (i:=i) hj
 have a3:dw (.lst (aA ((List.range n).map π))) (Int.ofNat (B i j))=some (iD (π (B i j))):=sU (cl i j hi hj)
 have a4:dw (.lst (aA ((List.range n).map π))) (Int.ofNat i)=some (iD (π i)):=sU hi
 have a5:dw (.lst (aA ((List.range n).map π))) (Int.ofNat j)=some (iD (π j)):=sU hj
 have a6:iP ((List.range n).map fun a=>eL n f a).length (Int.ofNat (π i))=some (π i):=zM (by simpa using h1 i hi)
 have a7:((List.range n).map fun a=>eL n f a)[π i]? = some (.lst (aA ((List.range n).map fun b=>f (π i) b))):=by rw[Qk,Zk (h1 i hi)];rfl
 have a8:iP (aA ((List.range n).map fun b=>f (π i) b)).length (Int.ofNat (π j))=some (π j):=zM (by simpa [iU]using h1 j hj)
 have a9:=WI (n:=n) (f:=f) (a:=π i) (b:=π j) (v:=π (B i j))
 rw[<- a9]
 show tw [(n0 ns),some (.int t,9),some (bV n B,0),some (.lst [],1),(uL ((List.range n).map π)),some (.lst ((List.range n).map fun a=>eL n f a),2),(i9 i),(i9 j)]=_
 unfold tw
 simp only[vP,ay,cA,ae,nT,sk,Zu,List.getElem?_cons_zero,D.cK,Zv,a1,a2,a3,a4,a5,a6,a7,a8,ne_eq,not_true_eq_false,false_and,and_false,Zj,Qu,reduceCtorEq,Q1,Q2,gY,List.set_cons_succ,List.set_cons_zero]
abbrev kM (f:Nat->Nat->Nat)(x y:OD):aW:=[(n0 ns),some (.int t,9),some (bV n B,0),some (.lst [],1),(uL ((List.range n).map π)),some (bV n f,2),x,y]
omit cl h1 h2 h3 h4
theorem xI(h:i<(da n).length):(da n)[i]=(iD i):=by simp[da]
include cl h1 h2 h3 h4
theorem z6q(hi:i<n)(hj:j<n):bV n (fun a b=>if a=π i/\b=π j then π (B i j)else gR B π ι i j a b)=bV n (gR B π ι i (j+1)):=by
 refine zN fun a b ha hb=>?_
 unfold gR
 by_cases h:a=π i/\b=π j
 ·obtain⟨rfl,rfl⟩:=h
  rw[Qf ⟨rfl,rfl⟩,h3 i hi,h3 j hj,Qf (.inr ⟨rfl,Zq _⟩)]
 ·rw[Qi h]
  have:¬ (ι a=i/\ι b=j):=fun⟨e1,e2⟩=>h ⟨by rw[<- e1,h4 a ha],by rw[<- e2,h4 b hb]⟩
  by_cases c:ι a<i\/ι a=i/\ι b<j
  ·rw[Qf c,Qf (by omega)]
  ·rw[Qi c,Qi (by omega)]
theorem z9b:bV n (gR B π ι i n)=bV n (gR B π ι (i+1) 0):=by
 refine zN fun a b ha hb=>?_
 have:=h2 b hb
 unfold gR
 by_cases c:ι a<i\/ι a=i/\ι b<n
 ·rw[Qf c,Qf (by omega)]
 ·rw[Qi c,Qi (by omega)]
theorem z4s(hn:n<=16)(hi:i<n)(y:OD):∃ y',eX (aL 7) tw (da n) (kM ns t (n:=n) (B:=B) (π:=π) (gR B π ι i 0) ((i9 i)) y) =
  some (.nx (kM ns t (n:=n) (B:=B) (π:=π) (gR B π ι (i+1) 0) ((i9 i)) y')):=by
 obtain⟨ρ',e,y',rfl⟩:=kI (pt:=aL 7) (body:=tw) (da n) (fun j ρ=>∃ y,ρ=kM ns t (n:=n) (B:=B) (π:=π) (gR B π ι i j) ((i9 i)) y) (kM ns t (n:=n) (B:=B) (π:=π) (gR B π ι i 0) ((i9 i)) y) (fun j hj ρ ah=>by
  obtain⟨y,hy⟩:=ah
  subst hy
  rw[gv]at hj
  refine⟨kM ns t (n:=n) (B:=B) (π:=π) (gR B π ι i j) ((i9 i)) ((i9 j)),_,by rw[xI];simp,.inl (z3k ns t cl h1 h2 h3 h4 hi hj (y:=none)),?_⟩
  rw[z6q cl h1 h2 h3 h4 hi hj]
  exact⟨_,rfl⟩) ⟨y,rfl⟩
 refine⟨y',?_⟩
 rw[e,gv]
 show some (Out.nx [_,_,_,_,_,some (bV n (gR B π ι i n),2),_,_])=_
 rw[z9b cl h1 h2 h3 h4]
theorem z5i(hn:n<=16)(x y:OD):∃ x' y',eX (aL 6) (eJ (cB (aa (bL 2) ag)) (aL 7) tw) (da n) (kM ns t (n:=n) (B:=B) (π:=π) (fun _ _=>0) x y) =
  some (.nx (kM ns t (n:=n) (B:=B) (π:=π) (fun a b=>π (B (ι a) (ι b))) x' y')):=by
 have z:bV n (fun _ _=>0)=bV n (gR B π ι 0 0):=zN fun a b _ _=>by unfold gR;rw[Qi (by omega)]
 have z':bV n (gR B π ι n 0)=bV n (fun a b=>π (B (ι a) (ι b))):=zN fun a b ha _=>by unfold gR;rw[Qf (.inl (h2 a ha))]
 obtain⟨ρ',e,x',y',rfl⟩:=kI (pt:=aL 6) (body:=eJ (cB (aa (bL 2) ag)) (aL 7) tw) (da n) (fun i ρ=>∃ x y,ρ=kM ns t (n:=n) (B:=B) (π:=π) (gR B π ι i 0) x y) (kM ns t (n:=n) (B:=B) (π:=π) (gR B π ι 0 0) x y) (fun i hi ρ ah=>by
  obtain⟨x,y,hy⟩:=ah
  subst hy
  rw[gv]at hi
  obtain⟨y',hy'⟩:=z4s ns t cl h1 h2 h3 h4 hn hi y
  refine⟨kM ns t (n:=n) (B:=B) (π:=π) (gR B π ι i 0) ((i9 i)) y,_,by rw[xI];simp,.inl (show _=some (Out.nx (kM ns t (n:=n) (B:=B) (π:=π) (gR B π ι (i+1) 0) ((i9 i)) y'))from ?_),⟨_,_,rfl⟩⟩
  have b1:(-1000:Int)<=Int.ofNat n:=by show(-1000:Int)<=n;omega
  have b2:Int.ofNat n<=1000:=by show(n:Int)<=1000;omega
  have e:cB (aa (bL 2) ag) (kM ns t (n:=n) (B:=B) (π:=π) (gR B π ι i 0) ((i9 i)) y)=some (da n,kM ns t (n:=n) (B:=B) (π:=π) (gR B π ι i 0) ((i9 i)) y):=by
   simp[-Int.ofNat_eq_natCast,xg,b1,b2]
   rfl
  unfold eJ
  rw[e]
  exact hy') ⟨x,y,rfl⟩
 refine⟨x',y',?_⟩
 show eX _ _ _ [_,_,_,_,_,some (bV n (fun _ _=>0),2),_,_]=some (.nx [_,_,_,_,_,some (bV n (fun a b=>π (B (ι a) (ι b))),2),_,_])
 rw[z,<- z']
 rw[gv]at e
 exact e
end
end
def z4h{f:Nat->Nat->Nat}{a b c d e:OD}{x y:OD}:jS 1 (aL 8) dI (kr (aa (ae 8) ag)) false ((List.range n).map fun i=>eL n f i) [a,b,c,d,e,some (bV n f,0),x,y] =
  some ((List.range n).map fun i=>ly n f i,[a,b,c,d,e,some (bV n f,0),x,y]):=by
 have h:=uC (k:=1) (pt:=aL 8) (tt:=dI) (te:=kr (aa (ae 8) ag)) (deep:=false) ((List.range n).map fun i=>eL n f i)
  (fun _=>[a,b,c,d,e,some (bV n f,0),x,y]) (fun _=>true) (fun i=>ly n f i) (fun k hk=>?_)
 ·rw[Qc,QB,show(List.range n).filter (fun _=>true)=List.range n by simp]at h
  exact h
 ·refine⟨[a,b,c,d,e,some (bV n f,0),x,y,some (eL n f k,0)],_,by simp[eL],rfl,?_⟩
  rw[Qf rfl]
  exact⟨9,[a,b,c,d,e,some (bV n f,0),x,y,some (eL n f k,0)],by simp[eL,ly],by simp,by simp⟩
def qY(hn:n<=1000)(h:ρ[i]? = some (some (d,q)))(hl:fN d=some n):cB (aa (bL i) ag) ρ=some (da n,ρ):=by
 have b1:(-1000:Int)<=Int.ofNat n:=by show(-1000:Int)<=n;omega
 have b2:Int.ofNat n<=1000:=by show(n:Int)<=1000;omega
 simp only[cB,aa,bL,ag,h,hl]
 rw[Qf ⟨b1,b2⟩]
 rfl
def z9u:∀ rows∈pD,rows.length<=8:=by decide +kernel
def j14(ns:List Int)(t:Int)(h0:0<=t):∃ n f,cm n f/\n<=8/\xt [cI ns,.int t]=(t9 n f):=by
 obtain⟨rows,hm,q,hb⟩:=z9c ns t h0
 have L:=WQ (z5s rows hm)
 have h8:=z9u rows hm
 unfold eA at hb
 revert hb L h8
 generalize rows.length=n
 generalize tf rows=B
 intro hb L h8
 have hp:=DW ns t
 have hn:n<=1000:=QO L.hi (by decide)
 refine⟨n,fun a b=>drawn (pk ns t) n (B (kK (pk ns t) n a) (kK (pk ns t) n b)),L.WR (fun i hi=>Iv hp hi) (fun i hi=>Iw hp hi) (fun i hi=>Iz hp hi) (fun i hi=>Iy hp hi),h8,?_⟩
 unfold xt IK
 refine gB ?_
 have s0:oS 8 [cI ns,.int t]=[(n0 ns),some (.int t,9),none,none,none,none,none,none]:=rfl
 rw[s0]
 refine(aZ (ρ1:=[(n0 ns),some (.int t,9),some (bV n B,q),none,none,none,none,none]) ?_).trans ?_
 ·simp[hb]
 refine(aZ (ρ1:=[(n0 ns),some (.int t,9),some (bV n B,q),some (.lst (da n),1),none,none,none,none]) ?_).trans ?_
 ·exact dQ (H9 (qY hn rfl xg)) rfl
 refine(aZ (ρ1:=[(n0 ns),some (.int t,9),some (bV n B,q),some (.lst [],1),(uL ((List.range n).map (drawn (pk ns t) n))),none,none,none]) ?_).trans ?_
 ·exact dQ (jF (qY hn rfl xg) (z5f ns t n B q h0 L.hi)) rfl
 refine(aZ (ρ1:=[(n0 ns),some (.int t,9),some (bV n B,0),some (.lst [],1),(uL ((List.range n).map (drawn (pk ns t) n))),some (bV n (fun _ _=>0),2),none,none]) ?_).trans ?_
 ·have e:d8 (ae 2) [(n0 ns),some (.int t,9),some (bV n B,q),some (.lst [],1),(uL ((List.range n).map (drawn (pk ns t) n))),none,none,none]=some ((List.range n).map fun i=>eL n B i,[(n0 ns),some (.int t,9),some (bV n B,0),some (.lst [],1),(uL ((List.range n).map (drawn (pk ns t) n))),none,none,none]):=by
   by_cases hq:q=0
   ·subst hq;simp[bV,hn]
   ·simp[bV,hn,hq]
  exact dQ (jF e (z9h ns t n B L.hi _)) rfl
 obtain⟨x',y',hf⟩:=z5i ns t (n:=n) (B:=B) (π:=drawn (pk ns t) n) (ι:=kK (pk ns t) n) L.cl (fun i hi=>Iv hp hi) (fun i hi=>Iw hp hi) (fun i hi=>Iz hp hi) (fun i hi=>Iy hp hi) L.hi none none
 refine(aZ ((jG (qY hn rfl xg)).trans hf)).trans ?_
 refine kJ (ρ1:=[(n0 ns),some (.int t,9),some (bV n B,0),some (.lst [],1),(uL ((List.range n).map (drawn (pk ns t) n))),some (bV n (fun a b=>drawn (pk ns t) n (B (kK (pk ns t) n a) (kK (pk ns t) n b))),0),x',y']) ?_
 have e:d8 (ae 5) (kM ns t (n:=n) (B:=B) (π:=drawn (pk ns t) n) (fun a b=>drawn (pk ns t) n (B (kK (pk ns t) n a) (kK (pk ns t) n b))) x' y')=some ((List.range n).map fun i=>eL n (fun a b=>drawn (pk ns t) n (B (kK (pk ns t) n a) (kK (pk ns t) n b))) i,[(n0 ns),some (.int t,9),some (bV n B,0),some (.lst [],1),(uL ((List.range n).map (drawn (pk ns t) n))),some (bV n (fun a b=>drawn (pk ns t) n (B (kK (pk ns t) n a) (kK (pk ns t) n b))),0),x',y']):=by
  simp[bV,hn]
 have e2:=jF (k:=1) (pt:=aL 8) (tt:=dI) (te:=kr (aa (ae 8) ag)) (deep:=false) e z4h
 exact HZ (eK e2)
section
variable {n:Nat}{f:Nat->Nat->Nat}
def z6g(hn:n<=1000){w:Nat}(hw:w<n):qT [bp n f,(iD w)]=(uL ((List.range n).filter fun x=>decide (f x w=w))):=by
 unfold qT IU
 refine gB (kJ (jF (deep:=false) (ρ2:=[(t9 n f),(i9 w)]) (qY hn rfl l3) ?_))
 refine px (i:=2) (ρ:=[(t9 n f),(i9 w)]) (deep:=false) rfl (fun x=>decide (f x w=w)) (fun x=>(iD x)) (fun _=>9) (fun j hj=>?_) (fun j hj _=>?_)
 ·simp[-Int.ofNat_eq_natCast,Dx hj,Ie hw,xh]
 ·simp[-Int.ofNat_eq_natCast]
variable (L:cm n f){z:Nat}(hz:z<n)(bz:∀ j,j<n->f z j=j)
include L hz bz
theorem KP{w:Nat}(hw:w<n):decide ((List.range n).map (fun j=>f w j)=List.range n)=decide (w=z):=by
 rw[ZU,WS]
 exact⟨fun h=>L.ni hz bz hw h,fun h=>by subst h;exact bz⟩
theorem xJ(hn:n<=1000):jh [bp n f]=(i9 z):=by
 unfold jh IP
 refine gB (kJ (ρ1:=[(t9 n f)]) ?_)
 have hc:dU 1 (cB (aa (bL 0) ag)) (aL 1) (a_ (e2 cG (qp (aa (ay 0 (ae 1)) ag)) (qq (aa (bL 0) ag)))) (ae 1) false (oS 1 [bp n f])=some (.lst (aA [z]),1,[(t9 n f)]):=by
  refine(jF (deep:=false) (ρ2:=[(t9 n f)]) (qY hn rfl l3) (px rfl (fun x=>decide (x=z)) (fun x=>(iD x)) (fun _=>9) (fun j hj=>?_) (fun j hj _=>?_))).trans ?_
  ·have e1:qp (aa (ay 0 (ae 1)) ag) ([(t9 n f)]++[(i9 j)])=some (.lst (aA ((List.range n).map fun k=>f j k)),1,[(t9 n f),(i9 j)]):=by
    simp[-Int.ofNat_eq_natCast,Dx hj,ly]
   have jW:qq (aa (bL 0) ag) [(t9 n f),(i9 j)]=some (.lst (aA (List.range n)),1,[(t9 n f),(i9 j)]):=H9 (qY hn rfl l3)
   unfold a_ e2
   rw[e1]
   simp only[jW,WM,KP L hz bz hj]
   rfl
  ·simp[-Int.ofNat_eq_natCast]
  ·rw[IA,Qf hz]
   rfl
 unfold cA
 rw[hc]
 simp[-Int.ofNat_eq_natCast,dw,aA,L2.dF,iP]
theorem j1i(hn:n<=1000){l:List Nat}(hl:l.length<=1000)(hm:∀ x∈l,x<n):sZ [bp n f,.lst (aA l)]=(i9 (l.foldl f z)):=by
 unfold sZ IS
 refine gB ?_
 refine(aZ (ρ1:=[(t9 n f),some (.lst (aA l),0),(i9 z),none]) ?_).trans ?_
 ·simp[-Int.ofNat_eq_natCast,xJ L hz bz hn]
 obtain⟨ρ',e,y,rfl⟩:=kI (pt:=aL 3) (body:=ba 2 (cA (ay 0 (ae 2)) (ae 3))) (aA l) (fun i ρ=>∃ y,ρ=[(t9 n f),some (.lst (aA l),0),(i9 ((l.take i).foldl f z)),y]) [(t9 n f),some (.lst (aA l),0),(i9 z),none] (fun i hi ρ ah=>by
  obtain⟨y,hy⟩:=ah
  subst hy
  have cT:i<l.length:=by rw[iU]at hi;exact hi
  have hg:(aA l)[i]=.int (Int.ofNat l[i]):=by simp[aA]
  have hx:l[i]<n:=hm _ (Q0 cT)
  have ha:(l.take i).foldl f z<n:=L.fold_lt hz fun x m=>hm x (YF m)
  refine⟨[(t9 n f),some (.lst (aA l),0),(i9 ((l.take i).foldl f z)),some (.int (Int.ofNat l[i]),9)],[(t9 n f),some (.lst (aA l),0),(i9 ((l.take (i+1)).foldl f z)),some (.int (Int.ofNat l[i]),9)],?_,.inl ?_,⟨_,rfl⟩⟩
  ·rw[hg];simp
  ·rw[List.take_succ_eq_append_getElem cT,List.foldl_append]
   simp[-Int.ofNat_eq_natCast,Dx ha,Ie hx]) ⟨none,rfl⟩
 rw[iU,ZV]at e
 refine(aZ ((jG (ds:=aA l) (ρ1:=[(t9 n f),some (.lst (aA l),0),(i9 z),none]) ?_).trans e)).trans ?_
 ·simp[iU,hl]
 ·simp[-Int.ofNat_eq_natCast]
end
section
variable {n:Nat}{f:Nat->Nat->Nat}
variable (L:cm n f){z:Nat}(hz:z<n)(bz:∀ j,j<n->f z j=j)
include L hz bz
theorem z5o(hn:n<=1000):xB [bp n f]=(i9 z):=by
 have b1:(-1000:Int)<=Int.ofNat n:=by show(-1000:Int)<=n;omega
 have b2:Int.ofNat n<=1000:=by show(n:Int)<=1000;omega
 have hr:xA [(iD n)]=(v9 (List.range n)):=by
  unfold xA Kj
  simp[-Int.ofNat_eq_natCast,b1,b2]
  rfl
 have hi:ud (.tup (aA (List.range n))) ((List.range n).map fun i=>ly n f i)=some z:=by
  unfold ud
  rw[Ii,Zf]
  have ev:∀ i,i<n->PyData.eqv (ck (ly n f i)) (ck (.tup (aA (List.range n))))=decide (i=z):=fun i hi=>(zP _ _).trans (KP L hz bz hi)
  refine Ip (x:=ck (ly n f z)) ?_ ?_ ?_
  ·rw[Qk,Zk hz];rfl
  ·rw[ev z hz];simp
  ·intro i y hi hy
   have cT:i<n:=YW hi hz
   rw[Qk,Zk cT]at hy
   cases hy
   refine(ev i cT).trans ?_
   simp;omega
 have h1:dH (.tup ((List.range n).map fun i=>ly n f i))=true:=(WK n f).ok
 have h2:dH (.tup (aA (List.range n)))=true:=(pw _).ok
 have hl:fN (.tup ((List.range n).map fun i=>ly n f i))=some n:=l3 (f:=f)
 unfold xB Kk bp
 simp[-Int.ofNat_eq_natCast,hr,hl,h1,h2,hi]
include L hz bz
theorem y7x(ns:List Int)(t:Int)(h0:0<=t):∃ d:Nat->Nat,(∀ i,i<n->d i<n)/\s_ [cI ns,.int t,bp n f]=some (xj n (cm.lr n f z d),9):=by
 have hn:n<=1000:=QO L.hi (by decide)
 have xK:(0:Int)<Int.ofNat n:=by show(0:Int)<(n:Int);omega
 have dr:∀ i,∃ v,v<n/\(i<n->∀ ρ:aW,ρ[0]? = some (some (cI ns,0))->ρ[1]? = some (some (.int t,9))->ρ[2]? = some (some (bp n f,9))->ρ[3]? = some (some (.int (Int.ofNat z),9))->ρ[5]? = some (some (.int (Int.ofNat i),9))->
   cA (cW (aa (ae 3) (aa (ae 5) (aa (aE bX 3 (aa (ae 0) (aa (e2 bQ (ae 1) (ae 5)) (aa (bL 2) ag)))) ag)))) (aE bX 3 (aa (ae 0) (aa (e2 bQ (e2 bQ (ae 1) (eC (.int 8))) (ae 5)) (aa (eC (.int 3)) ag)))) ρ=some (.int (Int.ofNat v),9,ρ)):=fun i=>by
  have e1:=tm ns (t+Int.ofNat i) (Int.ofNat n) (by show 0<=t+(i:Int);omega) xK
  have jW:=tm ns (t+8+Int.ofNat i) 3 (by show 0<=t+8+(i:Int);omega) (by decide)
  have l1:=qX ns (t+Int.ofNat i) xK
  have l2:=tq ns (t+Int.ofNat i) xK
  have k1:=qX ns (t+8+Int.ofNat i) (m:=3) (by decide)
  have k2:=tq ns (t+8+Int.ofNat i) (m:=3) (by decide)
  generalize jJ ns (t+Int.ofNat i) (Int.ofNat n)=a at *
  generalize jJ ns (t+8+Int.ofNat i) 3=b at *
  obtain⟨a',rfl⟩:∃ a':Nat,a=Int.ofNat a':=⟨a.toNat,by show a=(a.toNat:Int);omega⟩
  have ha':a'<n:=by have:(a':Int)<(n:Int):=l2;omega
  by_cases hi:i<n
  ·have hb:b=0\/b=1\/b=2:=by omega
   rcases hb with rfl|rfl|rfl
   ·refine⟨z,hz,fun _ ρ h0 h1 h2 h3 h5=>?_⟩
    simp[-Int.ofNat_eq_natCast,h0,h1,h2,h3,h5,l3,e1,jW,dw,L2.dF,iP]
   ·refine⟨i,hi,fun _ ρ h0 h1 h2 h3 h5=>?_⟩
    simp[-Int.ofNat_eq_natCast,h0,h1,h2,h3,h5,l3,e1,jW,dw,L2.dF,iP]
   ·refine⟨a',ha',fun _ ρ h0 h1 h2 h3 h5=>?_⟩
    simp[-Int.ofNat_eq_natCast,h0,h1,h2,h3,h5,l3,e1,jW,dw,L2.dF,iP]
  ·exact⟨z,hz,fun h=>absurd h hi⟩
 obtain⟨d,hd⟩:∃ d:Nat->Nat,∀ i,d i<n/\(i<n->∀ ρ:aW,ρ[0]? = some (some (cI ns,0))->ρ[1]? = some (some (.int t,9))->ρ[2]? = some (some (bp n f,9))->ρ[3]? = some (some (.int (Int.ofNat z),9))->ρ[5]? = some (some (.int (Int.ofNat i),9))->
   cA (cW (aa (ae 3) (aa (ae 5) (aa (aE bX 3 (aa (ae 0) (aa (e2 bQ (ae 1) (ae 5)) (aa (bL 2) ag)))) ag)))) (aE bX 3 (aa (ae 0) (aa (e2 bQ (e2 bQ (ae 1) (eC (.int 8))) (ae 5)) (aa (eC (.int 3)) ag)))) ρ=some (.int (Int.ofNat (d i)),9,ρ)):=
  ⟨fun i=>(dr i).choose,fun i=>(dr i).choose_spec⟩
 refine⟨d,fun i _=>(hd i).1,?_⟩
 unfold s_ IW
 refine gB ?_
 have hs:oS 7 [cI ns,.int t,bp n f]=[some (cI ns,0),some (.int t,9),some (bp n f,9),none,none,none,none]:=rfl
 rw[hs]
 refine(aZ (ρ1:=[some (cI ns,0),some (.int t,9),some (bp n f,9),some (.int (Int.ofNat z),9),none,none,none]) ?_).trans ?_
 ·simp[-Int.ofNat_eq_natCast,xJ L hz bz hn]
 refine(aZ (ρ1:=[some (cI ns,0),some (.int t,9),some (bp n f,9),some (.int (Int.ofNat z),9),some (.lst [],1),none,none]) ?_).trans ?_
 ·simp
 obtain⟨ρ',e,y,rfl⟩:=kI (pt:=aL 5) (body:=eI (iq 4 (aa (cA (cW (aa (ae 3) (aa (ae 5) (aa (aE bX 3 (aa (ae 0) (aa (e2 bQ (ae 1) (ae 5)) (aa (bL 2) ag)))) ag)))) (aE bX 3 (aa (ae 0) (aa (e2 bQ (e2 bQ (ae 1) (eC (.int 8))) (ae 5)) (aa (eC (.int 3)) ag))))) ag))) (da n)
  (fun i ρ=>∃ y,ρ=[some (cI ns,0),some (.int t,9),some (bp n f,9),some (.int (Int.ofNat z),9),some (.lst (aA ((List.range i).map d)),1),y,none])
  [some (cI ns,0),some (.int t,9),some (bp n f,9),some (.int (Int.ofNat z),9),some (.lst [],1),none,none] (fun i hi ρ ah=>by
   obtain⟨y,hy⟩:=ah
   subst hy
   have cT:i<n:=by rw[gv]at hi;exact hi
   have hdi:=(hd i).2 cT [some (cI ns,0),some (.int t,9),some (bp n f,9),some (.int (Int.ofNat z),9),some (.lst (aA ((List.range i).map d)),1),some (.int (Int.ofNat i),9),none] rfl rfl rfl rfl rfl
   refine⟨[some (cI ns,0),some (.int t,9),some (bp n f,9),some (.int (Int.ofNat z),9),some (.lst (aA ((List.range i).map d)),1),some (.int (Int.ofNat i),9),none],[some (cI ns,0),some (.int t,9),some (bp n f,9),some (.int (Int.ofNat z),9),some (.lst (aA ((List.range (i+1)).map d)),1),some (.int (Int.ofNat i),9),none],?_,.inl ?_,⟨_,rfl⟩⟩
   ·rw[show(da n)[i]=.int (Int.ofNat i)by simp[da]];simp
   ·have ex:aA ((List.range (i+1)).map d)=aA ((List.range i).map d)++[.int (Int.ofNat (d i))]:=by rw[YO];simp[aA]
    have hl:(aA ((List.range i).map d)).length<=1000:=by rw[iU,Qc,QB];omega
    exact zS rfl (eK hdi) rfl hl (by rw[ex];rfl)) ⟨none,rfl⟩
 rw[gv]at e
 refine(aZ ((jG (qY hn rfl l3)).trans e)).trans ?_
 refine(aZ (ρ1:=[some (cI ns,0),some (.int t,9),some (bp n f,9),some (.int (Int.ofNat z),9),some (.lst (aA ((List.range n).map d)),1),y,some (.lst [],1)]) ?_).trans ?_
 ·simp
 have wm:∀ i,i<n->d i<n:=fun i _=>(hd i).1
 obtain⟨ρ',e,y',rfl⟩:=kI (pt:=aL 5) (body:=eI (iq 6 (aa (aE sZ 2 (aa (ae 2) (aa (dU 1 (d8 (aE qT 2 (aa (ae 2) (aa (ae 5) ag)))) (aL 7) dI (ay 4 (ae 7)) false) ag))) ag))) (da n)
  (fun i ρ=>∃ y,ρ=[some (cI ns,0),some (.int t,9),some (bp n f,9),some (.int (Int.ofNat z),9),some (.lst (aA ((List.range n).map d)),1),y,some (.lst (aA ((List.range i).map (cm.lr n f z d))),1)])
  [some (cI ns,0),some (.int t,9),some (bp n f,9),some (.int (Int.ofNat z),9),some (.lst (aA ((List.range n).map d)),1),y,some (.lst [],1)] (fun i hi ρ ah=>by
   obtain⟨y,hy⟩:=ah
   subst hy
   have cT:i<n:=by rw[gv]at hi;exact hi
   refine⟨[some (cI ns,0),some (.int t,9),some (bp n f,9),some (.int (Int.ofNat z),9),some (.lst (aA ((List.range n).map d)),1),some (.int (Int.ofNat i),9),some (.lst (aA ((List.range i).map (cm.lr n f z d))),1)],[some (cI ns,0),some (.int t,9),some (bp n f,9),some (.int (Int.ofNat z),9),some (.lst (aA ((List.range n).map d)),1),some (.int (Int.ofNat i),9),some (.lst (aA ((List.range (i+1)).map (cm.lr n f z d))),1)],?_,.inl ?_,⟨_,rfl⟩⟩
   ·rw[show(da n)[i]=.int (Int.ofNat i)by simp[da]];simp
   ·have ex:aA ((List.range (i+1)).map (cm.lr n f z d))=aA ((List.range i).map (cm.lr n f z d))++[.int (Int.ofNat (cm.lr n f z d i))]:=by rw[YO];simp[aA]
    have hl:(aA ((List.range i).map (cm.lr n f z d))).length<=1000:=by rw[iU,Qc,QB];omega
    have pE:(cm.low n f i).length<=1000:=by
     have:=ZS (fun y=>decide (f y i=i)) (List.range n)
     rw[QB]at this
     exact QO this hn
    have hit:d8 (aE qT 2 (aa (ae 2) (aa (ae 5) ag))) [some (cI ns,0),some (.int t,9),some (bp n f,9),some (.int (Int.ofNat z),9),some (.lst (aA ((List.range n).map d)),1),some (.int (Int.ofNat i),9),some (.lst (aA ((List.range i).map (cm.lr n f z d))),1)]=some (aA (cm.low n f i),[some (cI ns,0),some (.int t,9),some (bp n f,9),some (.int (Int.ofNat z),9),some (.lst (aA ((List.range n).map d)),1),some (.int (Int.ofNat i),9),some (.lst (aA ((List.range i).map (cm.lr n f z d))),1)]):=by
     have hb:qT [bp n f,.int (Int.ofNat i)]=some (.lst (aA (cm.low n f i)),1):=z6g hn cT
     simp[-Int.ofNat_eq_natCast,hb,iU,pE]
    have hc:=jF (k:=1) (te:=ay 4 (ae 7)) (deep:=false) hit (WV (i:=7) (cm.low n f i) rfl (fun y=>.int (Int.ofNat (d y))) (fun _=>9) (fun y hy=>by
     have hyn:=(cm.eO.mp hy).1
     have mK:dw (.lst (aA ((List.range n).map d))) (Int.ofNat y)=some (.int (Int.ofNat (d y))):=sU hyn
     simp[-Int.ofNat_eq_natCast,mK]))
    have hm:∀ y∈(cm.low n f i).map d,y<n:=cm.iG L hz bz wm
    have e':((cm.low n f i).map fun y=>D.int (Int.ofNat (d y)))=aA ((cm.low n f i).map d):=by simp[aA]
    rw[e']at hc
    have hj:sZ [bp n f,.lst (aA ((cm.low n f i).map d))]=some (.int (Int.ofNat (cm.lr n f z d i)),9):=j1i L hz bz hn (by rw[Qc];exact pE) hm
    have ha:=eK (dh (n:=2) (iF (f:=ae 2) (q:=9) (d:=bp n f) (ρ:=[some (cI ns,0),some (.int t,9),some (bp n f,9),some (.int (Int.ofNat z),9),some (.lst (aA ((List.range n).map d)),1),some (.int (Int.ofNat i),9),some (.lst (aA ((List.range i).map (cm.lr n f z d))),1)]) (ρ1:=[some (cI ns,0),some (.int t,9),some (bp n f,9),some (.int (Int.ofNat z),9),some (.lst (aA ((List.range n).map d)),1),some (.int (Int.ofNat i),9),some (.lst (aA ((List.range i).map (cm.lr n f z d))),1)]) rfl (eK hc)) rfl hj)
    exact zS rfl ha rfl hl (by rw[ex];rfl)) ⟨y,rfl⟩
 rw[gv]at e
 refine(aZ ((jG (qY hn rfl l3)).trans e)).trans ?_
 exact kJ (HZ (eK (q:=0) (ρ1:=[some (cI ns,0),some (.int t,9),some (bp n f,9),some (.int (Int.ofNat z),9),some (.lst (aA ((List.range n).map d)),1),y',some (.lst (aA ((List.range n).map (cm.lr n f z d))),0)]) rfl))
end
def kN (n:Nat):D->Bool
 | .int i=>decide (0<=i)&&decide (i<(n:Int))
 | _=>false
def n9(d:D):xE [d]=(b9 (match d with|.int _=>true|_=>false)):=by
 unfold xE Kq
 cases d<;>simp[nU]
def y5m(n:Nat)(d:D):xF [d,(iD n)]=(b9 (kN n d)):=by
 unfold xF Kr
 cases d with
 | int i=>
  have h:=n9 (.int i)
  by_cases h0:0<=i
  ·by_cases h1:i<(n:Int)
   ·simp[h,kN,h0,h1]
   ·simp[h,kN,h0,h1]
  ·simp[h,kN,h0]
 | aK=>simp[n9,kN]
 | bl b=>simp[n9,kN]
 | str x=>simp[n9,kN]
 | tup ds=>simp[n9,kN]
 | lst ds=>simp[n9,kN]
 | gr ks ds=>simp[n9,kN]
 | exc nm=>simp[n9,kN]
 | ob f fo vs ds=>simp[n9,kN]
 | mp k ds=>simp[n9,kN]
structure cP where
 p:Nat
 W:List (Nat×Nat×(Nat->Nat))
 B:List (Nat×Nat)
def cQ (n:Nat)(w:Nat×Nat×(Nat->Nat)):D:=.tup [(iD w.1),(iD w.2.1),xj n w.2.2]
def ji (b:Nat×Nat):D:=.tup [(iD b.1),(iD b.2)]
def bZ (n:Nat)(C:cP):D:=.tup [(iD C.p),.tup (C.W.map (cQ n)),.tup (C.B.map ji)]
abbrev c9 (n:Nat)(C:cP):OD:=some (bZ n C,9)
def Af (n:Nat)(f:Nat->Nat->Nat)(p:Nat)(w:Nat×Nat×(Nat->Nat)):Prop:=w.1<p/\w.2.1<p/\(∀ i,i<n->w.2.2 i<n)/\∀ x y,x<n->y<n->f x y=y->f (w.2.2 x) (w.2.2 y)=w.2.2 y
def DX (n:Nat)(p:Nat)(b:Nat×Nat):Prop:=b.1<p/\b.2<n
structure cP.Ok (n:Nat) (f:Nat->Nat->Nat) (C:cP):Prop where
 p1:1<=C.p
 p8:C.p<=8
 xM:C.W.length<=60
 DY:C.B.length<=60
 ws:∀ w∈C.W,Af n f C.p w
 bs:∀ b∈C.B,DX n C.p b
@[simp] theorem j1k{C:cP}:(bZ n C).cK=false:=rfl
@[simp] theorem j4w{w:Nat×Nat×(Nat->Nat)}:(cQ n w).cK=false:=rfl
@[simp] theorem j50{b:Nat×Nat}:(ji b).cK=false:=rfl
def jj(ns:List Int){k:Int}(hk:0<=k){m:Int}(hm:0<m):∃ v:Nat,(v:Int)<m/\bX [cI ns,.int k,.int m]=some (.int (Int.ofNat v),9):=by
 have h1:=qX ns k hm
 have h2:=tq ns k hm
 refine⟨(jJ ns k m).toNat,by omega,?_⟩
 rw[tm ns k m hk hm]
 have:jJ ns k m=Int.ofNat (jJ ns k m).toNat:=by show _=(((jJ ns k m).toNat:Nat):Int);omega
 rw[<- this]
def nz(hm:m<=1000){fe:aB}{ρ':aW}(h:fe ρ=some ((iD m),q,ρ')):cB (aa fe ag) ρ=some (da m,ρ'):=by
 have b1:(-1000:Int)<=Int.ofNat m:=by show(-1000:Int)<=m;omega
 have b2:Int.ofNat m<=1000:=by show(m:Int)<=1000;omega
 simp only[cB,aa,ag,h]
 rw[Qf ⟨b1,b2⟩]
 rfl
section
variable {n:Nat}{f:Nat->Nat->Nat}(L:cm n f){z:Nat}(hz:z<n)(bz:∀ j,j<n->f z j=j)
include L hz bz
theorem y9w(ns:List Int)(t:Int)(h0:0<=t)(hp:1<=p)(m:Nat)(hm:m<=7) :
  ∃ W:List (Nat×Nat×(Nat->Nat)),W.length=m/\(∀ w∈W,Af n f p w)/\∃ a b c,eX (aL 6) zY (da m) [(n0 ns),some (.int t,9),(t9 n f),(b9 false),(i9 p),some (.lst [],1),none,none,none,none,none]=some (.nx [(n0 ns),some (.int t,9),(t9 n f),(b9 false),(i9 p),some (.lst (W.map (cQ n)),1),a,b,c,none,none]):=by
 have Ag:(0:Int)<Int.ofNat p:=by show(0:Int)<(p:Int);omega
 obtain⟨ρ',e,W,hl,az,a,b,c,rfl⟩:=kI (pt:=aL 6) (body:=zY) (da m) (fun i ρ=>∃ W:List (Nat×Nat×(Nat->Nat)),W.length=i/\(∀ w∈W,Af n f p w)/\∃ a b c,ρ=[(n0 ns),some (.int t,9),(t9 n f),(b9 false),(i9 p),some (.lst (W.map (cQ n)),1),a,b,c,none,none]) [(n0 ns),some (.int t,9),(t9 n f),(b9 false),(i9 p),some (.lst [],1),none,none,none,none,none] (fun i hi ρ ah=>by
  obtain⟨W,hl,az,a,b,c,hr⟩:=ah
  subst hr
  have cT:i<m:=by rw[gv]at hi;exact hi
  obtain⟨x,hx⟩:∃ x:Int,x=t+10+22*Int.ofNat i:=⟨_,rfl⟩
  have hx0:0<=x:=by have:Int.ofNat i=(i:Int):=rfl;omega
  obtain⟨d,hd,hR⟩:=y7x L hz bz ns (x+2) (by omega)
  obtain⟨s,hs,es⟩:=jj ns hx0 Ag
  obtain⟨g,hg,eg⟩:=jj ns (show 0<=x+1 by omega) Ag
  have kg:s<p:=by have:(s:Int)<(p:Int):=hs;omega
  have la:g<p:=by have:(g:Int)<(p:Int):=hg;omega
  have rF:Af n f p (s,g,cm.lr n f z d):=⟨kg,la,fun i _=>L.qP hz bz hd i,fun x y hx hy e=>L.nq hz bz hd hx hy e⟩
  generalize cm.lr n f z d=r at *
  have hW:W.length<=1000:=by omega
  refine⟨[(n0 ns),some (.int t,9),(t9 n f),(b9 false),(i9 p),some (.lst (W.map (cQ n)),1),(i9 i),b,c,none,none],[(n0 ns),some (.int t,9),(t9 n f),(b9 false),(i9 p),some (.lst ((W++[(s,g,r)]).map (cQ n)),1),(i9 i),some (.int x,9),(r9 n r),none,none],by rw[xI];simp,.inl ?_,W++[(s,g,r)],by simp[hl],fun w hw=>?_,_,_,_,rfl⟩
  ·unfold zY
   refine(aZ (ρ1:=[(n0 ns),some (.int t,9),(t9 n f),(b9 false),(i9 p),some (.lst (W.map (cQ n)),1),(i9 i),some (.int x,9),c,none,none]) (by rw[hx];simp[-Int.ofNat_eq_natCast])).trans ?_
   refine(aZ (ρ1:=[(n0 ns),some (.int t,9),(t9 n f),(b9 false),(i9 p),some (.lst (W.map (cQ n)),1),(i9 i),some (.int x,9),(r9 n r),none,none]) (by simp[-Int.ofNat_eq_natCast,hR])).trans ?_
   refine(aZ (ρ1:=[(n0 ns),some (.int t,9),(t9 n f),(b9 false),(i9 p),some (.lst (W.map (cQ n)),1),(i9 i),some (.int x,9),(r9 n r),none,none]) (by simp[-Int.ofNat_eq_natCast])).trans ?_
   simp[-Int.ofNat_eq_natCast,es,eg,hW,cQ]
  ·rcases QG.mp hw with h|h
   ·exact az w h
   ·rw[Qr.mp h];exact rF) ⟨[],rfl,(fun _ z=>nomatch z),none,none,none,rfl⟩
 rw[gv]at hl
 exact⟨W,hl,az,a,b,c,e⟩
theorem z09(ns:List Int)(t:Int)(h0:0<=t)(hp:1<=p)(m:Nat)(hm:m<=3)(W:OD)(a b c:OD) :
  ∃ B:List (Nat×Nat),B.length=m/\(∀ w∈B,DX n p w)/\∃ a' h,eX (aL 6) zX (da m) [(n0 ns),some (.int t,9),(t9 n f),(b9 false),(i9 p),W,a,b,c,some (.lst [],1),none]=some (.nx [(n0 ns),some (.int t,9),(t9 n f),(b9 false),(i9 p),W,a',b,c,some (.lst (B.map ji),1),h]):=by
 have Ag:(0:Int)<Int.ofNat p:=by show(0:Int)<(p:Int);omega
 have xK:(0:Int)<Int.ofNat n:=by have:=L.lo;show(0:Int)<(n:Int);omega
 obtain⟨ρ',e,B,hl,az,a',h,rfl⟩:=kI (pt:=aL 6) (body:=zX) (da m) (fun i ρ=>∃ B:List (Nat×Nat),B.length=i/\(∀ w∈B,DX n p w)/\∃ a h,ρ=[(n0 ns),some (.int t,9),(t9 n f),(b9 false),(i9 p),W,a,b,c,some (.lst (B.map ji),1),h]) [(n0 ns),some (.int t,9),(t9 n f),(b9 false),(i9 p),W,a,b,c,some (.lst [],1),none] (fun i hi ρ ah=>by
  obtain⟨B,hl,az,a,h,hr⟩:=ah
  subst hr
  have cT:i<m:=by rw[gv]at hi;exact hi
  have hii:Int.ofNat i=(i:Int):=rfl
  obtain⟨v,hv,ev⟩:=jj ns (show 0<=t+3+2*Int.ofNat i by omega) xK
  obtain⟨g,hg,eg⟩:=jj ns (show 0<=t+4+2*Int.ofNat i by omega) Ag
  have wb:v<n:=by have:(v:Int)<(n:Int):=hv;omega
  have la:g<p:=by have:(g:Int)<(p:Int):=hg;omega
  have hB:B.length<=1000:=by omega
  refine⟨[(n0 ns),some (.int t,9),(t9 n f),(b9 false),(i9 p),W,(i9 i),b,c,some (.lst (B.map ji),1),h],[(n0 ns),some (.int t,9),(t9 n f),(b9 false),(i9 p),W,(i9 i),b,c,some (.lst ((B++[(g,v)]).map ji),1),(i9 v)],by rw[xI];simp,.inl ?_,B++[(g,v)],by simp[hl],fun w hw=>?_,_,_,rfl⟩
  ·unfold zX
   refine(aZ (ρ1:=[(n0 ns),some (.int t,9),(t9 n f),(b9 false),(i9 p),W,(i9 i),b,c,some (.lst (B.map ji),1),(i9 v)]) (by simp[-Int.ofNat_eq_natCast,l3,ev])).trans ?_
   simp[-Int.ofNat_eq_natCast,eg,hB,ji]
  ·rcases QG.mp hw with h|h
   ·exact az w h
   ·rw[Qr.mp h];exact⟨la,wb⟩) ⟨[],rfl,(fun _ z=>nomatch z),a,none,rfl⟩
 rw[gv]at hl
 exact⟨B,hl,az,a',h,e⟩
theorem y5e(ns:List Int)(t:Int)(h0:0<=t):∃ C:cP,C.Ok n f/\C.p<=5/\C.W.length<=7/\C.B.length<=3/\xu [cI ns,.int t,bp n f,.bl false]=(c9 n C):=by
 obtain⟨p0,Hh,ep⟩:=jj ns h0 (m:=5) (by decide)
 obtain⟨mw,hmw,ew⟩:=jj ns (show 0<=t+1 by omega) (m:=8) (by decide)
 obtain⟨mb,hmb,eb⟩:=jj ns (show 0<=t+2 by omega) (m:=4) (by decide)
 obtain⟨p,hp⟩:∃ p:Nat,p=p0+1:=⟨_,rfl⟩
 have lQ:(1:Int)+Int.ofNat p0=Int.ofNat p:=by show(1:Int)+(p0:Int)=(p:Int);omega
 obtain⟨W,hWl,DZ,a,b,c,eW⟩:=y9w L hz bz ns t h0 (p:=p) (by omega) mw (by omega)
 obtain⟨B,hBl,D0,a',h,eB⟩:=z09 L hz bz ns t h0 (p:=p) (by omega) mb (by omega) (some (.lst (W.map (cQ n)),1)) a b c
 refine⟨⟨p,W,B⟩,⟨by show 1<=p;omega,by show p<=8;omega,by show W.length<=60;omega,by show B.length<=60;omega,DZ,D0⟩,by show p<=5;omega,by show W.length<=7;omega,by show B.length<=3;omega,?_⟩
 unfold xu IZ
 refine gB ?_
 show aG _ _ [(n0 ns),some (.int t,9),(t9 n f),(b9 false),none,none,none,none,none,none,none]=_
 refine(aZ (ρ1:=[(n0 ns),some (.int t,9),(t9 n f),(b9 false),(i9 p),none,none,none,none,none,none]) (by simp[-Int.ofNat_eq_natCast,ep,lQ])).trans ?_
 refine(aZ (ρ1:=[(n0 ns),some (.int t,9),(t9 n f),(b9 false),(i9 p),some (.lst [],1),none,none,none,none,none]) (by simp)).trans ?_
 refine(aZ ((jG (ρ1:=[(n0 ns),some (.int t,9),(t9 n f),(b9 false),(i9 p),some (.lst [],1),none,none,none,none,none]) (nz (m:=mw) (by omega) (q:=9) (by simp[-Int.ofNat_eq_natCast,ew]))).trans eW)).trans ?_
 refine(aZ (ρ1:=[(n0 ns),some (.int t,9),(t9 n f),(b9 false),(i9 p),some (.lst (W.map (cQ n)),1),a,b,c,some (.lst [],1),none]) (by simp)).trans ?_
 refine(aZ ((jG (ρ1:=[(n0 ns),some (.int t,9),(t9 n f),(b9 false),(i9 p),some (.lst (W.map (cQ n)),1),a,b,c,some (.lst [],1),none]) (nz (m:=mb) (by omega) (q:=9) (by simp[-Int.ofNat_eq_natCast,eb]))).trans eB)).trans ?_
 simp[-Int.ofNat_eq_natCast,bZ]
end
theorem Ah{α:Type}{k:Nat}{pt:eV}{tt:cF}{te:aB}(enc:α->D)(ext:α->aW)(b:α->Bool)(v:α->D)(q:α->Nat):∀ l:List α,
  (∀ x∈l,pt (enc x) (ρ++List.replicate k none)=some (ρ++ext x)/\tt (ρ++ext x)=some (b x,ρ++ext x)/\(b x=true->te (ρ++ext x)=some (v x,q x,ρ++ext x)))->jS k pt tt te false (l.map enc) ρ=some ((l.filter b).map v,ρ)
 | [],_=>rfl
 | x::l,h=>by
  obtain⟨h1,h2,h3⟩:=h x Ql
  have ih:=Ah enc ext b v q l (fun y m=>h y (Qj _ m))
  have ht:(ρ++ext x).take ρ.length=ρ:=by simp
  rw[QI]
  unfold jS
  rw[h1]
  simp only[h2]
  cases hb:b x with
  | true=>
   simp only[Zv,h3 hb,ht,ih]
   rw[List.filter_cons_of_pos hb]
   simp
  | false=>
   simp only[ht,ih]
   rw[List.filter_cons_of_neg (by rw[hb];simp)]
   simp
def z48{x:D×Nat}(h:ρ[i]? = some (some x)):ρ.set i (some x)=ρ:=by
 apply ZK
 intro k
 by_cases hk:i=k
 ·subst hk
  rw[h,QP (Qq.mp h).1]
 ·rw[QR hk]
def uS(h:ρ[i]? = some (some (.lst ds,q))):ae i ρ=some (.lst ds,0,ρ.set i (some (.lst ds,0))):=by
 unfold ae
 rw[h]
 by_cases hq:q=0
 ·subst hq
  rw[z48 h]
  rfl
 ·simp[hq]
def KQ(e:g ρ=some (false,ρ1)):nQ g h ρ=h ρ1:=by unfold nQ;rw[e];rfl
def D1(e:g ρ=some (b,ρ1)):i8 g ρ=some (!b,ρ1):=by unfold i8;rw[e]
def KR(h:f ρ=some (.bl b,q,ρ1)):iA f ρ=some (b,ρ1):=by unfold iA;rw[h];cases b<;>rfl
def xN(h:ρ[i]? = some (some (d,q)))(hl:fN d=some n):bL i ρ=some ((iD n),9,ρ):=by unfold bL;rw[h];simp only[hl]
def xO{b:aB}{k:Int}(hb:b ρ=some (.int k,q',ρ))(h:ρ[i]? = some (some (x,q)))(ha:dw x k=some d)(hd:d.cK=false):ay i b ρ=some (d,9,ρ):=by
 unfold ay
 rw[h]
 simp only[hb,h,ha,hd,gY]
 simp
def lH{a b:aB}{k:Int}(h:a ρ=some (x,q,ρ1))(hb:b ρ1=some (.int k,q',ρ2))(ha:dw x k=some d)(hx:x.cK=false)(hd:d.cK=false):cA a b ρ=some (d,9,ρ2):=by
 unfold cA
 rw[h]
 simp only[hb,ha,hd,hx,gY]
 simp
def j63(h:f ρ=some (.tup [x,y],q,ρ1))(e:(ρ1.set i (some (x,gY x))).set j (some (y,gY y))=ρ2)(hi:i<ρ1.length)(hj:j<ρ1.length):vU f (kz (cR (aL i) (cR (aL j) jD))) ρ=some (.nx ρ2):=by
 subst e
 unfold vU
 rw[h]
 simp[hi,hj]
theorem D2{α:Type}[DecidableEq α]:∀ {l m:List α},l.Nodup->(∀ x∈l,x∈m)->l.length<=m.length
 | [],m,_,_=>QL _
 | a::l,m,nd,h=>by
  have ha:=h a Ql
  obtain⟨n1,n2⟩:=Q4.mp nd
  have ih:=D2 (l:=l) (m:=m.erase a) n2 fun x hx=>(YE (fun z=>n1 (by rw[<- z];exact hx))).mpr (h x (Qj _ hx))
  have:=J0 ha
  have:=JA ha
  rw[Zb]
  omega
section
variable {α β γ:Type}[DecidableEq α][DecidableEq γ](enc:γ->α)(inj:∀ a b,enc a=enc b->a=b)
include inj
theorem xP(v:γ->β){k:γ}:∀ {ks:List γ},k∈ks->vL (ks.map enc) (ks.map v) (enc k)=some (v k)
 | [],h=>(QJ h).elim
 | x::ks,h=>by
  simp only[QI,vL]
  by_cases hx:x=k
  ·subst hx;simp
  ·rw[Qi fun z=>hx (inj _ _ z)]
   exact xP v ((Qs.mp h).resolve_left fun z=>hx z.symm)
theorem Ai(v:γ->β){k:γ}:∀ {ks:List γ},k ∉ ks->vL (ks.map enc) (ks.map v) (enc k)=none
 | [],h=>by simp[vL]
 | x::ks,h=>by
  simp only[QI,vL]
  rw[Qi fun z=>h (by rw[inj _ _ z];exact Ql)]
  exact Ai v fun z=>h (Qj _ z)
theorem D3{k:γ}{ks:List γ}:kE (ks.map enc) (enc k)=true ↔ k∈ks:=by
 unfold kE
 rw[Yz]
 exact⟨fun⟨x,hx,e⟩=>by
  obtain⟨y,hy,rfl⟩:=Qy.mp hx
  rw[<- inj _ _ (Q5 e)]
  exact hy,fun h=>⟨enc k,List.mem_map_of_mem h,Qt rfl⟩⟩
theorem KS(v:γ->β)(k:γ)(e:β):∀ ks:List γ,iS (ks.map enc) (ks.map v) (enc k) e=ks.map fun a=>if a=k then e else v a
 | []=>by simp[iS]
 | x::ks=>by
  simp only[QI,iS]
  rw[KS v k e ks]
  by_cases h:x=k
  ·subst h;simp
  ·have h':¬ enc x=enc k:=fun z=>h (inj _ _ z)
   rw[Qi h',Qi h]
end
def nA(a b:Nat×Nat)(h:bH a=bH b):a=b:=by
 have h1:Int.ofNat a.1=Int.ofNat b.1:=by injection h with e1 e2;injection e1
 have h2:Int.ofNat a.2=Int.ofNat b.2:=by injection h with e1 e2;injection e2 with e3 e4;injection e3
 exact Ud (V8 h1) (V8 h2)
def z5h{fv:aB}{k k':MK}{cx:List D}(hv:fv ρ=some (d,q,ρ1))(h1:dz ρ1[i]? = true)(hk:fk ρ1=some (x,q',ρ2))(h2:ρ2[i]? = some (some (.mp k ds,1)))(di:ds.length<1000)(hp:wZ k ds x d=some (k',cx)) :
  w9 i fk fv ρ=some (.nx (ρ2.set i (some (.mp k' cx,1)))):=by
 unfold w9
 rw[hv]
 simp only[h1,Zv,hk,h2,di,hp]
def j02{k:MK}(h1:dz ρ[i]? = true)(hk:fk ρ=some (x,q,ρ1))(h2:ρ1[i]? = some (some (.mp k ds,q2)))(hg:pj k ds x=some (some d)) :
  uy i fk ρ=some (d,gY d,ρ1):=by
 unfold uy
 rw[Qf h1,hk]
 simp only[h2,hg]
def l7{g:b_}(h:g ρ=some (ds,ρ1))(hl:ds.length<=1000):cX g ρ=some (.tup ds,9,ρ1):=by
 unfold cX
 rw[h]
 exact Qf hl
abbrev c_:=Bool×Nat
def aX (s:c_):D:=.tup [.str (if s.1 then "begin" else "place"),(iD s.2)]
def j5 (C:cP)(s:c_):Prop:=s.2<(if s.1 then C.B.length else C.p)
def atS (C:cP)(z:Nat)(s:c_):Nat×Nat:=if s.1 then C.B.getD s.2 (0,0)else(s.2,z)
def eP (C:cP):List c_:=(List.range C.p).map (fun k=>(false,k))++(List.range C.B.length).map (fun k=>(true,k))
def xQ{C:cP}{s:c_}:s∈eP C ↔ j5 C s:=by
 obtain⟨b,k⟩:=s
 unfold eP j5
 rw[QG,Qy,Qy]
 cases b with
 | true=>
  refine⟨fun h=>h.elim (fun⟨_,_,e⟩=>by cases e) fun⟨k',hk,e⟩=>by cases e;exact QA.mp hk,fun h=>.inr ⟨k,QA.mpr h,rfl⟩⟩
 | false=>
  refine⟨fun h=>h.elim (fun⟨k',hk,e⟩=>by cases e;exact QA.mp hk) (fun⟨_,_,e⟩=>by cases e),fun h=>.inl ⟨k,QA.mpr h,rfl⟩⟩
abbrev fG (C:cP)(j:Nat):Nat×Nat×(Nat->Nat):=C.W.getD j (0,0,id)
def cS (C:cP)(k:Nat×Nat)(j:Nat):Nat×Nat:=((fG C j).2.1,(fG C j).2.2 k.2)
def dN (C:cP)(a:Nat):List Nat:=(C.W.zipIdx.filter fun x=>decide (x.1.1=a)).map (·.2)
def pF{C:cP}:j∈dN C a ↔ j<C.W.length/\(fG C j).1=a:=by
 unfold dN
 rw[Qy]
 constructor
 ·rintro ⟨x,hx,rfl⟩
  obtain⟨h1,h2⟩:=Zw.mp hx
  obtain⟨y,i⟩:=x
  have h3:=YQ.mp h1
  have hi:=(Qq.mp h3).1
  refine⟨hi,?_⟩
  show(C.W.getD i (0,0,id)).1=a
  rw[Qg,h3]
  exact Q5 h2
 ·rintro ⟨h1,h2⟩
  refine⟨(fG C j,j),Zw.mpr ⟨YQ.mpr ?_,Qt h2⟩,rfl⟩
  show C.W[j]? = some (C.W.getD j (0,0,id))
  rw[Qg,Qb h1]
  rfl
def z33(C:cP)(a:Nat):(dN C a).length<=C.W.length:=by
 unfold dN
 rw[Qc]
 refine QO (ZS _ _) ?_
 rw[Y9]
 exact Qh _
def bu (x:c_×List Nat):D:=.tup [aX x.1,.lst (aA x.2)]
@[simp] theorem j29{x:c_×List Nat}:(bu x).cK=false:=rfl
@[simp] theorem j60{k:Nat×Nat}:(av k).cK=false:=rfl
@[simp] theorem j5u{s:c_}:(aX s).cK=false:=rfl
def D4(s:c_):Sh 1 (aX s):=by
 obtain⟨b,k⟩:=s
 have h1:Sh 0 (.str (if b=true then "begin" else "place")):=by
  cases b with
  | true=>exact⟨by decide +kernel,QL _⟩
  | false=>exact⟨by decide +kernel,QL _⟩
 exact .tup fun d hd=>by
  rcases Qs.mp hd with rfl|hd
  ·exact h1
  ·rw[Qr.mp hd];exact .int _
def j16(x:c_×List Nat):Sh 2 (bu x):=.tup fun d hd=>by
 rcases Qs.mp hd with h|hd
 ·rw[h];exact D4 _
 ·rw[Qr.mp hd];exact sV _
def z2g(ks:List (Nat×Nat))(P:Nat×Nat->c_×List Nat):kn (ks.map fun k=>bu (P k))=true:=zO fun d hd=>by
 obtain⟨k,_,rfl⟩:=Qy.mp hd
 exact(j16 _).1
def bb (ks:List (Nat×Nat))(P:Nat×Nat->c_×List Nat):D:=.mp (.t (ks.map bH)) (ks.map fun k=>bu (P k))
def RS (C:cP)(z:Nat):Nat->Nat×Nat->Prop
 | 0,k=>∃ s,j5 C s/\atS C z s=k
 | m+1,k=>∃ k',RS C z m k'/\∃ j,j<C.W.length/\(fG C j).1=k'.1/\cS C k' j=k
def Wk (C:cP):Nat×Nat->List Nat->Nat×Nat->Prop
 | k,[],k'=>k=k'
 | k,j::ws,k'=>j<C.W.length/\(fG C j).1=k.1/\Wk C (cS C k j) ws k'
theorem Wk.snoc{C:cP}:∀ {ws:List Nat} {k:Nat×Nat},Wk C k ws k'->j<C.W.length->(fG C j).1=k'.1->Wk C k (ws++[j]) (cS C k' j)
 | [],k,h,h1,h2=>by
  have h:k=k':=h
  subst h
  exact⟨h1,h2,rfl⟩
 | i::ws,k,h,h1,h2=>⟨h.1,h.2.1,Wk.snoc h.2.2 h1 h2⟩
structure kO (C:cP) (z m:Nat) (ks:List (Nat×Nat)) (P:Nat×Nat->c_×List Nat) (nw:List (Nat×Nat)):Prop where
 nd:ks.Nodup
 nn:nw.Nodup
 i1:∀ k∈ks,∃ j,j<=m/\RS C z j k/\(∀ i,i<j->¬ RS C z i k)/\j5 C (P k).1/\Wk C (atS C z (P k).1) (P k).2 k/\(P k).2.length=j
 i2:∀ j k,j<=m->RS C z j k->k∈ks
 i3:∀ k,k∈nw ↔ RS C z m k/\∀ i,i<m->¬ RS C z i k
 ml:m+(if nw=[]then 0 else 1)<=ks.length
def kO.sub{C:cP}{P:Nat×Nat->c_×List Nat}(b:kO C z m ks P nw):∀ k∈nw,k∈ks:=fun k hk=>b.i2 m k (Qh m) ((b.i3 k).mp hk).1
def kO.end{C:cP}{P:Nat×Nat->c_×List Nat}(b:kO C z m ks P []):∀ j k,RS C z j k->k∈ks:=by
 have low:∀ k∈ks,∃ j,j<m/\RS C z j k:=fun k hk=>by
  obtain⟨j,h1,h2,h3,_⟩:=b.i1 k hk
  refine⟨j,Nat.lt_of_le_of_ne h1 fun e=>?_,h2⟩
  subst e
  exact absurd ((b.i3 k).mpr ⟨h2,h3⟩) (by simp)
 intro j
 induction j with
 | zero=>exact fun k h=>b.i2 0 k (QL _) h
 | succ j ih=>
  rintro k ⟨k',h1,h2⟩
  obtain⟨i,hi,hr⟩:=low k' (ih k' h1)
  exact b.i2 (i+1) k hi ⟨k',hr,h2⟩
def kO.next{C:cP}{L:List (Nat×Nat)}{P PL:Nat×Nat->c_×List Nat}(b:kO C z m ks P nw)(bK:nw ≠ [])(nL:L.Nodup)(hL:∀ k,k∈L ↔ k ∉ ks/\∃ st∈nw,∃ j∈dN C st.1,cS C st j=k)(hP:∀ k∈L,∃ st∈nw,∃ j∈dN C st.1,cS C st j=k/\PL k=((P st).1,(P st).2++[j])) :
  kO C z (m+1) (ks++L) (fun k=>if k∈L then PL k else P k) L:=by
 have key:∀ k,k∈L ↔ RS C z (m+1) k/\∀ i,i<m+1->¬ RS C z i k:=fun k=>by
  rw[hL]
  constructor
  ·rintro ⟨h1,st,h2,j,h3,rfl⟩
   obtain⟨h4,h5⟩:=pF.mp h3
   exact⟨⟨st,((b.i3 st).mp h2).1,j,h4,h5,rfl⟩,fun i hi h=>h1 (b.i2 i _ (by omega) h)⟩
  ·rintro ⟨⟨k',h1,j,h2,h3,rfl⟩,h4⟩
   refine⟨fun h=>?_,k',(b.i3 k').mpr ⟨h1,fun i hi h=>h4 (i+1) (by omega) ⟨k',h,j,h2,h3,rfl⟩⟩,j,pF.mpr ⟨h2,h3⟩,rfl⟩
   obtain⟨i,hi,hr,_⟩:=b.i1 _ h
   exact h4 i (by omega) hr
 refine⟨Jl.mpr ⟨b.nd,nL,fun x hx y hy e=>((hL y).mp hy).1 (by rw[<- e];exact hx)⟩,nL,fun k hk=>?_,fun j k hj h=>?_,key,?_⟩
 ·by_cases xR:k∈L
  ·obtain⟨st,h1,j,h2,e,hPL⟩:=hP k xR
   obtain⟨r1,r2⟩:=(key k).mp xR
   obtain⟨i,q1,q2,q3,q4,q5,q6⟩:=b.i1 st (b.sub st h1)
   have him:i=m:=by
    refine J9 q1 (Y3.mp fun z=>?_)
    exact((b.i3 st).mp h1).2 i z q2
   obtain⟨f1,f2⟩:=pF.mp h2
   refine⟨m+1,Qh _,r1,r2,?_⟩
   show j5 C (if k∈L then PL k else P k).1/\Wk C (atS C z (if k∈L then PL k else P k).1) (if k∈L then PL k else P k).2 k/\(if k∈L then PL k else P k).2.length=m+1
   rw[Qf xR,hPL]
   refine⟨q4,?_,?_⟩
   ·rw[<- e]
    exact q5.snoc f1 f2
   ·show((P st).2++[j]).length=m+1
    rw[Qm,q6,him]
    rfl
  ·have Aj:k∈ks:=(QG.mp hk).resolve_right xR
   obtain⟨j,h1,h2⟩:=b.i1 k Aj
   refine⟨j,by omega,?_⟩
   show _/\_/\j5 C (if k∈L then PL k else P k).1/\Wk C (atS C z (if k∈L then PL k else P k).1) (if k∈L then PL k else P k).2 k/\(if k∈L then PL k else P k).2.length=j
   rw[Qi xR]
   exact h2
 ·by_cases KU:j<=m
  ·exact Qz _ (b.i2 j k KU h)
  ·have:j=m+1:=by omega
   subst this
   by_cases hk:k∈ks
   ·exact Qz _ hk
   ·exact Qp _ ((key k).mpr ⟨h,fun i hi hr=>hk (b.i2 i k (by omega) hr)⟩)
 ·have:=b.ml
  rw[Qi bK]at this
  rw[Qm]
  by_cases D5:L=[]
  ·rw[Qf D5];omega
  ·rw[Qi D5]
   have:=ZO.mpr D5
   omega
section
variable {n:Nat}{f:Nat->Nat->Nat}(L:cm n f){z:Nat}(hz:z<n)(bz:∀ j,j<n->f z j=j){C:cP}(hC:C.Ok n f)
def xS{C:cP}(hj:j<C.W.length):fG C j∈C.W:=by
 unfold fG
 rw[Qg,Qb hj]
 exact Q0 hj
include L hz bz hC
theorem Ak{s:c_}(h:j5 C s):(atS C z s).1<C.p/\(atS C z s).2<n:=by
 obtain⟨b,k⟩:=s
 cases b with
 | true=>
  have hk:k<C.B.length:=h
  have:C.B.getD k (0,0)∈C.B:=by
   rw[Qg,Qb hk]
   exact Q0 hk
  exact hC.bs _ this
 | false=>exact⟨h,hz⟩
theorem KW{k:Nat×Nat}(hk:k.2<n)(hj:j<C.W.length):(cS C k j).1<C.p/\(cS C k j).2<n:=by
 have:=hC.ws _ (xS hj)
 exact⟨this.2.1,this.2.2.1 _ hk⟩
theorem pG:∀ {m:Nat} {k:Nat×Nat},RS C z m k->k.1<C.p/\k.2<n
 | 0,k,⟨s,h1,h2⟩=>by rw[<- h2];exact Ak L hz bz hC h1
 | m+1,k,⟨k',h1,j,h2,h3,h4⟩=>by rw[<- h4];exact KW L hz bz hC (pG h1).2 h2
omit L hz bz hC in
theorem qZ{p n:Nat}(nd:ks.Nodup)(h:∀ k∈ks,k.1<p/\k.2<n):ks.length<=p*n:=by
 have h1:(ks.map fun k=>k.1*n+k.2).Nodup:=by
  refine List.Pairwise.map _ (fun a b lh=>lh) ((VU.mp nd).imp fun {a b} hh=>?_)
  obtain⟨ha,hb,bK⟩:=hh
  intro e
  have a2:=(h a ha).2
  have b2:=(h b hb).2
  have e:a.1*n+a.2=b.1*n+b.2:=e
  have e1:a.1=b.1:=by
   have x1:(a.1*n+a.2) / n=a.1:=by rw[YV,Nat.mul_add_div (by omega),VA a2];omega
   have x2:(b.1*n+b.2) / n=b.1:=by rw[YV,Nat.mul_add_div (by omega),VA b2];omega
   rw[<- x1,e,x2]
  rw[e1]at e
  exact bK (Ud e1 (by omega))
 have:=D2 (m:=List.range (p*n)) h1 fun x hx=>by
  obtain⟨k,hk,rfl⟩:=Qy.mp hx
  obtain⟨a,b⟩:=h k hk
  refine QA.mpr ?_
  calc k.1*n+k.2<k.1*n+n:=by omega
   _=(k.1+1)*n:=by rw[Nat.succ_mul]
   _<=p*n:=Nat.mul_le_mul_right n a
 rw[Qc,QB]at this
 exact this
end
def KY:cG (.str "place") (.str "place")=some (.bl true):=by
 have h:dH (.str "place")=true:=by decide +kernel
 unfold cG
 rw[Qf ⟨h,h⟩]
 rfl
def KZ:cG (.str "begin") (.str "place")=some (.bl false):=by
 have h:dH (.str "begin")=true:=by decide +kernel
 have h':dH (.str "place")=true:=by decide +kernel
 have e:gy (.str "begin") (.str "place")=false:=by decide +kernel
 unfold cG
 rw[Qf ⟨h,h'⟩,e]
section
variable {n:Nat}{f:Nat->Nat->Nat}(L:cm n f){z:Nat}(hz:z<n)(bz:∀ j,j<n->f z j=j){C:cP}(hC:C.Ok n f)
include hC
theorem K0(a:Nat):jH [bZ n C,(iD a)]=(uL (dN C a)):=by
 have hw:=hC.xM
 unfold jH Kd
 refine gB (kJ (ρ1:=[(c9 n C),(i9 a)]) ?_)
 have hi:wa (aa (ay 0 (eC (.int 1))) ag) [(c9 n C),(i9 a)]=some (C.W.zipIdx.map fun x=>.tup [(iD x.2),cQ n x.1],[(c9 n C),(i9 a)]):=by
  have h0:aa (ay 0 (eC (.int 1))) ag [(c9 n C),(i9 a)]=some ([.tup (C.W.map (cQ n))],[(c9 n C),(i9 a)]):=rfl
  unfold wa
  rw[h0]
  show(if(C.W.map (cQ n)).length<=1000 then some (mQ (C.W.map (cQ n)),_)else none)=_
  rw[Qf (by rw[Qc];omega)]
  unfold mQ
  rw[List.zipIdx_map,Zf]
  rfl
 have hc:=jF (k:=2) (pt:=kz (cR (aL 2) (cR (aL 3) jD))) (tt:=a_ (e2 cG (ay 3 (eC (.int 0))) (ae 1))) (te:=ae 2) (deep:=false) hi (Ah (k:=2) (fun x:(Nat×Nat×(Nat->Nat))×Nat=>.tup [(iD x.2),cQ n x.1]) (fun x=>[(i9 x.2),some (cQ n x.1,9)]) (fun x=>decide (x.1.1=a)) (fun x=>(iD x.2)) (fun _=>9) C.W.zipIdx (fun x hx=>by
  refine⟨rfl,?_,fun _=>rfl⟩
  exact eN (dR (fa:=ay 3 (eC (.int 0))) (fb:=ae 1) (q:=9) (q':=9) rfl rfl (xh x.1.1 a))))
 refine hc.trans ?_
 unfold dN aA
 rw[Zf]
 rfl
theorem K1{k:Nat×Nat}(hk:k.2<n)(hj:j<C.W.length):n8 [bZ n C,av k,(iD j)]=(p9 (cS C k j)):=by
 have e:dw (.tup (C.W.map (cQ n))) (Int.ofNat j)=some (cQ n (fG C j)):=l0 (by rw[Qk,Qb hj];simp[hj])
 unfold n8 Kg
 refine gB ?_
 refine(aZ (ρ1:=[(c9 n C),(p9 k),(i9 j),some (cQ n (fG C j),9)]) (dQ (lH (a:=ay 0 (eC (.int 1))) (b:=ae 2) (q:=9) (q':=9) rfl rfl e rfl rfl) rfl)).trans ?_
 have e2:=zT (r:=(fG C j).2.2) hk
 exact kJ (l7 (iF (f:=ay 3 (eC (.int 1))) (q:=9) rfl (eK (lH (a:=ay 3 (eC (.int 2))) (b:=ay 1 (eC (.int 1))) (q:=9) (q':=9) rfl rfl e2 rfl rfl))) (by show 2<=1000;decide))
include L hz bz
theorem K2{s:c_}(hs:j5 C s):nv [bp n f,bZ n C,aX s]=(p9 (atS C z s)):=by
 have hn:n<=1000:=QO L.hi (by decide)
 obtain⟨b,k⟩:=s
 unfold nv Kl
 cases b with
 | true=>
  have hk:k<C.B.length:=hs
  have e:dw (.tup (C.B.map ji)) (Int.ofNat k)=some (ji (C.B.getD k (0,0))):=l0 (by rw[Qk,Qb hk];simp[hk])
  refine gB ?_
  refine(aZ (ρ1:=[(t9 n f),(c9 n C),some (aX (true,k),9)]) ((iT (eN (dR (fa:=ay 2 (eC (.int 0))) (fb:=eC (.str "place")) (q:=9) (q':=9) rfl rfl KZ))).trans rfl)).trans ?_
  exact kJ (lH (a:=ay 1 (eC (.int 2))) (b:=ay 2 (eC (.int 1))) (q:=9) (q':=9) rfl rfl e rfl rfl)
 | false=>
  refine gB (qO ((nY (eN (dR (fa:=ay 2 (eC (.int 0))) (fb:=eC (.str "place")) (q:=9) (q':=9) rfl rfl KY))).trans ?_))
  exact kJ (l7 (iF (f:=ay 2 (eC (.int 1))) (q:=9) rfl (eK (dh (ds:=[bp n f]) (eK rfl) rfl (z5o L hz bz hn)))) (by show 2<=1000;decide))
omit L hz bz in
theorem y3j:tj [bZ n C]=some (.lst ((eP C).map aX),1):=by
 have hB:=hC.DY
 have hp:=hC.p8
 unfold tj Ka
 refine gB ?_
 show aG _ _ [(c9 n C),none]=_
 have c2:dw (bZ n C) 2=some (.tup (C.B.map ji)):=rfl
 have lB:fN (.tup (C.B.map ji))=some C.B.length:=by simp[fN]
 have h1:=jF (k:=1) (tt:=dI) (te:=cX (aa (eC (.str "place")) (aa (ae 2) ag))) (deep:=false) (nz (m:=C.p) (by omega) (fe:=ay 0 (eC (.int 0))) (ρ:=[(c9 n C),none]) (ρ':=[(c9 n C),none]) (q:=9) rfl) (px (i:=2) rfl (fun _=>true) (fun k=>aX (false,k)) (fun _=>9) (fun k hk=>rfl) (fun k hk _=>by simp[-Int.ofNat_eq_natCast,aX]))
 rw[show(List.range C.p).filter (fun _=>true)=List.range C.p by simp]at h1
 refine(aZ (ρ1:=[(c9 n C),some (.lst ((List.range C.p).map fun k=>aX (false,k)),1)]) (dQ h1 rfl)).trans ?_
 have h2:=jF (k:=1) (tt:=dI) (te:=cX (aa (eC (.str "begin")) (aa (ae 2) ag))) (deep:=false) (nz (m:=C.B.length) (by omega) (fe:=eB iB (aa (ay 0 (eC (.int 2))) ag)) (ρ:=[(c9 n C),some (.lst ((List.range C.p).map fun k=>aX (false,k)),0)]) (ρ':=[(c9 n C),some (.lst ((List.range C.p).map fun k=>aX (false,k)),0)]) (q:=9) (by simp[-Int.ofNat_eq_natCast,c2,lB])) (px (i:=2) rfl (fun _=>true) (fun k=>aX (true,k)) (fun _=>9) (fun k hk=>rfl) (fun k hk _=>by simp[-Int.ofNat_eq_natCast,aX]))
 rw[show(List.range C.B.length).filter (fun _=>true)=List.range C.B.length by simp]at h2
 have ea:(eP C).map aX=((List.range C.p).map fun k=>aX (false,k))++((List.range C.B.length).map fun k=>aX (true,k)):=by
  unfold eP
  rw[QY,Zf,Zf]
  rfl
 rw[ea]
 refine kJ (ρ1:=[(c9 n C),some (.lst ((List.range C.p).map fun k=>aX (false,k)),0)]) ?_
 have v1:ae 1 [(c9 n C),some (.lst ((List.range C.p).map fun k=>aX (false,k)),1)]=some (.lst ((List.range C.p).map fun k=>aX (false,k)),0,[(c9 n C),some (.lst ((List.range C.p).map fun k=>aX (false,k)),0)]):=rfl
 unfold lU
 rw[v1]
 have hl:((List.range C.p).map fun k=>aX (false,k)).length+((List.range C.B.length).map fun k=>aX (true,k)).length<=1000:=by
  rw[Qc,Qc,QB,QB];omega
 generalize ((List.range C.p).map fun k=>aX (false,k))=x at *
 generalize ((List.range C.B.length).map fun k=>aX (true,k))=y at *
 rw[Qi (by decide)]at h2
 simp only[h2,Qf hl]
omit L hz bz hC in
theorem j65(ks:List (Nat×Nat))(P:Nat×Nat->c_×List Nat)(r:Nat×Nat)(x:c_×List Nat):∃ cb:List (Nat×Nat),wZ (.t (ks.map bH)) (ks.map fun k=>bu (P k)) (av r) (bu x)=some (.t (cb.map bH),cb.map fun k=>bu (if k=r then x else P k))/\(∀ k,k∈cb ↔ k∈ks\/k=r)/\(ks.Nodup->cb.Nodup)/\cb.length<=ks.length+1:=by
 have e0:wZ (.t (ks.map bH)) (ks.map fun k=>bu (P k)) (av r) (bu x)=some (if kE (ks.map bH) (bH r)=true then(MK.t (ks.map bH),iS (ks.map bH) (ks.map fun k=>bu (P k)) (bH r) (bu x))else(.t (ks.map bH++[bH r]),(ks.map fun k=>bu (P k))++[bu x])):=rfl
 by_cases hm:r∈ks
 ·refine⟨ks,?_,fun k=>⟨.inl,fun h=>h.elim id fun h=>by rw[h];exact hm⟩,id,JK _⟩
  rw[e0,Qf ((D3 bH nA).mpr hm),KS bH nA]
  congr 2
  refine Q8 fun a _=>?_
  by_cases ha:a=r
  ·rw[Qf ha,Qf ha]
  ·rw[Qi ha,Qi ha]
 ·refine⟨ks++[r],?_,fun k=>by rw[QG,Qr],fun nd=>Jl.mpr ⟨nd,by simp,fun a ha b hb e=>hm (by rw[<- Qr.mp hb,<- e];exact ha)⟩,by rw[Qm];exact Qh _⟩
  rw[e0,Qi fun q=>hm ((D3 bH nA).mp q),QY,QY]
  congr 3
  ·exact Q8 fun a ha=>by rw[Qi fun q=>hm (by rw[<- q];exact ha)]
  ·show [bu x]=[bu (if r=r then x else P r)]
   rw[Qf rfl]
def LI (C:cP)(ks:List (Nat×Nat))(P:Nat×Nat->c_×List Nat)(T:List ((Nat×Nat)×Nat))(M:List (Nat×Nat))(PM:Nat×Nat->c_×List Nat):Prop:=
 M.Nodup/\(∀ k,k∈M ↔ k ∉ ks/\∃ x∈T,cS C x.1 x.2=k)/\∀ k∈M,∃ x∈T,cS C x.1 x.2=k/\PM k=((P x.1).1,(P x.1).2++[x.2])
omit L hz bz hC in
theorem LI.old{P PM:Nat×Nat->c_×List Nat}{x:(Nat×Nat)×Nat}(h:LI C ks P T M PM)(hx:cS C x.1 x.2∈ks):LI C ks P (T++[x]) M PM:=by
 obtain⟨h1,h2,h3⟩:=h
 refine⟨h1,fun k=>?_,fun k hk=>?_⟩
 ·rw[h2]
  refine and_congr_right fun hk=>⟨fun⟨y,hy,e⟩=>⟨y,Qz _ hy,e⟩,fun⟨y,hy,e⟩=>?_⟩
  rcases QG.mp hy with q|q
  ·exact⟨y,q,e⟩
  ·rw[Qr.mp q]at e
   exact absurd (by rw[<- e];exact hx) hk
 ·obtain⟨y,hy,e⟩:=h3 k hk
  exact⟨y,Qz _ hy,e⟩
omit L hz bz hC in
theorem LI.new{M':List (Nat×Nat)}{P PM:Nat×Nat->c_×List Nat}{x:(Nat×Nat)×Nat}(h:LI C ks P T M PM)(hx:cS C x.1 x.2 ∉ ks)(h1:∀ k,k∈M' ↔ k∈M\/k=cS C x.1 x.2)(h2:M.Nodup->M'.Nodup) :
  LI C ks P (T++[x]) M' (fun k=>if k=cS C x.1 x.2 then((P x.1).1,(P x.1).2++[x.2])else PM k):=by
 obtain⟨a1,a2,a3⟩:=h
 refine⟨h2 a1,fun k=>?_,fun k hk=>?_⟩
 ·rw[h1,a2]
  constructor
  ·rintro (⟨q1,y,hy,e⟩|q)
   ·exact⟨q1,y,Qz _ hy,e⟩
   ·rw[q]
    exact⟨hx,x,Qp _ Ql,rfl⟩
  ·rintro ⟨q1,y,hy,e⟩
   rcases QG.mp hy with q|q
   ·exact .inl ⟨q1,y,q,e⟩
   ·rw[Qr.mp q]at e
    exact .inr e.symm
 ·by_cases kA:k=cS C x.1 x.2
  ·exact⟨x,Qp _ Ql,kA.symm,Qf kA⟩
  ·obtain⟨y,hy,e1,e2⟩:=a3 k ((h1 k).mp hk |>.resolve_right kA)
   exact⟨y,Qz _ hy,e1,by show(if k=cS C x.1 x.2 then _ else PM k)=_;rw[Qi kA];exact e2⟩
theorem z22{P:Nat×Nat->c_×List Nat}(jc:∀ k∈ks,k.1<C.p/\k.2<n)(cz:∀ k∈nw,k∈ks)(hl:nw.length<=900)(hPl:∀ k∈ks,(P k).2.length<=900) :
  ∃ M PM,uG [bZ n C,bb ks P,.lst (nw.map av)]=some (bb M PM,1)/\M.Nodup/\(∀ k,k∈M ↔ k ∉ ks/\∃ st∈nw,∃ j∈dN C st.1,cS C st j=k)/\∀ k∈M,∃ st∈nw,∃ j∈dN C st.1,cS C st j=k/\PM k=((P st).1,(P st).2++[j]):=by
 have hw:=hC.xM
 have q8:=hC.p8
 have j6:=L.hi
 have K3:C.p*n<=128:=QO (JO q8 j6) (by decide)
 obtain⟨ρ',e,M,PM,a,b,c,d,nB,rfl⟩:=kI (pt:=aL 4) (body:=DP) (nw.map av)
  (fun i ρ=>∃ M PM a b c d,LI C ks P ((nw.take i).flatMap fun st=>(dN C st.1).map fun j=>(st,j)) M PM/\ρ=[(c9 n C),some (bb ks P,0),some (.lst (nw.map av),0),some (bb M PM,1),a,b,c,d])
  [(c9 n C),some (bb ks P,0),some (.lst (nw.map av),0),some (bb [] P,1),none,none,none,none] (fun i hi ρ ah=>by
  obtain⟨M,PM,a,b,c,d,nB,hr⟩:=ah
  subst hr
  have cT:i<nw.length:=by rw[Qc]at hi;exact hi
  have ed:(nw.map av)[i]=av nw[i]:=by simp
  have et:nw.take (i+1)=nw.take i++[nw[i]]:=by rw[Z3];simp[cT]
  have dZ:nw[i]∈nw:=Q0 cT
  rw[ed,et,V6]
  have xT:∀ k∈nw.take i,k∈nw:=fun k m=>YF m
  have hT0:∀ x∈(nw.take i).flatMap fun st=>(dN C st.1).map fun j=>(st,j),x.1∈nw/\x.2∈dN C x.1.1:=fun x hx=>by
   obtain⟨st,h1,h2⟩:=JT.mp hx
   obtain⟨j,h3,rfl⟩:=Qy.mp h2
   exact⟨xT st h1,h3⟩
  generalize ((nw.take i).flatMap fun st=>(dN C st.1).map fun j=>(st,j))=T0 at *
  generalize nw[i]=st at *
  have tz:=cz st dZ
  have D6:=jc st tz
  have hj:∀ j∈dN C st.1,j<C.W.length:=fun j hj=>(pF.mp hj).1
  refine⟨[(c9 n C),some (bb ks P,0),some (.lst (nw.map av),0),some (bb M PM,1),(p9 st),b,c,d],?_⟩
  have D7:uy 1 (ae 4) [(c9 n C),some (bb ks P,0),some (.lst (nw.map av),0),some (bb M PM,1),(p9 st),b,c,d]=some (bu (P st),9,[(c9 n C),some (bb ks P,0),some (.lst (nw.map av),0),some (bb M PM,1),(p9 st),b,c,d]):=by
   refine(j02 (k:=.t (ks.map bH)) (ds:=ks.map fun k=>bu (P k)) (q2:=0) rfl rfl rfl (d:=bu (P st)) ?_).trans rfl
   show some (vL (ks.map bH) (ks.map fun k=>bu (P k)) (bH st))=_
   rw[xP bH nA _ tz]
  have inner:∃ M' uT c' d',LI C ks P (T0++(dN C st.1).map fun j=>(st,j)) M' uT/\eX (aL 6) xx (aA (dN C st.1)) [(c9 n C),some (bb ks P,0),some (.lst (nw.map av),0),some (bb M PM,1),(p9 st),some (bu (P st),9),c,d]=some (.nx [(c9 n C),some (bb ks P,0),some (.lst (nw.map av),0),some (bb M' uT,1),(p9 st),some (bu (P st),9),c',d']):=by
   obtain⟨ρ2,e2,M',uT,c',d',pH,rfl⟩:=kI (pt:=aL 6) (body:=xx) (aA (dN C st.1))
    (fun i ρ=>∃ M PM c d,LI C ks P (T0++((dN C st.1).take i).map fun j=>(st,j)) M PM/\ρ=[(c9 n C),some (bb ks P,0),some (.lst (nw.map av),0),some (bb M PM,1),(p9 st),some (bu (P st),9),c,d])
    [(c9 n C),some (bb ks P,0),some (.lst (nw.map av),0),some (bb M PM,1),(p9 st),some (bu (P st),9),c,d] (fun i hi ρ ah=>by
    obtain⟨M,PM,c,d,nB,hr⟩:=ah
    subst hr
    have cT:i<(dN C st.1).length:=by rw[iU]at hi;exact hi
    have ed:(aA (dN C st.1))[i]=.int (Int.ofNat (dN C st.1)[i]):=by simp[aA]
    have et:(dN C st.1).take (i+1)=(dN C st.1).take i++[(dN C st.1)[i]]:=by rw[Z3];simp[cT]
    have CO:=hj _ (Q0 cT)
    have hT:∀ x∈T0++((dN C st.1).take i).map fun j=>(st,j),x.1∈nw/\x.2∈dN C x.1.1:=fun x hx=>by
     rcases QG.mp hx with h|h
     ·exact hT0 x h
     ·obtain⟨j,h3,rfl⟩:=Qy.mp h
      exact⟨dZ,YF h3⟩
    rw[ed,et,QY,<- Zz]
    generalize T0++((dN C st.1).take i).map (fun j=>(st,j))=T at *
    generalize (dN C st.1)[i]=j at *
    have hMl:M.length<1000:=by
     have:=qZ (p:=C.p) (n:=n) nB.1 fun k hk=>by
      obtain⟨_,x,hx,rfl⟩:=(nB.2.1 k).mp hk
      obtain⟨y1,y2⟩:=hT x hx
      exact KW L hz bz hC (jc _ (cz _ y1)).2 (pF.mp y2).1
     omega
    have wN:=K1 (n:=n) hC (k:=st) D6.2 CO
    refine⟨[(c9 n C),some (bb ks P,0),some (.lst (nw.map av),0),some (bb M PM,1),(p9 st),some (bu (P st),9),(i9 j),d],?_⟩
    have K4:ba 7 (aE n8 3 (aa (ae 0) (aa (ae 4) (aa (ae 6) ag)))) [(c9 n C),some (bb ks P,0),some (.lst (nw.map av),0),some (bb M PM,1),(p9 st),some (bu (P st),9),(i9 j),d]=some (.nx [(c9 n C),some (bb ks P,0),some (.lst (nw.map av),0),some (bb M PM,1),(p9 st),some (bu (P st),9),(i9 j),(p9 (cS C st j))]):=
     dQ (dh (ds:=[bZ n C,av st,(iD j)]) rfl rfl wN) rfl
    have jX:∀ b,(pj (.t (ks.map bH)) (ks.map fun k=>bu (P k)) (av (cS C st j))).map (fun r=>!r.isSome)=some b->a_ (zI (ae 7) 1) [(c9 n C),some (bb ks P,0),some (.lst (nw.map av),0),some (bb M PM,1),(p9 st),some (bu (P st),9),(i9 j),(p9 (cS C st j))]=some (b,[(c9 n C),some (bb ks P,0),some (.lst (nw.map av),0),some (bb M PM,1),(p9 st),some (bu (P st),9),(i9 j),(p9 (cS C st j))]):=fun b hb=>by
     refine eN (q:=9) ?_
     obtain⟨r,e1,e2⟩:=Qx.mp hb
     show(match pj (.t (ks.map bH)) (ks.map fun k=>bu (P k)) (av (cS C st j))with|some r=>some (D.bl (!r.isSome),9,_)|none=>none)=_
     rw[e1,<- e2]
    have hmg:pj (.t (ks.map bH)) (ks.map fun k=>bu (P k)) (av (cS C st j))=some (vL (ks.map bH) (ks.map fun k=>bu (P k)) (bH (cS C st j))):=rfl
    by_cases hk:cS C st j∈ks
    ·refine⟨_,rfl,.inl ?_,M,PM,(i9 j),(p9 (cS C st j)),LI.old nB hk,rfl⟩
     unfold xx
     refine(aZ K4).trans ((iT (jX false ?_)).trans rfl)
     rw[hmg,xP bH nA _ hk]
     rfl
    ·obtain⟨M',p1,p2,p3,p4⟩:=j65 M PM (cS C st j) ((P st).1,(P st).2++[j])
     refine⟨_,rfl,.inl ?_,M',_,(i9 j),(p9 (cS C st j)),LI.new nB hk p2 p3,rfl⟩
     unfold xx
     refine(aZ K4).trans ((nY (jX true ?_)).trans ?_)
     ·rw[hmg,Ai bH nA _ hk]
      rfl
     ·have D8:lU (ay 5 (eC (.int 1))) (cW (aa (ae 6) ag)) [(c9 n C),some (bb ks P,0),some (.lst (nw.map av),0),some (bb M PM,1),(p9 st),some (bu (P st),9),(i9 j),(p9 (cS C st j))]=some (.lst (aA ((P st).2++[j])),1,[(c9 n C),some (bb ks P,0),some (.lst (nw.map av),0),some (bb M PM,1),(p9 st),some (bu (P st),9),(i9 j),(p9 (cS C st j))]):=by
       show(if(aA (P st).2).length + [(iD j)].length<=1000 then some (D.lst (aA (P st).2++[(iD j)]),1,_)else none)=_
       rw[Qf (by rw[iU];have:=hPl st tz;show _+1<=1000;omega)]
       unfold aA
       rw[QY]
       rfl
      have mZ:=l7 (iF (f:=ay 5 (eC (.int 0))) (ρ:=[(c9 n C),some (bb ks P,0),some (.lst (nw.map av),0),some (bb M PM,1),(p9 st),some (bu (P st),9),(i9 j),(p9 (cS C st j))]) (q:=9) rfl (eK D8)) (by show 2<=1000;decide)
      exact(z5h (i:=3) (k:=.t (M.map bH)) (ds:=M.map fun k=>bu (PM k)) mZ rfl rfl rfl (by rw[Qc];exact hMl) p1).trans rfl)
    ⟨M,PM,c,d,by rw[List.take_zero];show LI C ks P (T0++[]) M PM;rw[ZQ];exact nB,rfl⟩
   rw[iU,ZV]at pH
   exact⟨M',uT,c',d',pH,e2⟩
  obtain⟨M',uT,c',d',pH,e2⟩:=inner
  refine⟨_,rfl,.inl ?_,M',uT,(p9 st),some (bu (P st),9),c',d',by simpa using pH,rfl⟩
  unfold DP
  refine(aZ (dQ D7 rfl)).trans ?_
  have hwf:=K0 (n:=n) hC st.1
  have hit:d8 (aE jH 2 (aa (ae 0) (aa (ay 4 (eC (.int 0))) ag))) [(c9 n C),some (bb ks P,0),some (.lst (nw.map av),0),some (bb M PM,1),(p9 st),some (bu (P st),9),c,d]=some (aA (dN C st.1),[(c9 n C),some (bb ks P,0),some (.lst (nw.map av),0),some (bb M PM,1),(p9 st),some (bu (P st),9),c,d]):=by
   have D9:aE jH 2 (aa (ae 0) (aa (ay 4 (eC (.int 0))) ag)) [(c9 n C),some (bb ks P,0),some (.lst (nw.map av),0),some (bb M PM,1),(p9 st),some (bu (P st),9),c,d]=some (.lst (aA (dN C st.1)),1,[(c9 n C),some (bb ks P,0),some (.lst (nw.map av),0),some (bb M PM,1),(p9 st),some (bu (P st),9),c,d]):=dh (ds:=[bZ n C,(iD st.1)]) rfl rfl hwf
   unfold d8
   rw[D9]
   exact Qf (by rw[iU];have:=z33 C st.1;omega)
  exact(jG hit).trans e2) ⟨[],P,none,none,none,none,⟨JL,fun k=>by simp,fun k hk=>absurd hk (by simp)⟩,rfl⟩
 rw[Qc,ZV]at nB
 refine⟨M,PM,?_,nB.1,fun k=>?_,fun k hk=>?_⟩
 ·unfold uG Ki
  refine gB ?_
  show aG _ _ [(c9 n C),some (bb ks P,0),some (.lst (nw.map av),0),none,none,none,none,none]=_
  refine(aZ (ρ1:=[(c9 n C),some (bb ks P,0),some (.lst (nw.map av),0),some (bb [] P,1),none,none,none,none]) rfl).trans ?_
  refine(aZ ((jG (ρ1:=[(c9 n C),some (bb ks P,0),some (.lst (nw.map av),0),some (bb [] P,1),none,none,none,none]) (Qf (by rw[Qc];omega))).trans e)).trans rfl
 ·rw[nB.2.1]
  refine and_congr_right fun _=>⟨fun⟨x,hx,e⟩=>?_,fun⟨st,h1,j,h2,e⟩=>⟨(st,j),JT.mpr ⟨st,h1,Qy.mpr ⟨j,h2,rfl⟩⟩,e⟩⟩
  obtain⟨st,h1,h2⟩:=JT.mp hx
  obtain⟨j,h3,rfl⟩:=Qy.mp h2
  exact⟨st,h1,j,h3,e⟩
 ·obtain⟨x,hx,e1,e2⟩:=nB.2.2 k hk
  obtain⟨st,h1,h2⟩:=JT.mp hx
  obtain⟨j,h3,rfl⟩:=Qy.mp h2
  exact⟨st,h1,j,h3,e1,e2⟩
end
def z49{z:D}{ks:List (List Key)}{y:List Key}(h1:dz ρ[i]? = true)(hk:fk ρ=some (x,q,ρ1))(hz:fz ρ1=some (z,q',ρ2))(h2:ρ2[i]? = some (some (.mp (.t ks) ds,1)))(di:ds.length<1000)(hy:ux x=some y)(hv:vL ks ds y=some d):sP i fk fz ρ=some (d,gY d,ρ2):=by
 unfold sP
 rw[Qf h1,hk]
 simp only[hz,h2,di,hy,hv,Zv]
def z2r{z:D}{ks:List (List Key)}{y:List Key}(h1:dz ρ[i]? = true)(hk:fk ρ=some (x,q,ρ1))(hz:fz ρ1=some (z,q',ρ2))(h2:ρ2[i]? = some (some (.mp (.t ks) ds,1)))(di:ds.length<1000)(hy:ux x=some y)(hv:vL ks ds y=none):sP i fk fz ρ=some (z,gY z,ρ2.set i (some (.mp (.t (ks++[y])) (ds++[z]),1))):=by
 unfold sP
 rw[Qf h1,hk]
 simp only[hz,h2,di,hy,hv,Zv]
def y7a{k:MK}(h0:f0 ρ=some (d0,q0,kH))(h1:dz kH[i]? = true)(h2:f2 kH=some (d2,q2,ρ2))(h3:ρ2[i]? = some (some (.mp k ds,1)))(hF:F [d0,.mp k ds,d2]=some (r,q))(ok:zK q r=true):xf F i f0 f2 ρ=some (r,q,ρ2):=by
 unfold xf
 rw[h0]
 simp only[h1,Zv,h2,h3,hF,ok]
def D_(h:f ρ=some (d,q,ρ1)):eI f ρ=some (.nx ρ1):=by unfold eI;rw[h]
theorem K5(u:Nat×Nat->D):∀ (M ks:List (Nat×Nat)) (ds:List D),M.Nodup->(∀ x∈M,x ∉ ks)->lZ (ks.map bH) ds (M.map bH) (M.map u)=((ks++M).map bH,ds++M.map u)
 | [],ks,ds,_,_=>by simp[lZ]
 | x::M,ks,ds,nd,h=>by
  obtain⟨n1,n2⟩:=Q4.mp nd
  have hx:=h x Ql
  have e:ng (ks.map bH,ds) (bH x,u x)=((ks++[x]).map bH,ds++[u x]):=by
   unfold ng
   rw[Qi fun q=>hx ((D3 bH nA).mp q),QY]
   rfl
  have ih:=K5 u M (ks++[x]) (ds++[u x]) n2 fun y hy q=>by
   rcases QG.mp q with q|q
   ·exact h y (Qj _ hy) q
   ·exact n1 (by rw[<- Qr.mp q];exact hy)
  show((M.map bH).zip (M.map u)).foldl ng (ng (ks.map bH,ds) (bH x,u x))=_
  rw[e]
  refine(show _=lZ ((ks++[x]).map bH) (ds++[u x]) (M.map bH) (M.map u)from rfl).trans (ih.trans ?_)
  rw[Zz,Zz]
  rfl
section
variable {n:Nat}{f:Nat->Nat->Nat}(L:cm n f){z:Nat}(hz:z<n)(bz:∀ j,j<n->f z j=j){C:cP}(hC:C.Ok n f)
include L hz bz hC
theorem Ea{P:Nat×Nat->c_×List Nat}(b:kO C z m ks P nw):∀ k∈ks,k.1<C.p/\k.2<n:=fun k hk=>by
 obtain⟨j,_,h,_⟩:=b.i1 k hk
 exact pG L hz bz hC h
theorem Al{P:Nat×Nat->c_×List Nat}(b:kO C z m ks P nw):ks.length<=C.p*n:=qZ b.nd (Ea L hz bz hC b)
theorem z2c:∃ ks P x,kO C z 0 ks P ks/\eX (aL 3) DR ((eP C).map aX) [(t9 n f),(c9 n C),some (bb [] P,1),none,none,none]=some (.nx [(t9 n f),(c9 n C),some (bb ks P,1),x,none,none]):=by
 have q8:=hC.p8
 have j6:=L.hi
 have K3:C.p*n<=128:=QO (JO q8 j6) (by decide)
 obtain⟨ρ',e,ks,P,x,nd,mem,hP,rfl⟩:=kI (pt:=aL 3) (body:=DR) ((eP C).map aX)
  (fun i ρ=>∃ ks P x,ks.Nodup/\(∀ k,k∈ks ↔ ∃ s∈(eP C).take i,atS C z s=k)/\(∀ k∈ks,∃ s,j5 C s/\atS C z s=k/\P k=(s,[]))/\ρ=[(t9 n f),(c9 n C),some (bb ks P,1),x,none,none])
  [(t9 n f),(c9 n C),some (.mp (.t []) [],1),none,none,none] (fun i hi ρ ah=>by
  obtain⟨ks,P,x,nd,mem,hP,hr⟩:=ah
  subst hr
  have cT:i<(eP C).length:=by rw[Qc]at hi;exact hi
  have ed:((eP C).map aX)[i]=aX (eP C)[i]:=by simp
  have et:(eP C).take (i+1)=(eP C).take i++[(eP C)[i]]:=by rw[Z3];simp[cT]
  have hs:j5 C (eP C)[i]:=xQ.mp (Q0 cT)
  rw[ed,et]
  generalize (eP C).take i=T at *
  generalize (eP C)[i]=s at *
  have hl:(ks.map fun k=>bu (P k)).length<1000:=by
   rw[Qc]
   have:=qZ (p:=C.p) (n:=n) nd fun k hk=>by
    obtain⟨s,h1,h2,_⟩:=hP k hk
    rw[<- h2]
    exact Ak L hz bz hC h1
   omega
  have dZ:=K2 L hz bz hC hs
  refine⟨[(t9 n f),(c9 n C),some (bb ks P,1),some (aX s,9),none,none],?_⟩
  have q9:aE nv 3 (aa (ae 0) (aa (ae 1) (aa (ae 3) ag))) [(t9 n f),(c9 n C),some (bb ks P,1),some (aX s,9),none,none]=some (av (atS C z s),9,[(t9 n f),(c9 n C),some (bb ks P,1),some (aX s,9),none,none]):=dh (ds:=[bp n f,bZ n C,aX s]) rfl rfl dZ
  by_cases hk:atS C z s∈ks
  ·refine⟨_,rfl,.inl (D_ (z49 (ks:=ks.map bH) (ds:=ks.map fun k=>bu (P k)) (y:=bH (atS C z s)) rfl q9 (z:=bu (s,[])) (q':=9) rfl rfl hl rfl (xP bH nA _ hk))),ks,P,some (aX s,9),nd,fun k=>?_,hP,rfl⟩
   rw[mem]
   refine⟨fun⟨t,h1,h2⟩=>⟨t,Qz _ h1,h2⟩,fun⟨t,h1,h2⟩=>?_⟩
   rcases QG.mp h1 with h|h
   ·exact⟨t,h,h2⟩
   ·rw[Qr.mp h]at h2
    rw[<- h2]
    exact(mem _).mp hk
  ·refine⟨[(t9 n f),(c9 n C),some (bb (ks++[atS C z s]) (fun k=>if k=atS C z s then(s,[])else P k),1),some (aX s,9),none,none],rfl,.inl ?_,ks++[atS C z s],_,some (aX s,9),?_,fun k=>?_,fun k kA=>?_,rfl⟩
   ·refine(D_ (z2r (ks:=ks.map bH) (ds:=ks.map fun k=>bu (P k)) (y:=bH (atS C z s)) rfl q9 (z:=bu (s,[])) (q':=9) rfl rfl hl rfl (Ai bH nA _ hk))).trans ?_
    have e1:(ks.map fun k=>bu (P k))++[bu (s,[])]=(ks++[atS C z s]).map fun k=>bu (if k=atS C z s then(s,[])else P k):=by
     rw[QY]
     congr 1
     ·exact Q8 fun a ha=>by rw[Qi fun q=>hk (by rw[<- q];exact ha)]
     ·show _=[bu (if atS C z s=atS C z s then(s,[])else P (atS C z s))]
      rw[Qf rfl]
    have e2:ks.map bH++[bH (atS C z s)]=(ks++[atS C z s]).map bH:=by rw[QY];rfl
    rw[e1,e2]
    rfl
   ·exact Jl.mpr ⟨nd,by simp,fun a ha b hb e=>hk (by rw[<- Qr.mp hb,<- e];exact ha)⟩
   ·rw[QG,mem,Qr]
    constructor
    ·rintro (⟨t,h1,h2⟩|h)
     ·exact⟨t,Qz _ h1,h2⟩
     ·exact⟨s,Qp _ Ql,h.symm⟩
    ·rintro ⟨t,h1,h2⟩
     rcases QG.mp h1 with h|h
     ·exact .inl ⟨t,h,h2⟩
     ·rw[Qr.mp h]at h2
      exact .inr h2.symm
   ·by_cases ha:k=atS C z s
    ·exact⟨s,hs,ha.symm,Qf ha⟩
    ·have:k∈ks:=(QG.mp kA).resolve_right fun q=>ha (Qr.mp q)
     obtain⟨t,h1,h2,h3⟩:=hP k this
     exact⟨t,h1,h2,by show(if k=atS C z s then _ else P k)=_;rw[Qi ha];exact h3⟩)
  ⟨[],fun _=>((false,0),[]),none,JL,fun k=>by simp,fun k hk=>absurd hk (by simp),rfl⟩
 rw[Qc,ZV]at mem
 have tE:∀ k,k∈ks ↔ RS C z 0 k:=fun k=>by
  rw[mem]
  exact⟨fun⟨s,h1,h2⟩=>⟨s,xQ.mp h1,h2⟩,fun⟨s,h1,h2⟩=>⟨s,xQ.mpr h1,h2⟩⟩
 refine⟨ks,P,x,⟨nd,nd,fun k hk=>?_,fun j k hj h=>?_,fun k=>?_,?_⟩,e⟩
 ·obtain⟨s,h1,h2,h3⟩:=hP k hk
  refine⟨0,Qh _,(tE k).mp hk,fun i hi=>absurd hi (Q1 i),?_⟩
  rw[h3]
  exact⟨h1,h2,rfl⟩
 ·obtain rfl:j=0:=Nat.le_zero.mp hj
  exact(tE k).mpr h
 ·rw[tE]
  exact⟨fun h=>⟨h,fun i hi=>absurd hi (Q1 i)⟩,fun h=>h.1⟩
 ·by_cases h:ks=[]
  ·rw[Qf h];exact QL _
  ·rw[Qi h]
   have:=ZO.mpr h
   omega
theorem y72:∃ m ks P,kO C z m ks P []/\uJ [bp n f,bZ n C]=some (bb ks P,1):=by
 have q8:=hC.p8
 have K6:=hC.p1
 have hb60:=hC.DY
 have j6:=L.hi
 have K3:C.p*n<=128:=QO (JO q8 j6) (by decide)
 obtain⟨nC,P0,x0,b0,e0⟩:=z2c L hz bz hC
 have K7:=Al L hz bz hC b0
 have wh:∃ ρ',ui (iA (ae 4)) DQ [(t9 n f),(c9 n C),some (bb nC P0,1),x0,some (.lst (nC.map av),1),none]=some (.nx ρ')/\∃ m ks P x5,kO C z m ks P []/\ρ'=[(t9 n f),(c9 n C),some (bb ks P,1),x0,some (.lst [],0),x5]:=by
  refine ID (fun t ρ=>∃ m ks P nw x5,kO C z m ks P nw/\t=2*(C.p*n-ks.length)+(if nw=[]then 0 else 1)/\ρ=[(t9 n f),(c9 n C),some (bb ks P,1),x0,some (.lst (nw.map av),1),x5]) (k:=2*(C.p*n-nC.length)+(if nC=[]then 0 else 1)) (by split<;>omega) ⟨0,nC,P0,nC,none,b0,rfl,rfl⟩ ?_
  rintro t ρ ⟨m,ks,P,nw,x5,b,rfl,rfl⟩
  have hl:=Al L hz bz hC b
  by_cases uU:nw=[]
  ·subst uU
   exact .inl ⟨_,rfl,m,ks,P,x5,b,rfl⟩
  ·refine .inr ?_
   have Eb:ks ≠ []:=fun q=>by
    obtain⟨k,hk⟩:=List.exists_mem_of_ne_nil _ uU
    have:=b.sub k hk
    rw[q]at this
    cases this
   have hnl:nw.length<=C.p*n:=qZ b.nn fun k hk=>Ea L hz bz hC b k (b.sub k hk)
   have hml:=b.ml
   obtain⟨M,PM,eM,nM,hM,hPM⟩:=z22 L hz bz hC (ks:=ks) (nw:=nw) (P:=P) (Ea L hz bz hC b) b.sub (by omega) (fun k hk=>by
    obtain⟨j,h1,_,_,_,_,h2⟩:=b.i1 k hk
    rw[Qi uU]at hml
    omega)
   have b':=b.next uU nM hM hPM
   have ig:=Al L hz bz hC b'
   rw[Qm]at ig
   refine⟨[(t9 n f),(c9 n C),some (bb ks P,1),x0,some (.lst (nw.map av),0),x5],[(t9 n f),(c9 n C),some (bb (ks++M) (fun k=>if k∈M then PM k else P k),1),x0,some (.lst (M.map av),1),some (bb M PM,1)],_,?_,?_,?_,m+1,ks++M,_,M,some (bb M PM,1),b',rfl,rfl⟩
   ·have:nw.map av ≠ []:=fun q=>uU (YT.mp q)
    show(match FI (.lst (nw.map av))with|some b=>some (b,_)|none=>none)=_
    show some (!(nw.map av).isEmpty,_)=_
    rw[List.isEmpty_eq_false_iff.mpr this]
    rfl
   ·unfold DQ
    have hb:=y7a (F:=uG) (i:=2) (f0:=ae 1) (f2:=ae 4) (ρ:=[(t9 n f),(c9 n C),some (bb ks P,1),x0,some (.lst (nw.map av),0),x5]) (q0:=9) (q2:=0) (k:=.t (ks.map bH)) (ds:=ks.map fun k=>bu (P k)) rfl rfl rfl rfl eM (z2g M PM)
    refine(aZ (ρ1:=[(t9 n f),(c9 n C),some (bb ks P,1),x0,some (.lst (nw.map av),0),some (bb M PM,1)]) (dQ hb rfl)).trans ?_
    have hu:zH 2 5 [(t9 n f),(c9 n C),some (bb ks P,1),x0,some (.lst (nw.map av),0),some (bb M PM,1)]=some (.aK,9,[(t9 n f),(c9 n C),some (bb (ks++M) (fun k=>if k∈M then PM k else P k),1),x0,some (.lst (nw.map av),0),some (bb M PM,1)]):=by
     show(if 2≠5/\(ks.map fun k=>bu (P k)) ≠ []/\(ks.map fun k=>bu (P k)).length<=400/\(M.map fun k=>bu (PM k)).length<=400 then some (D.aK,9,([(t9 n f),(c9 n C),some (bb ks P,1),x0,some (.lst (nw.map av),0),some (bb M PM,1)]:aW).set 2 (some (.mp (.t (lZ (ks.map bH) (ks.map fun k=>bu (P k)) (M.map bH) (M.map fun k=>bu (PM k))).1) (lZ (ks.map bH) (ks.map fun k=>bu (P k)) (M.map bH) (M.map fun k=>bu (PM k))).2,1)))else none)=_
     rw[Qf ⟨by decide,fun q=>Eb (YT.mp q),by rw[Qc];omega,by rw[Qc];omega⟩]
     rw[K5 (fun k=>bu (PM k)) M ks _ nM fun x hx=>((hM x).mp hx).1]
     have e1:(ks.map fun k=>bu (P k))++(M.map fun k=>bu (PM k))=(ks++M).map fun k=>bu (if k∈M then PM k else P k):=by
      rw[QY]
      congr 1
      ·exact Q8 fun a ha=>by rw[Qi fun q=>((hM a).mp q).1 ha]
      ·exact Q8 fun a ha=>by rw[Qf ha]
     show some (D.aK,9,([(t9 n f),(c9 n C),some (bb ks P,1),x0,some (.lst (nw.map av),0),some (bb M PM,1)]:aW).set 2 (some (.mp (.t ((ks++M).map bH)) ((ks.map fun k=>bu (P k))++(M.map fun k=>bu (PM k))),1)))=_
     rw[e1]
     rfl
    refine(aZ (D_ hu)).trans ?_
    have tF:uz 5 [(t9 n f),(c9 n C),some (bb (ks++M) (fun k=>if k∈M then PM k else P k),1),x0,some (.lst (nw.map av),0),some (bb M PM,1)]=some (.lst (M.map av),1,[(t9 n f),(c9 n C),some (bb (ks++M) (fun k=>if k∈M then PM k else P k),1),x0,some (.lst (nw.map av),0),some (bb M PM,1)]):=by
     show(if(M.map bH).length<=1000 then some (D.lst ((M.map bH).map zG),1,_)else none)=_
     rw[Qf (by rw[Qc];omega),Zf]
     rfl
    exact dQ tF rfl
   ·rw[Qm,Qi uU]
    by_cases Ec:M=[]
    ·subst Ec
     rw[Qf rfl]
     simp
    ·rw[Qi Ec]
     have:=ZO.mpr Ec
     omega
 obtain⟨ρ',ew,m,ks,P,x5,b,rfl⟩:=wh
 refine⟨m,ks,P,b,?_⟩
 unfold uJ Km
 refine gB ?_
 show aG _ _ [(t9 n f),(c9 n C),none,none,none,none]=_
 refine(aZ (ρ1:=[(t9 n f),(c9 n C),some (.mp (.t []) [],1),none,none,none]) rfl).trans ?_
 have df:=y3j (n:=n) hC
 have hal:((eP C).map aX).length<=1000:=by
  rw[Qc]
  unfold eP
  rw[Qm,Qc,Qc,QB,QB]
  omega
 have hit:d8 (aE tj 1 (aa (ae 1) ag)) [(t9 n f),(c9 n C),some (.mp (.t []) [],1),none,none,none]=some ((eP C).map aX,[(t9 n f),(c9 n C),some (.mp (.t []) [],1),none,none,none]):=by
  have D9:aE tj 1 (aa (ae 1) ag) [(t9 n f),(c9 n C),some (.mp (.t []) [],1),none,none,none]=some (.lst ((eP C).map aX),1,[(t9 n f),(c9 n C),some (.mp (.t []) [],1),none,none,none]):=dh (ds:=[bZ n C]) rfl rfl df
  unfold d8
  rw[D9]
  exact Qf hal
 refine(aZ ((jG hit).trans e0)).trans ?_
 have tF:uz 2 [(t9 n f),(c9 n C),some (bb nC P0,1),x0,none,none]=some (.lst (nC.map av),1,[(t9 n f),(c9 n C),some (bb nC P0,1),x0,none,none]):=by
  show(if(nC.map bH).length<=1000 then some (D.lst ((nC.map bH).map zG),1,_)else none)=_
  rw[Qf (by rw[Qc];omega),Zf]
  rfl
 refine(aZ (dQ tF rfl)).trans ?_
 exact(aZ ew).trans rfl
end
def K8(e:g ρ=some (false,ρ1)):qf g h ρ=some (false,ρ1):=by unfold qf;rw[e];rfl
def Am(e:g ρ=some (true,ρ1)):qf g h ρ=h ρ1:=by unfold qf;rw[e];rfl
def K9{es:List D}(hl:sj ρ[i]? = true)(hf:f ρ=some (.lst es,1,ρ1))(h1:ρ1[i]? = some (some (.lst ds,1)))(hn:ds.length+es.length<=1000)(e:ρ1.set i (some (.lst (ds++es),1))=ρ2):eI (su i f) ρ=some (.nx ρ2):=by
 unfold eI su
 rw[Qf hl,hf]
 simp only[h1,hn,Zv,e]
def Ed{e:D}(h:fa ρ=some (d,q,ρ1))(h1:ρ1[i]? = some (some (e,q')))(hr:fM d e=some r):qB fa i ρ=some (r,9,ρ1):=by
 unfold qB
 rw[h]
 simp only[h1,hr]
def K_(l:List (Nat×Nat)):Sh 2 (.lst (l.map av)):=.lst fun d hd=>by
 obtain⟨k,_,rfl⟩:=Qy.mp hd
 exact pw [k.1,k.2]
def j1p(a k:Nat×Nat):gy (av a) (av k)=decide (a=k):=by
 refine(zP [a.1,a.2] [k.1,k.2]).trans ?_
 exact ZU.mpr ⟨fun h=>by injection h with e1 e2;injection e2 with e3;exact Ud e1 e3,fun h=>by rw[h]⟩
def La(k:Nat×Nat)(l:List (Nat×Nat)):inD (av k) (.lst (l.map av))=some (decide (k∈l)):=by
 show some ((cZ (l.map av)).any fun y=>PyData.eqv y (ck (av k)))=_
 congr 1
 induction l with
 | nil=>simp[cZ]
 | cons a l ih=>
  have h1:cZ ((a::l).map av)=ck (av a)::cZ (l.map av):=by rw[QI,cZ]
  rw[h1,JG,ih]
  have h2:PyData.eqv (ck (av a)) (ck (av k))=decide (a=k):=j1p a k
  rw[h2]
  by_cases h:a=k
  ·simp[h]
  ·have h':¬ k=a:=fun q=>h q.symm
   simp[h,h']
def An(k:Nat×Nat)(l:List (Nat×Nat)):fM (av k) (.lst (l.map av))=some (.bl (!decide (k∈l))):=by
 unfold fM
 rw[Qf ⟨(pw [k.1,k.2]).ok,(K_ l).ok⟩,La]
 rfl
section
variable {n:Nat}{f:Nat->Nat->Nat}(L:cm n f){z:Nat}(hz:z<n)(bz:∀ j,j<n->f z j=j){C:cP}(hC:C.Ok n f)
include L hz bz hC
theorem y3s(sM:C.p*n<64)(hpb:C.p+C.B.length<64):∃ ks:List (Nat×Nat),ks.Nodup/\(∀ k,k∈ks ↔ ∃ m,RS C z m k)/\xw [bp n f,bZ n C]=some (.lst ((lu ks).map av),1):=by
 have hn:n<=1000:=QO L.hi (by decide)
 have j6:=L.hi
 have hw:=hC.xM
 have q8:=hC.p8
 obtain⟨A,hA⟩:∃ A,A=(List.range C.p).map fun a=>(a,z):=⟨_,rfl⟩
 have Lb:A.length=C.p:=by rw[hA,Qc,QB]
 obtain⟨F0,Ee⟩:∃ F0,F0=A++C.B.filter fun b=>!decide (b∈A):=⟨_,rfl⟩
 have Ef:F0.length<64:=by
  rw[Ee,Qm,Lb]
  have:=ZS (fun b=>!decide (b∈A)) C.B
  omega
 have tG:∀ k,k∈F0 ↔ RS C z 0 k:=fun k=>by
  rw[Ee,QG,Zw]
  constructor
  ·rintro (h|⟨h,_⟩)
   ·rw[hA]at h
    obtain⟨a,ha,rfl⟩:=Qy.mp h
    exact⟨(false,a),QA.mp ha,rfl⟩
   ·obtain⟨i,hi,e⟩:=Zh h
    refine⟨(true,i),hi,?_⟩
    show C.B.getD i (0,0)=k
    rw[Qg,Qb hi]
    exact e
  ·rintro ⟨⟨b,i⟩,h1,h2⟩
   cases b with
   | false=>
    refine .inl ?_
    rw[hA,<- h2]
    exact Qy.mpr ⟨i,QA.mpr h1,rfl⟩
   | true=>
    have hi:i<C.B.length:=h1
    have hk:k∈C.B:=by
     rw[<- h2]
     show C.B.getD i (0,0)∈C.B
     rw[Qg,Qb hi]
     exact Q0 hi
    by_cases Lc:k∈A
    ·exact .inl Lc
    ·exact .inr ⟨hk,by rw[QC Lc];rfl⟩
 have tH:∀ x∈F0,x.2<1000:=fun x hx=>by
  have:=(pG L hz bz hC ((tG x).mp hx)).2
  omega
 have wh:∃ ρ',ui (a_ (e2 ki (ae 3) (bL 2))) DN [(t9 n f),(c9 n C),some (.lst ((hJ F0).map av),1),some (.int 0,9),(none:OD),(none:OD),(none:OD),(none:OD),(none:OD)]=some (.nx ρ')/\∃ (G:List (Nat×Nat)) (i a b c d e:OD),G.Nodup/\(∀ k,k∈G ↔ ∃ m,RS C z m k)/\ρ'=[(t9 n f),(c9 n C),some (.lst (G.map av),1),i,a,b,c,d,e]:=by
  refine ID (fun t ρ=>∃ (G:List (Nat×Nat)) (i:Nat) (a b c d e:OD),G.Nodup/\(∀ k∈G,∃ m,RS C z m k)/\(∀ k,RS C z 0 k->k∈G)/\i<=G.length/\(∀ k∈G.take i,∀ j∈dN C k.1,cS C k j∈G)/\t=C.p*n-i/\ρ=[(t9 n f),(c9 n C),some (.lst (G.map av),1),(i9 i),a,b,c,d,e]) (k:=C.p*n-0) (by omega)
   ⟨hJ F0,0,none,none,none,none,none,zz _,fun k hk=>⟨0,(tG k).mp (sN.mp hk)⟩,fun k hk=>sN.mpr ((tG k).mpr hk),QL _,fun k hk=>by simp at hk,rfl,rfl⟩ ?_
  rintro t ρ ⟨G,i,a,b,c,d,e,nd,h1,h2,hi,h3,rfl,rfl⟩
  have jc:∀ k∈G,k.1<C.p/\k.2<n:=fun k hk=>by
   obtain⟨m,h⟩:=h1 k hk
   exact pG L hz bz hC h
  have hGl:=qZ nd jc
  have nE:a_ (e2 ki (ae 3) (bL 2)) [(t9 n f),(c9 n C),some (.lst (G.map av),1),(i9 i),a,b,c,d,e]=some (decide (i<G.length),[(t9 n f),(c9 n C),some (.lst (G.map av),1),(i9 i),a,b,c,d,e]):=by
   refine eN (dR (fa:=ae 3) (fb:=bL 2) (q:=9) (q':=9) rfl (xN rfl (by show some (G.map av).length=_;rw[Qc])) ?_)
   show some (D.bl (decide (Int.ofNat i<Int.ofNat G.length)))=_
   congr 2
   exact ZU.mpr Yp
  by_cases bY:i<G.length
  ·refine .inr ?_
   rw[Qt bY]at nE
   have Eg:=Q0 bY
   obtain⟨k0,uo⟩:∃ k0,k0=G[i]:=⟨_,rfl⟩
   rw[<- uo]at Eg
   have Eh:=jc k0 Eg
   have eat:dw (.lst (G.map av)) (Int.ofNat i)=some (av k0):=l0 (by rw[Qk,Qb bY,<- uo];rfl)
   have inner:∃ (G':List (Nat×Nat)) (c' d' e':OD),G'.Nodup/\(∀ k∈G',∃ m,RS C z m k)/\(∃ X,G'=G++X)/\(∀ w∈C.W,w.1=k0.1->(w.2.1,w.2.2 k0.2)∈G')/\eX (kz (cR (aL 6) (cR (aL 7) (cR (aL 8) jD)))) uF (C.W.map (cQ n)) [(t9 n f),(c9 n C),some (.lst (G.map av),1),(i9 i),(i9 k0.1),(i9 k0.2),c,d,e]=some (.nx [(t9 n f),(c9 n C),some (.lst (G'.map av),1),(i9 i),(i9 k0.1),(i9 k0.2),c',d',e']):=by
    obtain⟨ρ2,ee,G',c',d',e',g1,g2,g3,g4,rfl⟩:=kI (pt:=kz (cR (aL 6) (cR (aL 7) (cR (aL 8) jD)))) (body:=uF) (C.W.map (cQ n))
     (fun l ρ=>∃ (G':List (Nat×Nat)) (c' d' e':OD),G'.Nodup/\(∀ k∈G',∃ m,RS C z m k)/\(∃ X,G'=G++X)/\(∀ w∈C.W.take l,w.1=k0.1->(w.2.1,w.2.2 k0.2)∈G')/\ρ=[(t9 n f),(c9 n C),some (.lst (G'.map av),1),(i9 i),(i9 k0.1),(i9 k0.2),c',d',e'])
     [(t9 n f),(c9 n C),some (.lst (G.map av),1),(i9 i),(i9 k0.1),(i9 k0.2),c,d,e] (fun l hl ρ ah=>by
     obtain⟨G',c',d',e',g1,g2,g3,g4,hr⟩:=ah
     subst hr
     have ig:l<C.W.length:=by rw[Qc]at hl;exact hl
     have ed:(C.W.map (cQ n))[l]=cQ n C.W[l]:=by simp
     have et:C.W.take (l+1)=C.W.take l++[C.W[l]]:=by rw[Z3];simp[ig]
     have hwm:=Q0 ig
     have t4:fG C l=C.W[l]:=by unfold fG;rw[Qg,Qb ig];rfl
     rw[ed,et]
     generalize C.W[l]=w at *
     obtain⟨s,g,r⟩:=w
     have az:=hC.ws _ hwm
     have hGl':=qZ (p:=C.p) (n:=n) g1 fun k hk=>by
      obtain⟨m,h⟩:=g2 k hk
      exact pG L hz bz hC h
     refine⟨[(t9 n f),(c9 n C),some (.lst (G'.map av),1),(i9 i),(i9 k0.1),(i9 k0.2),(i9 s),(i9 g),(r9 n r)],?_⟩
     have c1:a_ (e2 cG (ae 6) (ae 4)) [(t9 n f),(c9 n C),some (.lst (G'.map av),1),(i9 i),(i9 k0.1),(i9 k0.2),(i9 s),(i9 g),(r9 n r)]=some (decide (s=k0.1),[(t9 n f),(c9 n C),some (.lst (G'.map av),1),(i9 i),(i9 k0.1),(i9 k0.2),(i9 s),(i9 g),(r9 n r)]):=eN (dR (fa:=ae 6) (fb:=ae 4) (q:=9) (q':=9) rfl rfl (xh s k0.1))
     have e8:cX (aa (ae 7) (aa (ay 8 (ae 5)) ag)) [(t9 n f),(c9 n C),some (.lst (G'.map av),1),(i9 i),(i9 k0.1),(i9 k0.2),(i9 s),(i9 g),(r9 n r)]=some (av (g,r k0.2),9,[(t9 n f),(c9 n C),some (.lst (G'.map av),1),(i9 i),(i9 k0.1),(i9 k0.2),(i9 s),(i9 g),(r9 n r)]):=
      l7 (iF (f:=ae 7) (q:=9) rfl (eK (xO (i:=8) (b:=ae 5) (q:=9) (q':=9) rfl rfl (zT (r:=r) Eh.2) rfl))) (by show 2<=1000;decide)
     by_cases hs:s=k0.1
     ·rw[Qt hs]at c1
      by_cases pI:(g,r k0.2)∈G'
      ·refine⟨_,rfl,.inl ?_,G',(i9 s),(i9 g),(r9 n r),g1,g2,g3,fun w tI nF=>?_,rfl⟩
       ·unfold uF
        refine(iT ((Am c1).trans (eN (Ed e8 rfl ((An (g,r k0.2) G').trans (by rw[Qt pI];rfl)))))).trans rfl
       ·rcases QG.mp tI with q|q
        ·exact g4 w q nF
        ·rw[Qr.mp q];exact pI
      ·refine⟨[(t9 n f),(c9 n C),some (.lst ((G'++[(g,r k0.2)]).map av),1),(i9 i),(i9 k0.1),(i9 k0.2),(i9 s),(i9 g),(r9 n r)],rfl,.inl ?_,G'++[(g,r k0.2)],_,_,_,?_,fun k hk=>?_,?_,fun w tI nF=>?_,rfl⟩
       ·unfold uF
        refine(nY ((Am c1).trans (eN (Ed e8 rfl ((An (g,r k0.2) G').trans (by rw[QC pI];rfl)))))).trans ?_
        refine zS (ds:=G'.map av) (d:=av (g,r k0.2)) rfl (eK e8) rfl (by rw[Qc];omega) ?_
        rw[QY]
        rfl
       ·exact Jl.mpr ⟨g1,by simp,fun x hx y hy e=>pI (by rw[<- Qr.mp hy,<- e];exact hx)⟩
       ·rcases QG.mp hk with q|q
        ·exact g2 k q
        ·rw[Qr.mp q]
         obtain⟨m,hm⟩:=h1 k0 Eg
         refine⟨m+1,k0,hm,l,ig,by rw[t4];exact hs,?_⟩
         unfold cS
         rw[t4]
       ·obtain⟨X,hX⟩:=g3
        exact⟨X++[(g,r k0.2)],by rw[hX,Zz]⟩
       ·rcases QG.mp tI with q|q
        ·exact Qz _ (g4 w q nF)
        ·rw[Qr.mp q];exact Qp _ Ql
     ·rw[QC hs]at c1
      refine⟨_,rfl,.inl ?_,G',(i9 s),(i9 g),(r9 n r),g1,g2,g3,fun w tI nF=>?_,rfl⟩
      ·unfold uF
       exact(iT (K8 c1)).trans rfl
      ·rcases QG.mp tI with q|q
       ·exact g4 w q nF
       ·rw[Qr.mp q]at nF;exact absurd nF hs) ⟨G,c,d,e,nd,h1,⟨[],(ZQ G).symm⟩,fun w tI=>by simp at tI,rfl⟩
    rw[Qc,ZV]at g4
    exact⟨G',c',d',e',g1,g2,g3,g4,ee⟩
   obtain⟨G',c',d',e',g1,g2,⟨X,hX⟩,g4,ee⟩:=inner
   refine⟨_,[(t9 n f),(c9 n C),some (.lst (G'.map av),1),(i9 (i+1)),(i9 k0.1),(i9 k0.2),c',d',e'],C.p*n-(i+1),nE,?_,by omega,G',i+1,_,_,_,_,_,g1,g2,fun k hk=>by rw[hX];exact Qz _ (h2 k hk),by rw[hX,Qm];omega,fun k hk j hj=>?_,rfl,rfl⟩
   ·unfold DN
    refine(aZ (ρ1:=[(t9 n f),(c9 n C),some (.lst (G.map av),1),(i9 i),(i9 k0.1),(i9 k0.2),c,d,e]) (j63 (x:=(iD k0.1)) (y:=(iD k0.2)) (xO (i:=2) (b:=ae 3) (q:=1) (q':=9) rfl rfl eat rfl) rfl (by show 4<9;decide) (by show 5<9;decide))).trans ?_
    have hit:d8 (ay 1 (eC (.int 1))) [(t9 n f),(c9 n C),some (.lst (G.map av),1),(i9 i),(i9 k0.1),(i9 k0.2),c,d,e]=some (C.W.map (cQ n),[(t9 n f),(c9 n C),some (.lst (G.map av),1),(i9 i),(i9 k0.1),(i9 k0.2),c,d,e]):=Qf (by rw[Qc];omega)
    exact(aZ ((jG hit).trans ee)).trans rfl
   ·have ht:G'.take (i+1)=G.take i++[k0]:=by
     rw[hX,List.take_append_of_le_length (by omega),Z3,Qb bY,<- uo]
     rfl
    rw[ht]at hk
    rcases QG.mp hk with q|q
    ·rw[hX];exact Qz _ (h3 k q j hj)
    ·rw[Qr.mp q]at hj ⊢
     obtain⟨f1,f2⟩:=pF.mp hj
     exact g4 _ (xS f1) f2
  ·refine .inl ⟨_,by rw[nE,QC bY],G,_,a,b,c,d,e,nd,fun k=>⟨h1 k,?_⟩,rfl⟩
   have hil:i=G.length:=by omega
   rw[hil,ZV]at h3
   rintro ⟨m,hm⟩
   induction m generalizing k with
   | zero=>exact h2 k hm
   | succ m ih=>
    obtain⟨k',q1,j,q2,q3,rfl⟩:=hm
    exact h3 k' (ih k' q1) j (pF.mpr ⟨q2,q3⟩)
 obtain⟨ρ',ew,G,i,a,b,c,d,e,nd,mem,rfl⟩:=wh
 have xU:∀ k∈G,k.1<C.p/\k.2<n:=fun k hk=>by
  obtain⟨m,h⟩:=(mem k).mp hk
  exact pG L hz bz hC h
 have hGl:=qZ nd xU
 refine⟨G,nd,mem,?_⟩
 unfold xw I0
 refine gB ?_
 show aG _ _ [(t9 n f),(c9 n C),(none:OD),(none:OD),(none:OD),(none:OD),(none:OD),(none:OD),(none:OD)]=_
 have pE:=xJ L hz bz hn
 have h1:=jF (k:=1) (tt:=dI) (te:=cX (aa (ae 9) (aa (aE jh 1 (aa (ae 0) ag)) ag))) (deep:=false) (nz (m:=C.p) (by omega) (fe:=ay 1 (eC (.int 0))) (ρ:=[(t9 n f),(c9 n C),(none:OD),(none:OD),(none:OD),(none:OD),(none:OD),(none:OD),(none:OD)]) (ρ':=[(t9 n f),(c9 n C),(none:OD),(none:OD),(none:OD),(none:OD),(none:OD),(none:OD),(none:OD)]) (q:=9) rfl) (px (i:=9) rfl (fun _=>true) (fun k=>av (k,z)) (fun _=>9) (fun k hk=>rfl) (fun k hk _=>l7 (iF (f:=ae 9) (q:=9) rfl (eK (dh (ds:=[bp n f]) (eK rfl) rfl pE))) (by show 2<=1000;decide)))
 rw[show(List.range C.p).filter (fun _=>true)=List.range C.p by simp,show((List.range C.p).map fun k=>av (k,z))=A.map av by rw[hA,Zf];rfl]at h1
 refine(aZ (ρ1:=[(t9 n f),(c9 n C),some (.lst (A.map av),1),(none:OD),(none:OD),(none:OD),(none:OD),(none:OD),(none:OD)]) (dQ h1 rfl)).trans ?_
 have Ei:d8 (ay 1 (eC (.int 2))) [(t9 n f),(c9 n C),some (.lst (A.map av),1),(none:OD),(none:OD),(none:OD),(none:OD),(none:OD),(none:OD)]=some (C.B.map av,[(t9 n f),(c9 n C),some (.lst (A.map av),1),(none:OD),(none:OD),(none:OD),(none:OD),(none:OD),(none:OD)]):=Qf (by rw[Qc];omega)
 have h2:=jF (k:=1) (pt:=aL 9) (tt:=a_ (qB (ae 9) 2)) (te:=ae 9) (deep:=false) Ei (Ah (k:=1) av (fun b=>[(p9 b)]) (fun b=>!decide (b∈A)) av (fun _=>9) C.B (fun b hb=>⟨rfl,eN (Ed (fa:=ae 9) (q:=9) (q':=1) rfl rfl (An b A)),fun _=>rfl⟩))
 refine(aZ (ρ1:=[(t9 n f),(c9 n C),some (.lst (F0.map av),1),(none:OD),(none:OD),(none:OD),(none:OD),(none:OD),(none:OD)]) (K9 (ds:=A.map av) rfl h2 rfl ?_ ?_)).trans ?_
 ·rw[Qc,Qc,Lb]
  have:=ZS (fun b=>!decide (b∈A)) C.B
  omega
 ·rw[Ee,QY]
  rfl
 have h3:uw (ae 2) [(t9 n f),(c9 n C),some (.lst (F0.map av),1),(none:OD),(none:OD),(none:OD),(none:OD),(none:OD),(none:OD)]=some (.lst ((hJ F0).map av),1,[(t9 n f),(c9 n C),some (.lst (F0.map av),0),(none:OD),(none:OD),(none:OD),(none:OD),(none:OD),(none:OD)]):=by
  show(if 0<=1 then(match nX (F0.map av)with|some ks=>if ks.length<64 then some (D.lst ((hJ ks).map av),1,_)else none|none=>none)else none)=_
  rw[Qf (QL 1),zy _ tH]
  show(if F0.length<64 then some (D.lst ((hJ F0).map av),1,_)else none)=_
  rw[Qf Ef]
  rfl
 refine(aZ (ρ1:=[(t9 n f),(c9 n C),some (.lst ((hJ F0).map av),1),(none:OD),(none:OD),(none:OD),(none:OD),(none:OD),(none:OD)]) (dQ h3 rfl)).trans ?_
 refine(aZ (ρ1:=[(t9 n f),(c9 n C),some (.lst ((hJ F0).map av),1),some (.int 0,9),(none:OD),(none:OD),(none:OD),(none:OD),(none:OD)]) rfl).trans ?_
 refine(aZ ew).trans ?_
 refine kJ (ρ1:=[(t9 n f),(c9 n C),some (.lst (G.map av),0),i,a,b,c,d,e]) ?_
 show(if 0<=1 then(match nX (G.map av)with|some ks=>if ks.length<64 then some (D.lst ((lu ks).map av),1,_)else none|none=>none)else none)=_
 rw[Qf (QL 1),zy _ fun x hx=>by have:=(xU x hx).2;omega]
 show(if G.length<64 then some (D.lst ((lu G).map av),1,_)else none)=_
 rw[Qf (by omega)]
 rfl
end
abbrev pL (l:List (Nat×Nat))(q:Nat):OD:=some (.lst (l.map av),q)
abbrev wL (l:List Int)(q:Nat):OD:=some (.lst (l.map D.int),q)
abbrev sL (C:cP)(q:Nat):OD:=some (.lst ((eP C).map aX),q)
def xV (k:Nat):D:=.tup [.str "way",(iD k)]
def Ld:gy (.str "begin") (.str "place")=false/\gy (.str "place") (.str "begin")=false/\gy (.str "place") (.str "place")=true/\gy (.str "begin") (.str "begin")=true/\gy (.str "place") (.str "way")=false/\gy (.str "begin") (.str "way")=false:=by decide +kernel
def Le(a b c d:D):gy (.tup [a,b]) (.tup [c,d])=(gy a c&&gy b d):=by
 show(PyData.eqv (ck a) (ck c)&&(PyData.eqv (ck b) (ck d)&&true))=_
 rw[Vm]
 rfl
def j2f(a b:c_):gy (aX a) (aX b)=decide (a=b):=by
 obtain⟨x,i⟩:=a
 obtain⟨y,j⟩:=b
 obtain⟨h1,h2,h3,h4,_⟩:=Ld
 refine(Le _ _ _ _).trans ?_
 rw[DB]
 have e:decide ((x,i)=(y,j))=(decide (x=y)&&decide (i=j)):=by rw[<- Bool.decide_and];exact ZU.mpr ⟨fun h=>by cases h;exact⟨rfl,rfl⟩,fun h=>by rw[h.1,h.2]⟩
 rw[e]
 cases x<;>cases y<;>simp[h1,h2,h3,h4]
def j2t(a:c_)(k:Nat):gy (aX a) (xV k)=false:=by
 obtain⟨x,i⟩:=a
 obtain⟨_,_,_,_,h5,h6⟩:=Ld
 refine(Le _ _ _ _).trans ?_
 cases x<;>simp[h5,h6]
def Ej{α:Type}(enc:α->D)(d:D)(b:α->Bool):∀ (l:List α),(∀ a∈l,gy (enc a) d=b a)->inD d (.lst (l.map enc))=some (l.any b):=fun l h=>by
 show some ((cZ (l.map enc)).any fun y=>PyData.eqv y (ck d))=_
 congr 1
 induction l with
 | nil=>rfl
 | cons a l ih=>
  have h1:cZ ((a::l).map enc)=ck (enc a)::cZ (l.map enc):=by rw[QI,cZ]
  rw[h1,JG,JG,ih fun x hx=>h x (Qj _ hx),<- h a Ql]
  rfl
def z9g{α:Type}[DecidableEq α](s:α)(l:List α):l.any (fun a=>decide (a=s))=decide (s∈l):=by
 rw[Bool.eq_iff_iff,Yz,ZA]
 exact⟨fun⟨x,h1,h2⟩=>Q5 h2 ▸ h1,fun h=>⟨s,h,Qt rfl⟩⟩
def Lf(l:List c_):Sh 2 (.lst (l.map aX)):=.lst fun d hd=>by
 obtain⟨k,_,rfl⟩:=Qy.mp hd
 exact D4 k
def Lg(s:c_)(l:List c_):fM (aX s) (.lst (l.map aX))=some (.bl (!decide (s∈l))):=by
 unfold fM
 rw[Qf ⟨(D4 s).ok,(Lf l).ok⟩,Ej aX (aX s) (fun a=>decide (a=s)) l (fun a _=>j2f a s),z9g]
 simp
def j5w(k:Nat):Sh 1 (xV k):=.tup fun d hd=>by
 rcases Qs.mp hd with rfl|hd
 ·exact⟨by decide +kernel,QL _⟩
 ·rw[Qr.mp hd];exact .int _
def z2n(k:Nat)(l:List c_):fM (xV k) (.lst (l.map aX))=some (.bl true):=by
 unfold fM
 rw[Qf ⟨(j5w k).ok,(Lf l).ok⟩,Ej aX (xV k) (fun _=>false) l (fun a _=>j2t a k)]
 simp
def z0g(i:Int)(l:List Nat):fM (.int i) (.lst (aA l))=some (.bl (!decide (0<=i/\i.toNat∈l))):=by
 unfold fM
 rw[Qf ⟨(Sh.int (k:=0) _).ok,(sV l).ok⟩]
 unfold aA
 rw[Ej (fun i:Nat=>(iD i)) (.int i) (fun a=>decide ((a:Int)=i)) l (fun a _=>zQ _ _)]
 have e:l.any (fun a=>decide ((a:Int)=i))=decide (0<=i/\i.toNat∈l):=by
  rw[Bool.eq_iff_iff,Yz,ZA]
  constructor
  ·rintro ⟨x,h1,h2⟩
   have:=Q5 h2
   exact⟨by omega,by rw[show i.toNat=x by omega];exact h1⟩
  ·rintro ⟨h1,h2⟩
   exact⟨i.toNat,h2,Qt (by omega)⟩
 rw[e]
 rfl
def q_ (C:cP)(k:Nat×Nat)(i:Int):Prop:=0<=i/\i.toNat<C.W.length/\(fG C i.toNat).1=k.1
instance {C:cP} {k:Nat×Nat} {i:Int}:Decidable (q_ C k i):=by unfold q_;exact inferInstance
def iI (C:cP):Nat×Nat->List Int->Option (Nat×Nat)
 | k,[]=>some k
 | k,i::ws=>if q_ C k i then iI C (cS C k i.toNat) ws else none
def dm:Option (Nat×Nat)->D
 | some k=>av k
 | none=>.str "no step"
theorem Lh{C:cP}:∀ {ws:List Nat} {k:Nat×Nat},Wk C k ws k'->iI C k (ws.map Int.ofNat)=some k'
 | [],k,h=>by
  have h:k=k':=h
  rw[h];rfl
 | j::ws,k,h=>by
  show(if q_ C k (Int.ofNat j)then _ else _)=_
  rw[Qf ⟨Int.natCast_nonneg j,h.1,h.2.1⟩]
  exact Lh h.2.2
def j24(h:g ρ=some (true,ρ1)):oP g fa fb ρ=fa ρ1:=by unfold oP;rw[h];rfl
def j3f(h:g ρ=some (false,ρ1)):oP g fa fb ρ=fb ρ1:=by unfold oP;rw[h];rfl
section
variable {n:Nat}{f:Nat->Nat->Nat}(L:cm n f){z:Nat}(hz:z<n)(bz:∀ j,j<n->f z j=j){C:cP}(hC:C.Ok n f)
include hC
theorem Li(ws:List Int)(d:D):lU (dU 1 (cB (aa (ay 1 (eC (.int 0))) ag)) (aL 7) dI (cX (aa (eC (.str "place")) (aa (ae 7) ag))) false) (dU 1 (cB (aa (eB iB (aa (ay 1 (eC (.int 2))) ag)) ag)) (aL 7) dI (cX (aa (eC (.str "begin")) (aa (ae 7) ag))) false) [(t9 n f),(c9 n C),some (d,9),(wL ws 0),none,none,none]=some (.lst ((eP C).map aX),1,[(t9 n f),(c9 n C),some (d,9),(wL ws 0),none,none,none]):=by
 have hB:=hC.DY
 have hp:=hC.p8
 have c2:dw (bZ n C) 2=some (.tup (C.B.map ji)):=rfl
 have lB:fN (.tup (C.B.map ji))=some C.B.length:=by simp[fN]
 have h1:=jF (k:=1) (tt:=dI) (te:=cX (aa (eC (.str "place")) (aa (ae 7) ag))) (deep:=false) (nz (m:=C.p) (by omega) (fe:=ay 1 (eC (.int 0))) (ρ:=[(t9 n f),(c9 n C),some (d,9),(wL ws 0),none,none,none]) (ρ':=[(t9 n f),(c9 n C),some (d,9),(wL ws 0),none,none,none]) (q:=9) rfl) (px (i:=7) rfl (fun _=>true) (fun k=>aX (false,k)) (fun _=>9) (fun k hk=>rfl) (fun k hk _=>by simp[-Int.ofNat_eq_natCast,aX]))
 rw[show(List.range C.p).filter (fun _=>true)=List.range C.p by simp]at h1
 have h2:=jF (k:=1) (tt:=dI) (te:=cX (aa (eC (.str "begin")) (aa (ae 7) ag))) (deep:=false) (nz (m:=C.B.length) (by omega) (fe:=eB iB (aa (ay 1 (eC (.int 2))) ag)) (ρ:=[(t9 n f),(c9 n C),some (d,9),(wL ws 0),none,none,none]) (ρ':=[(t9 n f),(c9 n C),some (d,9),(wL ws 0),none,none,none]) (q:=9) (by simp[-Int.ofNat_eq_natCast,c2,lB])) (px (i:=7) rfl (fun _=>true) (fun k=>aX (true,k)) (fun _=>9) (fun k hk=>rfl) (fun k hk _=>by simp[-Int.ofNat_eq_natCast,aX]))
 rw[show(List.range C.B.length).filter (fun _=>true)=List.range C.B.length by simp]at h2
 have ea:(eP C).map aX=((List.range C.p).map fun k=>aX (false,k))++((List.range C.B.length).map fun k=>aX (true,k)):=by
  unfold eP
  rw[QY,Zf,Zf]
  rfl
 rw[ea]
 have hl:((List.range C.p).map fun k=>aX (false,k)).length+((List.range C.B.length).map fun k=>aX (true,k)).length<=1000:=by
  rw[Qc,Qc,QB,QB];omega
 unfold lU
 generalize ((List.range C.p).map fun k=>aX (false,k))=x at *
 generalize ((List.range C.B.length).map fun k=>aX (true,k))=y at *
 rw[Qi (by decide)]at h1 h2
 simp only[h1,h2,Qf hl]
theorem Lj(d:D)(W:List Int)(a:OD):∀ (us:List Int) (k:Nat×Nat) (c:OD),k.2<n->(∀ ws,ws=W->(∀ k',iI C k us=some k'->k'.2<n/\∃ c',eX (aL 6) pC (us.map D.int) [(t9 n f),(c9 n C),some (d,9),(wL ws 0),a,(p9 k),c]=some (.nx [(t9 n f),(c9 n C),some (d,9),(wL ws 0),a,(p9 k'),c']))/\(iI C k us=none->eX (aL 6) pC (us.map D.int) [(t9 n f),(c9 n C),some (d,9),(wL ws 0),a,(p9 k),c]=some (.rt (.str "no step") 9)))
 | [],k,c,hk,ws,hw=>⟨fun k' e=>by cases e;exact⟨hk,c,rfl⟩,fun e=>by cases e⟩
 | i::us,k,c,hk,ws,hw=>by
  have lW:fN (.tup (C.W.map (cQ n)))=some C.W.length:=by simp[fN]
  have hlen:eB iB (aa (ay 1 (eC (.int 1))) ag) [(t9 n f),(c9 n C),some (d,9),(wL ws 0),a,(p9 k),some (.int i,9)]=some ((iD C.W.length),9,[(t9 n f),(c9 n C),some (d,9),(wL ws 0),a,(p9 k),some (.int i,9)]):=DE (eK (q:=9) (d:=.tup (C.W.map (cQ n))) rfl) (by simp[-Int.ofNat_eq_natCast,iB,lW])
  have ju:i8 (a_ (nV vA ki (eC (.int 0)) (ae 6) (eB iB (aa (ay 1 (eC (.int 1))) ag)))) [(t9 n f),(c9 n C),some (d,9),(wL ws 0),a,(p9 k),some (.int i,9)]=some (!(decide (0<=i)&&decide (i<(C.W.length:Int))),[(t9 n f),(c9 n C),some (d,9),(wL ws 0),a,(p9 k),some (.int i,9)]):=by
   refine D1 (eN (q:=9) ?_)
   unfold nV
   rw[show eC (.int 0) [(t9 n f),(c9 n C),some (d,9),(wL ws 0),a,(p9 k),some (.int i,9)]=some (.int 0,9,[(t9 n f),(c9 n C),some (d,9),(wL ws 0),a,(p9 k),some (.int i,9)])from rfl]
   dsimp only
   rw[show ae 6 [(t9 n f),(c9 n C),some (d,9),(wL ws 0),a,(p9 k),some (.int i,9)]=some (.int i,9,[(t9 n f),(c9 n C),some (d,9),(wL ws 0),a,(p9 k),some (.int i,9)])from rfl]
   dsimp only
   show(match (some (D.bl (decide (0<=i))):Option D)with|some (.bl true)=>_|some (.bl false)=>_|_=>_)=_
   by_cases h0:0<=i
   ·rw[Qt h0]
    dsimp only
    rw[hlen]
    rfl
   ·rw[QC h0]
    rfl
  have hp:aL 6 (.int i) [(t9 n f),(c9 n C),some (d,9),(wL ws 0),a,(p9 k),c]=some [(t9 n f),(c9 n C),some (d,9),(wL ws 0),a,(p9 k),some (.int i,9)]:=rfl
  by_cases hr:0<=i/\i<(C.W.length:Int)
  ·rw[Qt hr.1,Qt hr.2]at ju
   obtain⟨j,rfl⟩:∃ j:Nat,i=Int.ofNat j:=⟨i.toNat,(YS hr.1).symm⟩
   have hj:j<C.W.length:=by have:=hr.2;exact Yp.mp this
   have e:dw (.tup (C.W.map (cQ n))) (Int.ofNat j)=some (cQ n (fG C j)):=l0 (by rw[Qk,Qb hj];simp[hj])
   have ew:cA (ay 1 (eC (.int 1))) (ae 6) [(t9 n f),(c9 n C),some (d,9),(wL ws 0),a,(p9 k),(i9 j)]=some (cQ n (fG C j),9,[(t9 n f),(c9 n C),some (d,9),(wL ws 0),a,(p9 k),(i9 j)]):=lH (a:=ay 1 (eC (.int 1))) (b:=ae 6) (q:=9) (q':=9) rfl rfl e rfl rfl
   have bK:a_ (e2 fC (cA (cA (ay 1 (eC (.int 1))) (ae 6)) (eC (.int 0))) (ay 5 (eC (.int 0)))) [(t9 n f),(c9 n C),some (d,9),(wL ws 0),a,(p9 k),(i9 j)]=some (!decide ((fG C j).1=k.1),[(t9 n f),(c9 n C),some (d,9),(wL ws 0),a,(p9 k),(i9 j)]):=eN (dR (lH (b:=eC (.int 0)) (q':=9) ew rfl rfl rfl rfl) (fb:=ay 5 (eC (.int 0))) (q':=9) rfl (Io _ _))
   have az:q_ C k (Int.ofNat j) ↔ (fG C j).1=k.1:=⟨fun h=>h.2.2,fun h=>⟨hr.1,hj,h⟩⟩
   by_cases Ao:(fG C j).1=k.1
   ·rw[Qt Ao]at bK
    have jW:=zT (r:=(fG C j).2.2) hk
    have hb:pC [(t9 n f),(c9 n C),some (d,9),(wL ws 0),a,(p9 k),(i9 j)]=some (.nx [(t9 n f),(c9 n C),some (d,9),(wL ws 0),a,(p9 (cS C k j)),(i9 j)]):=by
     unfold pC
     refine(aZ ((iT ((KQ ju).trans bK)).trans rfl)).trans ?_
     exact dQ (l7 (iF (lH (b:=eC (.int 1)) (q':=9) ew rfl rfl rfl rfl) (eK (lH (b:=ay 5 (eC (.int 1))) (q':=9) (lH (b:=eC (.int 2)) (q':=9) ew rfl rfl rfl rfl) rfl jW rfl rfl))) (by show 2<=1000;decide)) rfl
    have ih:=Lj d W a us (cS C k j) ((i9 j)) ((hC.ws _ (xS hj)).2.2.1 _ hk) ws hw
    have pJ:iI C k (Int.ofNat j::us)=iI C (cS C k j) us:=Qf (az.mpr Ao)
    rw[pJ,QI,DF hp hb]
    exact ih
   ·rw[QC Ao]at bK
    have hb:pC [(t9 n f),(c9 n C),some (d,9),(wL ws 0),a,(p9 k),(i9 j)]=some (.rt (.str "no step") 9):=by
     unfold pC
     exact qO ((nY ((KQ ju).trans bK)).trans rfl)
    have pJ:iI C k (Int.ofNat j::us)=none:=Qi fun h=>Ao (az.mp h)
    rw[pJ,QI,DG hp hb]
    exact⟨(fun k' e=>by cases e),fun _=>rfl⟩
  ·have Ek:(decide (0<=i)&&decide (i<(C.W.length:Int)))=false:=by
    rw[<- Bool.decide_and];exact QC hr
   rw[Ek]at ju
   have hb:pC [(t9 n f),(c9 n C),some (d,9),(wL ws 0),a,(p9 k),some (.int i,9)]=some (.rt (.str "no step") 9):=by
    unfold pC
    exact qO ((nY (by unfold nQ;rw[ju];rfl)).trans rfl)
   have pJ:iI C k (i::us)=none:=Qi fun h=>hr ⟨h.1,by have:=h.2.1;omega⟩
   rw[pJ,QI,DG hp hb]
   exact⟨(fun k' e=>by cases e),fun _=>rfl⟩
theorem Lk(hd:fM (.tup [x,y]) (.lst ((eP C).map aX))=some (.bl true))(ws:List Int):lD [bp n f,bZ n C,.tup [x,y],.lst (ws.map D.int)]=some (.str "no step",9):=by
 unfold lD DS
 refine gB ?_
 show aG _ _ [(t9 n f),(c9 n C),some ((.tup [x,y]),9),(wL ws 0),none,none,none]=_
 refine(aZ (ρ1:=[(t9 n f),(c9 n C),some ((.tup [x,y]),9),(wL ws 0),(sL C 1),none,none]) (dQ (Li hC ws _) rfl)).trans ?_
 exact qO ((nY (eN (dR (fa:=ae 2) (q:=9) rfl (uS (i:=4) (q:=1) rfl) hd))).trans rfl)
include L hz bz
theorem z3t{s:c_}(hs:j5 C s)(ws:List Int)(xW:ws.length<=1000):lD [bp n f,bZ n C,aX s,.lst (ws.map D.int)]=some (dm (iI C (atS C z s) ws),9):=by
 have hn:n<=1000:=QO L.hi (by decide)
 unfold lD DS
 refine gB ?_
 show aG _ _ [(t9 n f),(c9 n C),some ((aX s),9),(wL ws 0),none,none,none]=_
 refine(aZ (ρ1:=[(t9 n f),(c9 n C),some ((aX s),9),(wL ws 0),(sL C 1),none,none]) (dQ (Li hC ws _) rfl)).trans ?_
 have jX:=Lg s (eP C)
 rw[Qt (xQ.mpr hs)]at jX
 refine(aZ (ρ1:=[(t9 n f),(c9 n C),some ((aX s),9),(wL ws 0),(sL C 0),none,none]) ((iT (eN (dR (fa:=ae 2) (q:=9) rfl (uS (i:=4) (q:=1) rfl) jX))).trans rfl)).trans ?_
 have dZ:oP (a_ (e2 cG (ay 2 (eC (.int 0))) (eC (.str "place")))) (cX (aa (ay 2 (eC (.int 1))) (aa (aE jh 1 (aa (ae 0) ag)) ag))) (cA (ay 1 (eC (.int 2))) (ay 2 (eC (.int 1)))) [(t9 n f),(c9 n C),some ((aX s),9),(wL ws 0),(sL C 0),none,none]=some (av (atS C z s),9,[(t9 n f),(c9 n C),some ((aX s),9),(wL ws 0),(sL C 0),none,none]):=by
  obtain⟨b,k⟩:=s
  cases b with
  | true=>
   have hk:k<C.B.length:=hs
   have e:dw (.tup (C.B.map ji)) (Int.ofNat k)=some (ji (C.B.getD k (0,0))):=l0 (by rw[Qk,Qb hk];simp[hk])
   refine(j3f (eN (dR (fa:=ay 2 (eC (.int 0))) (fb:=eC (.str "place")) (q:=9) (q':=9) rfl rfl KZ))).trans ?_
   exact lH (a:=ay 1 (eC (.int 2))) (b:=ay 2 (eC (.int 1))) (q:=9) (q':=9) rfl rfl e rfl rfl
  | false=>
   refine(j24 (eN (dR (fa:=ay 2 (eC (.int 0))) (fb:=eC (.str "place")) (q:=9) (q':=9) rfl rfl KY))).trans ?_
   exact l7 (iF (f:=ay 2 (eC (.int 1))) (q:=9) rfl (eK (dh (ds:=[bp n f]) (eK rfl) rfl (xJ L hz bz hn)))) (by show 2<=1000;decide)
 refine(aZ (ρ1:=[(t9 n f),(c9 n C),some ((aX s),9),(wL ws 0),(sL C 0),(p9 (atS C z s)),none]) (dQ dZ rfl)).trans ?_
 have hit:d8 (ae 3) [(t9 n f),(c9 n C),some ((aX s),9),(wL ws 0),(sL C 0),(p9 (atS C z s)),none]=some (ws.map D.int,[(t9 n f),(c9 n C),some ((aX s),9),(wL ws 0),(sL C 0),(p9 (atS C z s)),none]):=by
  show(if(ws.map D.int).length<=1000 then _ else none)=_
  rw[Qf (by rw[Qc];exact xW)]
 obtain⟨l1,l2⟩:=Lj hC (aX s) ws ((sL C 0)) ws (atS C z s) none (Ak L hz bz hC hs).2 ws rfl
 cases e:iI C (atS C z s) ws with
 | none=>exact qO ((jG hit).trans (l2 e))
 | some k'=>
  obtain⟨_,c',l1⟩:=l1 k' e
  exact(aZ ((jG hit).trans l1)).trans rfl
end
def Ll(a b:D):ir ["place","begin"] [a,b] "place" = some a/\ir ["place","begin"] [a,b] "begin" = some b/\ir ["place","begin"] [a,b] "way" = none:=by
 refine⟨by unfold ir;rw[Qf rfl],?_,?_⟩
 ·unfold ir
  rw[Qi (by decide)]
  unfold ir
  rw[Qf rfl]
 ·unfold ir
  rw[Qi (by decide)]
  unfold ir
  rw[Qi (by decide)]
  rfl
def z50(m k:Nat):kN m (iD k)=decide (k<m):=by
 show(decide ((0:Int)<=(k:Int))&&decide ((k:Int)<(m:Int)))=_
 simp
def j2e:zZ [.exc "NoStep"]=some (.str "no step",9):=by rfl
def Ap (C:cP)(s:c_):Bool:=decide (s.2<(if s.1 then C.B.length else C.p))
def Lm{C:cP}{s:c_}:Ap C s=true ↔ j5 C s:=decide_eq_true_iff
section
variable {n:Nat}{f:Nat->Nat->Nat}{C:cP}
def El{x:Str}{k:Nat}(h:uN [.tup [.str x,(iD k)],.gr ["place","begin"] [(iD C.p),(iD C.B.length)]]=(b9 b)):jI [bZ n C,.tup [.str x,(iD k)]]=(b9 b):=by
 unfold jI Kt
 have jW:vV 0 2 [(c9 n C),some (.tup [.str x,(iD k)],9)]=some (Int.ofNat C.B.length):=by
  show some (Int.ofNat (C.B.map ji).length)=_
  rw[Qc]
 have e1:nT 0 (qC 0) [(c9 n C),some (.tup [.str x,(iD k)],9)]=some (Int.ofNat C.p):=rfl
 have ed:vW "place" "begin" (nT 0 (qC 0)) (vV 0 2) [(c9 n C),some (.tup [.str x,(iD k)],9)]=some (.gr ["place","begin"] [(iD C.p),(iD C.B.length)],9,[(c9 n C),some (.tup [.str x,(iD k)],9)]):=by
  unfold vW
  rw[e1,jW]
 exact gB (kJ (dh (iF (f:=ae 1) (d:=.tup [.str x,(iD k)]) (q:=9) (ρ:=[(c9 n C),some (.tup [.str x,(iD k)],9)]) (ρ1:=[(c9 n C),some (.tup [.str x,(iD k)],9)]) rfl (eK ed)) rfl h))
def Em(x:Str)(k m:Nat)(h:(ir ["place","begin"] [(iD C.p),(iD C.B.length)] x).getD (.int 0)=(iD m)):uN [.tup [.str x,(iD k)],.gr ["place","begin"] [(iD C.p),(iD C.B.length)]]=(b9 (decide (k<m))):=by
 have l2:fC (.int 2) (.int 2)=some (.bl false):=(WO _ _).trans (by simp)
 have n1:=fun m=>y5m m (iD k)
 have s0:dw (.tup [.str x,(iD k)]) 0=some (.str x):=rfl
 have s1:dw (.tup [.str x,(iD k)]) 1=some (iD k):=rfl
 have ll:fN (.tup [.str x,(iD k)])=some 2:=rfl
 unfold uN Ks
 simp[-Int.ofNat_eq_natCast,nU,ll,l2,s0,s1,h,n1,z50]
def Ln(s:c_):jI [bZ n C,aX s]=(b9 (Ap C s)):=by
 obtain⟨b,k⟩:=s
 obtain⟨g1,g2,_⟩:=Ll (iD C.p) (iD C.B.length)
 cases b with
 | true=>exact El (x:="begin") (Em "begin" k C.B.length (by rw[g2];rfl))
 | false=>exact El (x:="place") (Em "place" k C.p (by rw[g1];rfl))
def y71(k:Nat):jI [bZ n C,xV k]=(b9 false):=by
 obtain⟨_,_,g3⟩:=Ll (iD C.p) (iD C.B.length)
 have h:=El (n:=n) (C:=C) (x:="way") (Em "way" k 0 (by rw[g3];rfl))
 rw[QC (Q1 k)]at h
 exact h
end
section
variable {n:Nat}{f:Nat->Nat->Nat}(L:cm n f){z:Nat}(hz:z<n)(bz:∀ j,j<n->f z j=j){C:cP}(hC:C.Ok n f)
include hC
theorem Lo(ws:List Int)(d:D)(k:Nat×Nat)(i:Int):a_ (e2 fM (ae 5) (aE jH 2 (aa (ae 1) (aa (ay 4 (eC (.int 0))) ag)))) [(t9 n f),(c9 n C),some (d,9),(wL ws 0),(p9 k),some (.int i,9)]=some (!decide (q_ C k i),[(t9 n f),(c9 n C),some (d,9),(wL ws 0),(p9 k),some (.int i,9)]):=by
 refine(eN (dR (fa:=ae 5) (q:=9) rfl (dh (ds:=[bZ n C,(iD k.1)]) rfl rfl (K0 hC k.1)) (z0g i (dN C k.1)))).trans ?_
 congr 3
 exact ZU.mpr ⟨fun h=>⟨h.1,pF.mp h.2⟩,fun h=>⟨h.1,pF.mpr h.2⟩⟩
theorem z3h(ws:List Int)(d:D){k:Nat×Nat}(hk:k.2<n){i:Int}(h:q_ C k i):xG [(t9 n f),(c9 n C),some (d,9),(wL ws 0),(p9 k),some (.int i,9)]=some (.nx [(t9 n f),(c9 n C),some (d,9),(wL ws 0),(p9 (cS C k i.toNat)),some (.int i,9)]):=by
 have t:=Lo hC ws d k i (f:=f)
 rw[Qt h]at t
 obtain⟨j,rfl⟩:∃ j:Nat,i=Int.ofNat j:=⟨i.toNat,(YS h.1).symm⟩
 unfold xG
 refine(aZ ((iT t).trans rfl)).trans ?_
 exact dQ (dh (ds:=[bZ n C,av k,(iD j)]) rfl rfl (K1 hC hk h.2.1)) rfl
theorem Lp(ws:List Int)(d:D):∀ (us:List Int) (k:Nat×Nat) (c:OD),k.2<n->(∀ k',iI C k us=some k'->(∃ c',eX (aL 5) xG (us.map D.int) [(t9 n f),(c9 n C),some (d,9),(wL ws 0),(p9 k),c]=some (.nx [(t9 n f),(c9 n C),some (d,9),(wL ws 0),(p9 k'),c'])))/\mU (aL 5) xG (lg (a_ (e2 fM (ae 5) (aE jH 2 (aa (ae 1) (aa (ay 4 (eC (.int 0))) ag))))) (qA "NoStep") qz) (us.map D.int) [(t9 n f),(c9 n C),some (d,9),(wL ws 0),(p9 k),c]=if iI C k us=none then some "NoStep" else none
 | [],k,c,hk=>⟨fun k' e=>by cases e;exact⟨c,rfl⟩,rfl⟩
 | i::us,k,c,hk=>by
  have hp:aL 5 (.int i) [(t9 n f),(c9 n C),some (d,9),(wL ws 0),(p9 k),c]=some [(t9 n f),(c9 n C),some (d,9),(wL ws 0),(p9 k),some (.int i,9)]:=rfl
  have t:=Lo hC ws d k i (f:=f)
  by_cases h:q_ C k i
  ·have b:=z3h hC ws d hk h (f:=f)
   have hj:=h.2.1
   obtain⟨i1,i2⟩:=Lp ws d us (cS C k i.toNat) (some (.int i,9)) ((hC.ws _ (xS hj)).2.2.1 _ hk)
   have pJ:iI C k (i::us)=iI C (cS C k i.toNat) us:=Qf h
   rw[pJ,QI,DF hp b]
   refine⟨i1,?_⟩
   rw[Qt h]at t
   unfold mU
   rw[hp]
   dsimp only
   have e:lg (a_ (e2 fM (ae 5) (aE jH 2 (aa (ae 1) (aa (ay 4 (eC (.int 0))) ag))))) (qA "NoStep") qz [(t9 n f),(c9 n C),some (d,9),(wL ws 0),(p9 k),some (.int i,9)]=none:=by
    unfold lg
    rw[t]
    rfl
   rw[e]
   dsimp only
   rw[b]
   exact i2
  ·have pJ:iI C k (i::us)=none:=Qi h
   rw[pJ]
   refine⟨(fun k' e=>by cases e),?_⟩
   rw[QC h]at t
   rw[QI]
   unfold mU
   rw[hp]
   dsimp only
   have e:lg (a_ (e2 fM (ae 5) (aE jH 2 (aa (ae 1) (aa (ay 4 (eC (.int 0))) ag))))) (qA "NoStep") qz [(t9 n f),(c9 n C),some (d,9),(wL ws 0),(p9 k),some (.int i,9)]=some "NoStep":=by
    unfold lg
    rw[t]
    rfl
   rw[e]
   rfl
omit hC in
theorem Lq(h:jI [bZ n C,.tup [x,y]]=(b9 false))(ws:List Int):lE [bp n f,bZ n C,.tup [x,y],.lst (ws.map D.int)]=some "NoStep":=by
 have t:i8 (iA (aE jI 2 (aa (ae 1) (aa (ae 2) ag)))) [(t9 n f),(c9 n C),some ((.tup [x,y]),9),(wL ws 0),none,none]=some (true,[(t9 n f),(c9 n C),some ((.tup [x,y]),9),(wL ws 0),none,none]):=D1 (KR (dh (ds:=[bZ n C,.tup [x,y]]) rfl rfl h))
 unfold lE fnX DU
 show sC _ _ [(t9 n f),(c9 n C),some ((.tup [x,y]),9),(wL ws 0),none,none]=_
 unfold sC
 have e:lg (i8 (iA (aE jI 2 (aa (ae 1) (aa (ae 2) ag))))) (qA "NoStep") qz [(t9 n f),(c9 n C),some ((.tup [x,y]),9),(wL ws 0),none,none]=some "NoStep":=by
  unfold lg
  rw[t]
  rfl
 rw[e]
 rfl
include L hz bz
theorem z0f{s:c_}(hs:j5 C s)(ws:List Int)(xW:ws.length<=1000):(∀ k',iI C (atS C z s) ws=some k'->uO [bp n f,bZ n C,aX s,.lst (ws.map D.int)]=(p9 k'))/\lE [bp n f,bZ n C,aX s,.lst (ws.map D.int)]=if iI C (atS C z s) ws=none then some "NoStep" else none:=by
 have h:=Ln (n:=n) (C:=C) s
 rw[Lm.mpr hs]at h
 have t:i8 (iA (aE jI 2 (aa (ae 1) (aa (ae 2) ag)))) [(t9 n f),(c9 n C),some ((aX s),9),(wL ws 0),none,none]=some (false,[(t9 n f),(c9 n C),some ((aX s),9),(wL ws 0),none,none]):=D1 (KR (dh (ds:=[bZ n C,aX s]) rfl rfl h))
 have dZ:ba 4 (aE nv 3 (aa (ae 0) (aa (ae 1) (aa (ae 2) ag)))) [(t9 n f),(c9 n C),some ((aX s),9),(wL ws 0),none,none]=some (.nx [(t9 n f),(c9 n C),some ((aX s),9),(wL ws 0),(p9 (atS C z s)),none]):=dQ (dh (ds:=[bp n f,bZ n C,aX s]) rfl rfl (K2 L hz bz hC hs)) rfl
 have hit:d8 (ae 3) [(t9 n f),(c9 n C),some ((aX s),9),(wL ws 0),(p9 (atS C z s)),none]=some (ws.map D.int,[(t9 n f),(c9 n C),some ((aX s),9),(wL ws 0),(p9 (atS C z s)),none]):=by
  show(if(ws.map D.int).length<=1000 then _ else none)=_
  rw[Qf (by rw[Qc];exact xW)]
 obtain⟨l1,l2⟩:=Lp hC ws (aX s) ws (atS C z s) none (Ak L hz bz hC hs).2 (f:=f)
 constructor
 ·intro k' e
  obtain⟨c',l1⟩:=l1 k' e
  unfold uO Ku
  refine gB ?_
  show aG _ _ [(t9 n f),(c9 n C),some ((aX s),9),(wL ws 0),none,none]=_
  refine(aZ ((iT t).trans rfl)).trans ?_
  refine(aZ dZ).trans ?_
  exact(aZ ((jG hit).trans l1)).trans rfl
 ·unfold lE fnX DU
  show sC _ _ [(t9 n f),(c9 n C),some ((aX s),9),(wL ws 0),none,none]=_
  unfold sC
  have e:lg (i8 (iA (aE jI 2 (aa (ae 1) (aa (ae 2) ag))))) (qA "NoStep") qz [(t9 n f),(c9 n C),some ((aX s),9),(wL ws 0),none,none]=none:=by
   unfold lg
   rw[t]
   rfl
  rw[e]
  dsimp only
  unfold wy
  rw[show cY (i8 (iA (aE jI 2 (aa (ae 1) (aa (ae 2) ag))))) uh dG [(t9 n f),(c9 n C),some ((aX s),9),(wL ws 0),none,none]=some (.nx [(t9 n f),(c9 n C),some ((aX s),9),(wL ws 0),none,none])from(iT t).trans rfl]
  dsimp only
  rw[dZ]
  dsimp only
  unfold zi
  rw[hit]
  exact l2
omit L hz bz hC in
theorem En(hx:lE [bp n f,bZ n C,.tup [x,y],.lst (ws.map D.int)]=some "NoStep"):lF [bp n f,bZ n C,.tup [x,y],.lst (ws.map D.int)]=some (.str "no step",9):=by
 unfold lF DV
 refine gB ?_
 show aG _ _ [(t9 n f),(c9 n C),some ((.tup [x,y]),9),(wL ws 0),none,none,none]=_
 refine(aZ (ρ1:=[(t9 n f),(c9 n C),some ((.tup [x,y]),9),(wL ws 0),some (.aK,9),none,none]) rfl).trans ?_
 refine(aZ (ρ1:=[(t9 n f),(c9 n C),some ((.tup [x,y]),9),(wL ws 0),some (.aK,9),some (.aK,9),none]) rfl).trans ?_
 have yy:wA lE 4 (aa (ae 0) (aa (ae 1) (aa (ae 2) (aa (ae 3) ag)))) [(t9 n f),(c9 n C),some ((.tup [x,y]),9),(wL ws 0),some (.aK,9),some (.aK,9),none]=some (("NoStep":Str),[(t9 n f),(c9 n C),some ((.tup [x,y]),9),(wL ws 0),some (.aK,9),some (.aK,9),none]):=by
  show(lE [bp n f,bZ n C,.tup [x,y],.lst (ws.map D.int)]).map _=_
  rw[hx];rfl
 refine(aZ (ρ1:=[(t9 n f),(c9 n C),some ((.tup [x,y]),9),(wL ws 0),some (.exc "NoStep",9),some (.aK,9),none]) (by
  unfold wB
  rw[yy]
  exact Qf (Qr.mpr rfl))).trans ?_
 refine(aZ (ρ1:=[(t9 n f),(c9 n C),some ((.tup [x,y]),9),(wL ws 0),some (.exc "NoStep",9),some (.aK,9),none]) rfl).trans ?_
 exact kJ (dh (ds:=[.exc "NoStep"]) rfl rfl j2e)
omit L hz bz hC in
theorem z80{k:Nat×Nat}(hx:lE [bp n f,bZ n C,.tup [x,y],.lst (ws.map D.int)]=none)(h:uO [bp n f,bZ n C,.tup [x,y],.lst (ws.map D.int)]=(p9 k)):lF [bp n f,bZ n C,.tup [x,y],.lst (ws.map D.int)]=(p9 k):=by
 unfold lF DV
 refine gB ?_
 show aG _ _ [(t9 n f),(c9 n C),some ((.tup [x,y]),9),(wL ws 0),none,none,none]=_
 refine(aZ (ρ1:=[(t9 n f),(c9 n C),some ((.tup [x,y]),9),(wL ws 0),some (.aK,9),none,none]) rfl).trans ?_
 refine(aZ (ρ1:=[(t9 n f),(c9 n C),some ((.tup [x,y]),9),(wL ws 0),some (.aK,9),some (.aK,9),none]) rfl).trans ?_
 have yy:wA lE 4 (aa (ae 0) (aa (ae 1) (aa (ae 2) (aa (ae 3) ag)))) [(t9 n f),(c9 n C),some ((.tup [x,y]),9),(wL ws 0),some (.aK,9),some (.aK,9),none]=none:=by
  show(lE [bp n f,bZ n C,.tup [x,y],.lst (ws.map D.int)]).map _=_
  rw[hx];rfl
 refine(aZ (ρ1:=[(t9 n f),(c9 n C),some ((.tup [x,y]),9),(wL ws 0),some (.aK,9),(p9 k),none]) (by
  unfold wB
  rw[yy]
  exact dQ (dh (ds:=[bp n f,bZ n C,.tup [x,y],.lst (ws.map D.int)]) rfl rfl h) rfl)).trans ?_
 exact(qO (d:=av k) (q:=9) rfl)
theorem Lr{s:c_}(hs:j5 C s)(ws:List Int)(xW:ws.length<=1000):lF [bp n f,bZ n C,aX s,.lst (ws.map D.int)]=some (dm (iI C (atS C z s) ws),9):=by
 obtain⟨b1,b2⟩:=z0f L hz bz hC hs ws xW
 cases e:iI C (atS C z s) ws with
 | none=>
  rw[Qf e]at b2
  exact En b2
 | some k=>
  rw[Qi (by rw[e];simp)]at b2
  exact z80 b2 (b1 k e)
end
def z8t(k:Nat×Nat)(l:List (Nat×Nat)):qk (av k) (.lst (l.map av))=some (.bl (decide (k∈l))):=by
 unfold qk
 rw[Qf ⟨(pw [k.1,k.2]).ok,(K_ l).ok⟩,La]
 rfl
def j8e(i j:Int)(g1:-18446744073709551616<i)(g2:i<18446744073709551616):jz (.int i) (.int j)=some (.int (i*j)):=by simp[g1,g2]
def j88(a b:Nat)(h:a<=1000):jz (.int (Int.ofNat a)) (.int (Int.ofNat b))=some (.int (Int.ofNat (a*b))):=by
 have e:Int.ofNat (a*b)=Int.ofNat a*Int.ofNat b:=Int.natCast_mul a b
 rw[e]
 exact j8e _ _ (by show _<(a:Int);omega) (by show(a:Int)<_;omega)
def j6a(a:Nat):bQ (iD a) (.int 1)=some (iD (a+1)):=by
 simp[bQ,gI]
def iw (H:List (Nat×Nat))(w:Nat×Nat×(Nat->Nat)):List (Nat×Nat):=(H.filter fun x=>decide (x.1=w.1)).map fun x=>(w.2.1,w.2.2 x.2)
structure Fw (C:cP) (z n m:Nat) (H:List (Nat×Nat)):Prop where
 mem:∀ x,x∈H ↔ RS C z m x
 di:∀ a,(H.filter fun x=>decide (x.1=a)).length<=8
 len:H.length<=900
def j1g{C:cP}{w:Nat×Nat×(Nat->Nat)}(h:w∈C.W):∃ j,j<C.W.length/\fG C j=w:=by
 obtain⟨j,hj,e⟩:=Zh h
 refine⟨j,hj,?_⟩
 unfold fG
 rw[Qg,Qb hj,e]
 rfl
def j01{C:cP}(hm:∀ x,x∈H ↔ RS C z m x)(x:Nat×Nat):x∈C.W.flatMap (iw H) ↔ RS C z (m+1) x:=by
 rw[JT]
 constructor
 ·rintro ⟨w,hw,hx⟩
  obtain⟨y,hy,rfl⟩:=Qy.mp hx
  obtain⟨h1,h2⟩:=Zw.mp hy
  obtain⟨j,hj,e⟩:=j1g hw
  exact⟨y,(hm y).mp h1,j,hj,by rw[e];exact(Q5 h2).symm,by unfold cS;rw[e]⟩
 ·rintro ⟨y,hy,j,hj,h1,rfl⟩
  exact⟨fG C j,xS hj,Qy.mpr ⟨y,Zw.mpr ⟨(hm y).mpr hy,Qt h1.symm⟩,rfl⟩⟩
theorem Eo{α β:Type}{g:α->List β}{c:Nat}:∀ {l:List α},(∀ x∈l,(g x).length<=c)->(l.flatMap g).length<=c*l.length
 | [],_=>by simp
 | x::l,h=>by
  rw[List.flatMap_cons,Qm,Zb,Nat.mul_succ]
  have:=h x Ql
  have:=Eo (l:=l) fun y hy=>h y (Qj _ hy)
  omega
def j2z(h8:n<=8)(nd:H.Nodup)(hn:∀ x∈H,x.2<n):(H.filter fun x=>decide (x.1=a)).length<=8:=by
 have h1:((H.filter fun x=>decide (x.1=a)).map (·.2)).Nodup:=by
  refine List.Pairwise.map _ (fun a b lh=>lh) ((VU.mp (List.Pairwise.filter _ nd)).imp fun {x y} hh=>?_)
  obtain⟨hx,hy,bK⟩:=hh
  intro e
  exact bK (Ud ((Q5 (Zw.mp hx).2).trans (Q5 (Zw.mp hy).2).symm) e)
 have:=D2 (m:=List.range n) h1 fun x hx=>by
  obtain⟨k,hk,rfl⟩:=Qy.mp hx
  exact QA.mpr (hn k (Zw.mp hk).1)
 rw[Qc,QB]at this
 omega
section
variable {n:Nat}{f:Nat->Nat->Nat}(L:cm n f)(h8:n<=8){z:Nat}(hz:z<n)(bz:∀ j,j<n->f z j=j){C:cP}(hC:C.Ok n f)
include L hz bz hC
theorem z05:∃ m ks P,kO C z m ks P []/\∀ a b:Nat,uM [bp n f,bZ n C,(iD a),(iD b)]=some ((if(a,b)∈ks then bu (P (a,b))else .aK),9):=by
 obtain⟨m,ks,P,b,e⟩:=y72 L hz bz hC
 refine⟨m,ks,P,b,fun x y=>?_⟩
 unfold uM Kn
 refine gB (kJ (ρ1:=[(t9 n f),(c9 n C),(i9 x),(i9 y)]) ?_)
 show xa _ _ [(t9 n f),(c9 n C),(i9 x),(i9 y)]=_
 unfold xa
 rw[dh (F:=uJ) (n:=2) (ds:=[bp n f,bZ n C]) (ρ1:=[(t9 n f),(c9 n C),(i9 x),(i9 y)]) rfl rfl e]
 unfold bb
 dsimp only
 rw[l7 (ds:=[(iD x),(iD y)]) (ρ1:=[(t9 n f),(c9 n C),(i9 x),(i9 y)]) rfl (by show 2<=1000;decide)]
 dsimp only
 rw[show pj (.t (ks.map bH)) (ks.map fun k=>bu (P k)) (.tup [(iD x),(iD y)])=some (vL (ks.map bH) (ks.map fun k=>bu (P k)) (bH (x,y)))from rfl]
 by_cases h:(x,y)∈ks
 ·rw[xP bH nA (fun k=>bu (P k)) h,Qf h]
  rfl
 ·rw[Ai bH nA (fun k=>bu (P k)) h,Qi h]
  rfl
theorem j17(k:Nat×Nat)(hn:∀ x∈H,x.2<n)(di:∀ a,(H.filter fun x=>decide (x.1=a)).length<=8)(hl:H.length<=900)(rf:C.W.length<=7)(m:OD)(a b c:OD):∃ a' b' c',eX (kz (cR (aL 6) (cR (aL 7) (cR (aL 8) jD)))) Aa (C.W.map (cQ n)) [(t9 n f),(c9 n C),(p9 k),(pL H 0),m,some (.lst [],1),a,b,c]=some (.nx [(t9 n f),(c9 n C),(p9 k),(pL H 0),m,some (.lst ((C.W.flatMap (iw H)).map av),1),a',b',c']):=by
 obtain⟨ρ',l1,a',b',c',rfl⟩:=kI (pt:=kz (cR (aL 6) (cR (aL 7) (cR (aL 8) jD)))) (body:=Aa) (C.W.map (cQ n)) (fun i ρ=>∃ a b c,ρ=[(t9 n f),(c9 n C),(p9 k),(pL H 0),m,some (.lst (((C.W.take i).flatMap (iw H)).map av),1),a,b,c]) [(t9 n f),(c9 n C),(p9 k),(pL H 0),m,some (.lst [],1),a,b,c] (fun i hi ρ ah=>by
  obtain⟨a,b,c,rfl⟩:=ah
  rw[Qc]at hi
  have ei:(C.W.map (cQ n))[i]'(by rw[Qc];exact hi)=cQ n C.W[i]:=VC ..
  rw[ei]
  have hw:=hC.ws C.W[i] (Q0 hi)
  have et:C.W.take (i+1)=C.W.take i++[C.W[i]]:=by rw[Z3,Qb hi];rfl
  generalize C.W[i]=w at hw et
  have hN:((C.W.take i).flatMap (iw H)).length<=8*7:=by
   refine QO (Eo (c:=8) fun x _=>?_) (V7 8 (by rw[Za];omega))
   unfold iw
   rw[Qc]
   exact di _
  refine⟨[(t9 n f),(c9 n C),(p9 k),(pL H 0),m,some (.lst (((C.W.take i).flatMap (iw H)).map av),1),(i9 w.1),(i9 w.2.1),(r9 n w.2.2)],[(t9 n f),(c9 n C),(p9 k),(pL H 0),m,some (.lst (((C.W.take (i+1)).flatMap (iw H)).map av),1),(i9 w.1),(i9 w.2.1),(r9 n w.2.2)],rfl,.inl ?_,_,_,_,rfl⟩
  rw[et,V6]
  generalize (C.W.take i).flatMap (iw H)=N at hN ⊢
  unfold Aa
  have hit:d8 (ae 3) [(t9 n f),(c9 n C),(p9 k),(pL H 0),m,(pL N 1),(i9 w.1),(i9 w.2.1),(r9 n w.2.2)]=some (H.map av,[(t9 n f),(c9 n C),(p9 k),(pL H 0),m,(pL N 1),(i9 w.1),(i9 w.2.1),(r9 n w.2.2)]):=Qf (by rw[Qc];omega)
  have xX:=jF (k:=2) (pt:=kz (cR (aL 9) (cR (aL 10) jD))) (tt:=a_ (e2 cG (ae 9) (ae 6))) (te:=cX (aa (ae 7) (aa (ay 8 (ae 10)) ag))) (deep:=false) hit (Ah (k:=2) av (fun x=>[(i9 x.1),(i9 x.2)]) (fun x=>decide (x.1=w.1)) (fun x=>av (w.2.1,w.2.2 x.2)) (fun _=>9) H (fun x hx=>⟨rfl,eN (dR (fa:=ae 9) (fb:=ae 6) (q:=9) (q':=9) rfl rfl (xh x.1 w.1)),fun _=>l7 (iF (f:=ae 7) (q:=9) rfl (eK (xO (b:=ae 10) (q:=9) (q':=9) rfl rfl (zT (hn x hx)) rfl))) (by show 2<=1000;decide)⟩))
  have es:(H.filter fun x=>decide (x.1=w.1)).map (fun x=>av (w.2.1,w.2.2 x.2))=(iw H w).map av:=by unfold iw;rw[Zf];rfl
  rw[es]at xX
  have ls:(iw H w).length<=8:=by unfold iw;rw[Qc];exact di _
  refine K9 (ds:=N.map av) rfl xX rfl (by rw[Qc,Qc];omega) ?_
  rw[show [w].flatMap (iw H)=iw H w by simp,QY]
  rfl) ⟨a,b,c,rfl⟩
 rw[Qc,ZV]at l1
 exact⟨a',b',c',l1⟩
include h8
theorem Ls(rf:C.W.length<=7){k:Nat×Nat}(hj:RS C z j k)(lI:∀ i,i<j->¬ RS C z i k):∀ (len m:Nat) (H:List (Nat×Nat)) (q:Nat) (x4 x5 a b c:OD),m<=j->j<m+len->Fw C z n m H->eX (aL 4) Ab ((List.range' m len).map fun i=>(iD i)) [(t9 n f),(c9 n C),(p9 k),(pL H q),x4,x5,a,b,c]=some (.rt (iD j) 9)
 | 0,m,H,q,x4,x5,a,b,c,h1,h2,_=>by omega
 | len+1,m,H,q,x4,x5,a,b,c,h1,h2,fw=>by
  have jc:∀ x∈H,x.1<C.p/\x.2<n:=fun x hx=>pG L hz bz hC ((fw.mem x).mp hx)
  have hp:aL 4 (iD m) [(t9 n f),(c9 n C),(p9 k),(pL H q),x4,x5,a,b,c]=some [(t9 n f),(c9 n C),(p9 k),(pL H q),(i9 m),x5,a,b,c]:=rfl
  have t:a_ (e2 qk (ae 2) (ae 3)) [(t9 n f),(c9 n C),(p9 k),(pL H q),(i9 m),x5,a,b,c]=some (decide (k∈H),[(t9 n f),(c9 n C),(p9 k),(pL H 0),(i9 m),x5,a,b,c]):=eN (dR (fa:=ae 2) (q:=9) rfl (uS (i:=3) (q:=q) rfl) (z8t k H))
  rw[JS,QI]
  by_cases hm:m=j
  ·subst hm
   rw[Qt ((fw.mem k).mpr hj)]at t
   exact DG hp (qO ((nY t).trans rfl))
  ·rw[QC (fun h=>lI m (by omega) ((fw.mem k).mp h))]at t
   obtain⟨a',b',c',l1⟩:=j17 L hz bz hC k (fun x hx=>(jc x hx).2) fw.di fw.len rf ((i9 m)) a b c
   have hN:(C.W.flatMap (iw H)).length<64:=by
    refine Jw (Eo (c:=8) fun x _=>?_) (Jw (V7 8 rf) (by decide))
    unfold iw
    rw[Qc]
    exact fw.di _
   have Lu:=j01 (C:=C) fw.mem
   have tJ:∀ x∈C.W.flatMap (iw H),x.1<C.p/\x.2<n:=fun x hx=>pG L hz bz hC ((Lu x).mp hx)
   have fw1:Fw C z n (m+1) (hJ (C.W.flatMap (iw H))):=by
    refine⟨fun x=>sN.trans (Lu x),fun a=>j2z h8 (zz _) fun x hx=>(tJ x (sN.mp hx)).2,?_⟩
    have:=qZ (zz (C.W.flatMap (iw H))) fun x hx=>tJ x (sN.mp hx)
    have q8:=hC.p8
    have:C.p*n<=8*8:=JO q8 h8
    omega
   have hit:d8 (ay 1 (eC (.int 1))) [(t9 n f),(c9 n C),(p9 k),(pL H 0),(i9 m),some (.lst [],1),a,b,c]=some (C.W.map (cQ n),[(t9 n f),(c9 n C),(p9 k),(pL H 0),(i9 m),some (.lst [],1),a,b,c]):=Qf (by rw[Qc];omega)
   generalize C.W.flatMap (iw H)=N at *
   have h3:uw (ae 5) [(t9 n f),(c9 n C),(p9 k),(pL H 0),(i9 m),(pL N 1),a',b',c']=some (.lst ((hJ N).map av),1,[(t9 n f),(c9 n C),(p9 k),(pL H 0),(i9 m),(pL N 0),a',b',c']):=by
    show(if 0<=1 then(match nX (N.map av)with|some ks=>if ks.length<64 then some (D.lst ((hJ ks).map av),1,_)else none|none=>none)else none)=_
    rw[Qf (QL 1),zy _ (fun x hx=>by have:=(tJ x hx).2;omega)]
    show(if N.length<64 then some (D.lst ((hJ N).map av),1,_)else none)=_
    rw[Qf hN]
    rfl
   have hb:Ab [(t9 n f),(c9 n C),(p9 k),(pL H q),(i9 m),x5,a,b,c]=some (.nx [(t9 n f),(c9 n C),(p9 k),some (.lst ((hJ N).map av),1),(i9 m),(pL N 0),a',b',c']):=by
    unfold Ab
    refine(aZ ((iT t).trans rfl)).trans ?_
    refine(aZ (ρ1:=[(t9 n f),(c9 n C),(p9 k),(pL H 0),(i9 m),some (.lst [],1),a,b,c]) rfl).trans ?_
    refine(aZ ((jG hit).trans l1)).trans ?_
    exact dQ h3 rfl
   rw[DF hp hb]
   exact Ls rf hj lI len (m+1) (hJ N) 1 _ _ _ _ _ (by omega) (by omega) fw1
theorem z1d(p5:C.p<=5)(rf:C.W.length<=7)(Lv:C.B.length<=3){k:Nat×Nat}(hj:RS C z j k)(lI:∀ i,i<j->¬ RS C z i k)(ue:j<=C.p*n):uP [bp n f,bZ n C,av k]=(i9 j):=by
 have hn:n<=1000:=QO L.hi (by decide)
 obtain⟨H0,vY⟩:∃ H0,H0=(List.range C.p).map (fun a=>(a,z))++C.B:=⟨_,rfl⟩
 have K7:H0.length<=8:=by rw[vY,Qm,Qc,QB];omega
 have fw0:Fw C z n 0 H0:=by
  refine⟨fun x=>?_,fun a=>QO (ZS _ _) K7,by omega⟩
  rw[vY,QG,Qy]
  constructor
  ·rintro (⟨a,ha,rfl⟩|h)
   ·exact⟨(false,a),QA.mp ha,rfl⟩
   ·obtain⟨i,hi,e⟩:=Zh h
    refine⟨(true,i),hi,?_⟩
    show C.B.getD i (0,0)=x
    rw[Qg,Qb hi,e]
    rfl
  ·rintro ⟨⟨b,i⟩,h,rfl⟩
   cases b with
   | false=>exact .inl ⟨i,QA.mpr h,rfl⟩
   | true=>
    have hi:i<C.B.length:=h
    refine .inr ?_
    show C.B.getD i (0,0)∈C.B
    rw[Qg,Qb hi]
    exact Q0 hi
 have e0:lU (dU 1 (cB (aa (ay 1 (eC (.int 0))) ag)) (aL 9) dI (cX (aa (ae 9) (aa (aE jh 1 (aa (ae 0) ag)) ag))) false) (qp (aa (ay 1 (eC (.int 2))) ag)) [(t9 n f),(c9 n C),(p9 k),none,none,none,none,none,none]=some (.lst (H0.map av),1,[(t9 n f),(c9 n C),(p9 k),none,none,none,none,none,none]):=by
  have h1:=jF (k:=1) (tt:=dI) (te:=cX (aa (ae 9) (aa (aE jh 1 (aa (ae 0) ag)) ag))) (deep:=false) (nz (m:=C.p) (by omega) (fe:=ay 1 (eC (.int 0))) (ρ:=[(t9 n f),(c9 n C),(p9 k),none,none,none,none,none,none]) (ρ':=[(t9 n f),(c9 n C),(p9 k),none,none,none,none,none,none]) (q:=9) rfl) (px (i:=9) rfl (fun _=>true) (fun a=>av (a,z)) (fun _=>9) (fun a ha=>rfl) (fun a ha _=>l7 (iF (f:=ae 9) (q:=9) rfl (eK (dh (ds:=[bp n f]) rfl rfl (xJ L hz bz hn)))) (by show 2<=1000;decide)))
  rw[show(List.range C.p).filter (fun _=>true)=List.range C.p by simp]at h1
  have h2:qp (aa (ay 1 (eC (.int 2))) ag) [(t9 n f),(c9 n C),(p9 k),none,none,none,none,none,none]=some (.lst (C.B.map av),1,[(t9 n f),(c9 n C),(p9 k),none,none,none,none,none,none]):=by
   rfl
  have hl:((List.range C.p).map fun a=>av (a,z)).length+(C.B.map av).length<=1000:=by
   rw[Qc,Qc,QB];omega
  have ea:H0.map av=((List.range C.p).map fun a=>av (a,z))++C.B.map av:=by rw[vY,QY,Zf];rfl
  rw[ea]
  unfold lU
  generalize ((List.range C.p).map fun a=>av (a,z))=x at *
  rw[Qi (by decide)]at h1
  simp only[h1,h2,Qf hl]
 have Fb:bL 0 [(t9 n f),(c9 n C),(p9 k),(pL H0 1),none,none,none,none,none]=some ((iD n),9,[(t9 n f),(c9 n C),(p9 k),(pL H0 1),none,none,none,none,none]):=xN rfl (l3 ..)
 have hr:cB (aa (e2 bQ (e2 jz (ay 1 (eC (.int 0))) (bL 0)) (eC (.int 1))) ag) [(t9 n f),(c9 n C),(p9 k),(pL H0 1),none,none,none,none,none]=some (da (C.p*n+1),[(t9 n f),(c9 n C),(p9 k),(pL H0 1),none,none,none,none,none]):=by
  have:C.p*n<=5*8:=JO p5 h8
  have em:e2 jz (ay 1 (eC (.int 0))) (bL 0) [(t9 n f),(c9 n C),(p9 k),(pL H0 1),none,none,none,none,none]=some ((iD (C.p*n)),9,[(t9 n f),(c9 n C),(p9 k),(pL H0 1),none,none,none,none,none]):=by
   have h1:ay 1 (eC (.int 0)) [(t9 n f),(c9 n C),(p9 k),(pL H0 1),none,none,none,none,none]=some ((iD C.p),9,[(t9 n f),(c9 n C),(p9 k),(pL H0 1),none,none,none,none,none]):=rfl
   have h2:=j88 C.p n (by omega)
   exact dR h1 Fb h2
  generalize C.p*n=pn at *
  exact nz (by omega) (q:=9) (dR em (fb:=eC (.int 1)) (q':=9) rfl (j6a pn))
 have lp:=Ls L h8 hz bz hC rf hj lI (C.p*n+1) 0 H0 1 none none none none none (QL _) (by omega) fw0
 unfold uP Kv
 refine gB ?_
 show aG _ _ [(t9 n f),(c9 n C),(p9 k),none,none,none,none,none,none]=_
 refine(aZ (ρ1:=[(t9 n f),(c9 n C),(p9 k),(pL H0 1),none,none,none,none,none]) (dQ e0 rfl)).trans ?_
 refine qO ((jG hr).trans ?_)
 unfold da
 rw[YC]
 exact lp
end
def y4r{f1:aB}{d1:D}{q1:Nat}(h0:f0 ρ=some (d0,q0,kH))(h1:f1 kH=some (d1,q1,ρ1))(h2:f2 ρ1=some (d2,q2,ρ2))(h3:ρ2[i]? = some (some (.lst ds,1)))(hF:F [d0,d1,d2,.lst ds]=some (r,q))(ok:qN r=true):uB F i f0 f1 f2 ρ=some (r,q,ρ2):=by
 unfold uB
 simp only[h0,h1,h2,h3,hF,ok,Zv]
def z54(r:Option (Nat×Nat)):qN (dm r)=true:=by cases r<;>rfl
def Lw(b:Bool):fC (.bl b) (.bl b)=some (.bl false):=by
 unfold fC
 rw[Qf ⟨(Sh.bl (k:=0) b).ok,(Sh.bl (k:=0) b).ok⟩]
 cases b<;>rfl
def z9j(r:Option (Nat×Nat)):cG (dm r) (dm r)=some (.bl true):=by
 cases r with
 | none=>
  have s:Sh 0 (.str ("no step":Str)):=⟨by decide +kernel,QL _⟩
  show cG (.str "no step") (.str "no step")=_
  unfold cG
  rw[Qf ⟨s.ok,s.ok⟩]
  simp[gy,ck,PyData.eqv]
 | some k=>
  refine(WY [k.1,k.2] [k.1,k.2]).trans ?_
  rw[Qt rfl]
def j23(i:Nat):cG (iD i) (.str ⟨#[110]⟩)=some (.bl false):=by
 have s:Sh 0 (.str (⟨#[110]⟩:Str)):=⟨by decide +kernel,QL _⟩
 unfold cG
 rw[Qf ⟨(Sh.int (k:=0) _).ok,s.ok⟩]
 rfl
section
variable {n:Nat}{f:Nat->Nat->Nat}(L:cm n f){z:Nat}(hz:z<n)(bz:∀ j,j<n->f z j=j){C:cP}(hC:C.Ok n f)
include L hz bz hC
theorem z5k(v j:Nat)(hv:v<3):∃ x y:D,dw (.lst [.str "place",.str "begin",.str "way"]) (Int.ofNat v)=some x/\x.cK=false/\y=(iD j)/\(∃ nm,x=.str nm)/\∀ ws:List Int,ws.length<=1000->∃ r,lD [bp n f,bZ n C,.tup [x,y],.lst (ws.map D.int)]=some (dm r,9)/\lF [bp n f,bZ n C,.tup [x,y],.lst (ws.map D.int)]=some (dm r,9):=by
 have st:∀ (s:c_) (ws:List Int),ws.length<=1000->∃ r,lD [bp n f,bZ n C,aX s,.lst (ws.map D.int)]=some (dm r,9)/\lF [bp n f,bZ n C,aX s,.lst (ws.map D.int)]=some (dm r,9):=fun s ws hl=>by
  by_cases hs:j5 C s
  ·exact⟨_,z3t L hz bz hC hs ws hl,Lr L hz bz hC hs ws hl⟩
  ·refine⟨none,Lk hC (f:=f) (x:=.str (if s.1 then "begin" else "place")) (y:=(iD s.2)) ?_ ws,En (Lq (x:=.str (if s.1 then "begin" else "place")) (y:=(iD s.2)) ?_ ws)⟩
   ·have h:=Lg s (eP C)
    rw[QC (fun q=>hs (xQ.mp q))]at h
    exact h
   ·have h:=Ln (n:=n) (C:=C) s
    rw[show Ap C s=false by cases q:Ap C s with|false=>rfl|true=>exact absurd (Lm.mp q) hs]at h
    exact h
 match v,hv with
 | 0,_=>exact⟨.str "place",_,rfl,rfl,rfl,⟨_,rfl⟩,st (false,j)⟩
 | 1,_=>exact⟨.str "begin",_,rfl,rfl,rfl,⟨_,rfl⟩,st (true,j)⟩
 | 2,_=>exact⟨.str "way",_,rfl,rfl,rfl,⟨_,rfl⟩,fun ws hl=>⟨none,Lk hC (f:=f) (z2n j (eP C)) ws,En (Lq (y71 j) ws)⟩⟩
omit L hz bz in
theorem lM(ns:List Int)(hW:∀ ws:List Int,ws.length<=1000->∃ r,lD [bp n f,bZ n C,.tup [x,y],.lst (ws.map D.int)]=some (dm r,9))(ev gh pa h0 s0:OD)(k:Nat)(ws:List Int)(hl:ws.length<=500):∃ i h s,uQ [(n0 ns),(t9 n f),(c9 n C),ev,gh,pa,some (.tup [x,y],9),(wL ws 1),(i9 k),h0,s0]=some (.nx [(n0 ns),(t9 n f),(c9 n C),ev,gh,pa,some (.tup [x,y],9),some (.lst ((ws++[i]).map D.int),1),(i9 k),h,s]):=by
 obtain⟨r,er⟩:=hW ws (by omega)
 have xM:=hC.xM
 have lW:fN (.tup (C.W.map (cQ n)))=some C.W.length:=by simp[fN]
 have s1:ba 9 (uB lD 7 (ae 1) (ae 2) (ae 6)) [(n0 ns),(t9 n f),(c9 n C),ev,gh,pa,some (.tup [x,y],9),(wL ws 1),(i9 k),h0,s0]=some (.nx [(n0 ns),(t9 n f),(c9 n C),ev,gh,pa,some (.tup [x,y],9),(wL ws 1),(i9 k),some (dm r,9),s0]):=dQ (y4r (f0:=ae 1) (f1:=ae 2) (f2:=ae 6) (q0:=9) (q1:=9) (q2:=9) rfl rfl rfl rfl er (z54 r)) rfl
 obtain⟨g,hg⟩:∃ g:Nat->Bool,∀ j,j<C.W.length->a_ (e2 cG (cA (cA (ay 2 (eC (.int 1))) (ae 11)) (eC (.int 0))) (sR 9 (eC (.int 0)))) ([(n0 ns),(t9 n f),(c9 n C),ev,gh,pa,some (.tup [x,y],9),(wL ws 1),(i9 k),some (dm r,9),s0]++[(i9 j)])=some (g j,[(n0 ns),(t9 n f),(c9 n C),ev,gh,pa,some (.tup [x,y],9),(wL ws 1),(i9 k),some (dm r,9),s0]++[(i9 j)]):=by
  cases r with
  | none=>
   refine⟨fun _=>false,fun j hj=>?_⟩
   have e:dw (.tup (C.W.map (cQ n))) (Int.ofNat j)=some (cQ n (fG C j)):=l0 (by rw[Qk,Qb hj];simp[hj])
   exact eN (dR (lH (b:=eC (.int 0)) (q':=9) (lH (a:=ay 2 (eC (.int 1))) (b:=ae 11) (q:=9) (q':=9) rfl rfl e rfl rfl) rfl rfl rfl rfl) (fb:=sR 9 (eC (.int 0))) (y:=.str ⟨#[110]⟩) (q':=9) rfl (j23 _))
  | some k1=>
   refine⟨fun j=>decide ((fG C j).1=k1.1),fun j hj=>?_⟩
   have e:dw (.tup (C.W.map (cQ n))) (Int.ofNat j)=some (cQ n (fG C j)):=l0 (by rw[Qk,Qb hj];simp[hj])
   exact eN (dR (lH (b:=eC (.int 0)) (q':=9) (lH (a:=ay 2 (eC (.int 1))) (b:=ae 11) (q:=9) (q':=9) rfl rfl e rfl rfl) rfl rfl rfl rfl) (fb:=sR 9 (eC (.int 0))) (q':=9) rfl (xh _ _))
 have hlen:eB iB (aa (ay 2 (eC (.int 1))) ag) [(n0 ns),(t9 n f),(c9 n C),ev,gh,pa,some (.tup [x,y],9),(wL ws 1),(i9 k),some (dm r,9),s0]=some ((iD C.W.length),9,[(n0 ns),(t9 n f),(c9 n C),ev,gh,pa,some (.tup [x,y],9),(wL ws 1),(i9 k),some (dm r,9),s0]):=DE (eK (q:=9) (d:=.tup (C.W.map (cQ n))) rfl) (by simp[-Int.ofNat_eq_natCast,iB,lW])
 have xX:=jF (k:=1) (te:=ae 11) (deep:=false) (nz (m:=C.W.length) (by omega) hlen) (px (i:=11) rfl g (fun j=>(iD j)) (fun _=>9) hg (fun j hj _=>rfl))
 obtain⟨l,hl1⟩:∃ l,l=(List.range C.W.length).filter g:=⟨_,rfl⟩
 rw[<- hl1]at xX
 have s2:ba 10 (dU 1 (cB (aa (eB iB (aa (ay 2 (eC (.int 1))) ag)) ag)) (aL 11) (a_ (e2 cG (cA (cA (ay 2 (eC (.int 1))) (ae 11)) (eC (.int 0))) (sR 9 (eC (.int 0))))) (ae 11) false) [(n0 ns),(t9 n f),(c9 n C),ev,gh,pa,some (.tup [x,y],9),(wL ws 1),(i9 k),some (dm r,9),s0]=some (.nx [(n0 ns),(t9 n f),(c9 n C),ev,gh,pa,some (.tup [x,y],9),(wL ws 1),(i9 k),some (dm r,9),(uL l)]):=dQ xX rfl
 obtain⟨v5,hv5,ev5⟩:=jj ns (show 0<=208+Int.ofNat k from by show(0:Int)<=208+(k:Int);omega) (m:=5) (by decide)
 obtain⟨v9,hv9,ev9⟩:=jj ns (show 0<=214+Int.ofNat k from by show(0:Int)<=214+(k:Int);omega) (m:=9) (by decide)
 have t1:a_ (e2 fC (ae 10) (cW ag)) [(n0 ns),(t9 n f),(c9 n C),ev,gh,pa,some (.tup [x,y],9),(wL ws 1),(i9 k),some (dm r,9),(uL l)]=some (!decide (l=[]),[(n0 ns),(t9 n f),(c9 n C),ev,gh,pa,some (.tup [x,y],9),(wL ws 1),(i9 k),some (dm r,9),some (.lst (aA l),0)]):=eN (dR (uS (i:=10) (q:=1) rfl) (fb:=cW ag) (y:=.lst (aA [])) (q':=1) rfl (WN l []))
 have t2:a_ (e2 yT (aE bX 3 (aa (ae 0) (aa (e2 bQ (eC (.int 208)) (ae 8)) (aa (eC (.int 5)) ag)))) (eC (.int 0))) [(n0 ns),(t9 n f),(c9 n C),ev,gh,pa,some (.tup [x,y],9),(wL ws 1),(i9 k),some (dm r,9),some (.lst (aA l),0)]=some (decide ((0:Int)<Int.ofNat v5),[(n0 ns),(t9 n f),(c9 n C),ev,gh,pa,some (.tup [x,y],9),(wL ws 1),(i9 k),some (dm r,9),some (.lst (aA l),0)]):=eN (dR (dh (ds:=[cI ns,.int (208+Int.ofNat k),.int 5]) rfl rfl ev5) (fb:=eC (.int 0)) (q':=9) rfl rfl)
 have fin:∀ (i:Int) (ρ1:aW),ρ1=[(n0 ns),(t9 n f),(c9 n C),ev,gh,pa,some (.tup [x,y],9),(wL ws 1),(i9 k),some (dm r,9),some (.lst (aA l),0)]->∀ g:b_,g ρ1=some ([.int i],ρ1)->eI (iq 7 g) ρ1=some (.nx [(n0 ns),(t9 n f),(c9 n C),ev,gh,pa,some (.tup [x,y],9),some (.lst ((ws++[i]).map D.int),1),(i9 k),some (dm r,9),some (.lst (aA l),0)]):=fun i ρ1 h g hg=>by
  subst h
  exact zS (ds:=ws.map D.int) rfl hg rfl (by rw[Qc];omega) (by rw[QY];rfl)
 have no:eI (iq 7 (aa (e2 BG (aE bX 3 (aa (ae 0) (aa (e2 bQ (eC (.int 214)) (ae 8)) (aa (eC (.int 9)) ag)))) (eC (.int 1))) ag)) [(n0 ns),(t9 n f),(c9 n C),ev,gh,pa,some (.tup [x,y],9),(wL ws 1),(i9 k),some (dm r,9),some (.lst (aA l),0)]=some (.nx [(n0 ns),(t9 n f),(c9 n C),ev,gh,pa,some (.tup [x,y],9),some (.lst ((ws++[Int.ofNat v9-1]).map D.int),1),(i9 k),some (dm r,9),some (.lst (aA l),0)]):=fin _ _ rfl _ (eK (dR (dh (ds:=[cI ns,.int (214+Int.ofNat k),.int 9]) rfl rfl ev9) (fb:=eC (.int 1)) (q':=9) rfl rfl))
 by_cases h1:l=[]
 ·rw[Qt h1]at t1
  refine⟨Int.ofNat v9-1,some (dm r,9),some (.lst (aA l),0),?_⟩
  unfold uQ
  refine(aZ s1).trans ((aZ s2).trans ?_)
  exact(iT (K8 t1)).trans no
 ·rw[QC h1]at t1
  by_cases h2:(0:Int)<Int.ofNat v5
  ·rw[Qt h2]at t2
   have hp:0<l.length:=ZO.mpr h1
   obtain⟨v,hv,uV⟩:=jj ns (show 0<=214+Int.ofNat k from by show(0:Int)<=214+(k:Int);omega) (m:=Int.ofNat l.length) (by show(0:Int)<(l.length:Int);omega)
   have wb:v<l.length:=Yp.mp hv
   refine⟨Int.ofNat l[v],some (dm r,9),some (.lst (aA l),0),?_⟩
   unfold uQ
   refine(aZ s1).trans ((aZ s2).trans ?_)
   refine(nY ((Am t1).trans t2)).trans ?_
   have h10:bL 10 [(n0 ns),(t9 n f),(c9 n C),ev,gh,pa,some (.tup [x,y],9),(wL ws 1),(i9 k),some (dm r,9),some (.lst (aA l),0)]=some ((iD l.length),9,[(n0 ns),(t9 n f),(c9 n C),ev,gh,pa,some (.tup [x,y],9),(wL ws 1),(i9 k),some (dm r,9),some (.lst (aA l),0)]):=xN (d:=.lst (aA l)) (q:=0) rfl (by show some (aA l).length=_;rw[iU])
   have Ae:aE bX 3 (aa (ae 0) (aa (e2 bQ (eC (.int 214)) (ae 8)) (aa (bL 10) ag))) [(n0 ns),(t9 n f),(c9 n C),ev,gh,pa,some (.tup [x,y],9),(wL ws 1),(i9 k),some (dm r,9),some (.lst (aA l),0)]=some ((iD v),9,[(n0 ns),(t9 n f),(c9 n C),ev,gh,pa,some (.tup [x,y],9),(wL ws 1),(i9 k),some (dm r,9),some (.lst (aA l),0)]):=dh (ds:=[cI ns,.int (214+Int.ofNat k),(iD l.length)]) (iF (f:=ae 0) (q:=0) rfl (iF (f:=e2 bQ (eC (.int 214)) (ae 8)) (q:=9) rfl (eK h10))) rfl uV
   have mK:dw (.lst (aA l)) (Int.ofNat v)=some (.int (Int.ofNat l[v])):=l0 (by rw[Dw,Qb wb];rfl)
   have D7:ay 10 (aE bX 3 (aa (ae 0) (aa (e2 bQ (eC (.int 214)) (ae 8)) (aa (bL 10) ag)))) [(n0 ns),(t9 n f),(c9 n C),ev,gh,pa,some (.tup [x,y],9),(wL ws 1),(i9 k),some (dm r,9),some (.lst (aA l),0)]=some (.int (Int.ofNat l[v]),9,[(n0 ns),(t9 n f),(c9 n C),ev,gh,pa,some (.tup [x,y],9),(wL ws 1),(i9 k),some (dm r,9),some (.lst (aA l),0)]):=xO (q:=0) (q':=9) Ae rfl mK rfl
   exact fin _ _ rfl _ (eK D7)
  ·rw[QC h2]at t2
   refine⟨Int.ofNat v9-1,some (dm r,9),some (.lst (aA l),0),?_⟩
   unfold uQ
   refine(aZ s1).trans ((aZ s2).trans ?_)
   exact(iT ((Am t1).trans t2)).trans no
end
def nH(ns:List Int)(h63:ns.length<=63):∃ q,uR [.lst (ns.map D.int)]=some (.bl true,q):=by
 obtain⟨n,f,L,h8,hL⟩:=j14 ns 0 (Vj 0)
 obtain⟨z,hz,bz⟩:=L.bot
 obtain⟨C,hC,p5,rf,Lv,hCh⟩:=y5e L hz bz ns 20 (by decide)
 have j6:=L.hi
 have K6:=hC.p1
 have h40:C.p*n<=5*8:=JO p5 h8
 have sM:C.p*n<64:=by omega
 obtain⟨G,nG,mG,eg⟩:=y3s L hz bz hC sM (by omega)
 obtain⟨mm,ks,P,xY,ep⟩:=z05 L hz bz hC
 have sA:∀ x,x∈lu G ↔ ∃ m,RS C z m x:=fun x=>((JX G _).mem_iff).trans (mG x)
 have jc:∀ x∈lu G,x.1<C.p/\x.2<n:=fun x hx=>by
  obtain⟨m,h⟩:=(sA x).mp hx
  exact pG L hz bz hC h
 have hz0:(0,z)∈lu G:=(sA _).mpr ⟨0,(false,0),K6,rfl⟩
 have Aj:∀ k,k∈ks ↔ k∈lu G:=fun k=>⟨fun h=>by
  obtain⟨j,_,h2,_⟩:=xY.i1 k h
  exact(sA k).mpr ⟨j,h2⟩,fun h=>by
  obtain⟨m,h⟩:=(sA k).mp h
  exact xY.end m k h⟩
 generalize lu G=E at *
 have hEl:0<E.length:=JA hz0
 obtain⟨v0,hv0,ev0⟩:=jj ns (show(0:Int)<=200 by decide) (m:=Int.ofNat E.length) (by show(0:Int)<(E.length:Int);omega)
 have xZ:v0<E.length:=Yp.mp hv0
 obtain⟨v1,hv1,ev1⟩:=jj ns (show(0:Int)<=201 by decide) (m:=3) (by decide)
 obtain⟨v2,hv2,ev2⟩:=jj ns (show(0:Int)<=202 by decide) (m:=Int.ofNat C.p) (by show(0:Int)<(C.p:Int);omega)
 obtain⟨v3,hv3,ev3⟩:=jj ns (show(0:Int)<=203 by decide) (m:=Int.ofNat n) (by show(0:Int)<(n:Int);have:=L.lo;omega)
 obtain⟨v4,hv4,ev4⟩:=jj ns (show(0:Int)<=204 by decide) (m:=6) (by decide)
 obtain⟨v6,hv6,ev6⟩:=jj ns (show(0:Int)<=206 by decide) (m:=3) (by decide)
 obtain⟨v7,hv7,ev7⟩:=jj ns (show(0:Int)<=207 by decide) (m:=5) (by decide)
 obtain⟨x,y,hx,hxl,hy,⟨nm,hnm⟩,dZ⟩:=z5k L hz bz hC v6 v4 (by omega)
 have a1:ba 4 (ay 3 (aE bX 3 (aa (ae 0) (aa (eC (.int 200)) (aa (bL 3) ag))))) [(n0 ns),(t9 n f),(c9 n C),(pL E 1),none,none,none,none,none,none,none]=some (.nx [(n0 ns),(t9 n f),(c9 n C),(pL E 1),some (av E[v0],9),none,none,none,none,none,none]):=by
  have h3:bL 3 [(n0 ns),(t9 n f),(c9 n C),(pL E 1),none,none,none,none,none,none,none]=some ((iD E.length),9,[(n0 ns),(t9 n f),(c9 n C),(pL E 1),none,none,none,none,none,none,none]):=xN (d:=.lst (E.map av)) (q:=1) rfl (by show some (E.map av).length=_;rw[Qc])
  have mK:dw (.lst (E.map av)) (Int.ofNat v0)=some (av E[v0]):=l0 (by rw[Qk,Qb xZ];rfl)
  exact dQ (xO (q:=1) (q':=9) (dh (ds:=[cI ns,.int 200,(iD E.length)]) (iF (f:=ae 0) (q:=0) rfl (iF (f:=eC (.int 200)) (q:=9) rfl (eK h3))) rfl ev0) rfl mK rfl) rfl
 obtain⟨k,hk1,hk2,a2⟩:∃ k:Nat×Nat,k.1<C.p/\k.2<n/\cY (a_ (e2 cG (aE bX 3 (aa (ae 0) (aa (eC (.int 201)) (aa (eC (.int 3)) ag)))) (eC (.int 0)))) (ba 4 (cX (aa (aE bX 3 (aa (ae 0) (aa (eC (.int 202)) (aa (ay 2 (eC (.int 0))) ag)))) (aa (aE bX 3 (aa (ae 0) (aa (eC (.int 203)) (aa (bL 1) ag)))) ag)))) dG [(n0 ns),(t9 n f),(c9 n C),(pL E 1),some (av E[v0],9),none,none,none,none,none,none]=some (.nx [(n0 ns),(t9 n f),(c9 n C),(pL E 1),(p9 k),none,none,none,none,none,none]):=by
  have t:a_ (e2 cG (aE bX 3 (aa (ae 0) (aa (eC (.int 201)) (aa (eC (.int 3)) ag)))) (eC (.int 0))) [(n0 ns),(t9 n f),(c9 n C),(pL E 1),some (av E[v0],9),none,none,none,none,none,none]=some (decide (Int.ofNat v1=0),[(n0 ns),(t9 n f),(c9 n C),(pL E 1),some (av E[v0],9),none,none,none,none,none,none]):=eN (dR (dh (ds:=[cI ns,.int 201,.int 3]) rfl rfl ev1) (fb:=eC (.int 0)) (q':=9) rfl (DC _ _))
  by_cases h:Int.ofNat v1=0
  ·rw[Qt h]at t
   refine⟨(v2,v3),Yp.mp hv2,Yp.mp hv3,(nY t).trans ?_⟩
   have h1:bL 1 [(n0 ns),(t9 n f),(c9 n C),(pL E 1),some (av E[v0],9),none,none,none,none,none,none]=some ((iD n),9,[(n0 ns),(t9 n f),(c9 n C),(pL E 1),some (av E[v0],9),none,none,none,none,none,none]):=xN (d:=bp n f) (q:=9) rfl l3
   exact dQ (l7 (iF (dh (ds:=[cI ns,.int 202,(iD C.p)]) rfl rfl ev2) (eK (dh (ds:=[cI ns,.int 203,(iD n)]) (iF (f:=ae 0) (q:=0) rfl (iF (f:=eC (.int 203)) (q:=9) rfl (eK h1))) rfl ev3))) (by show 2<=1000;decide)) rfl
  ·rw[QC h]at t
   have hh:=jc _ (Q0 xZ)
   exact⟨E[v0],hh.1,hh.2,(iT t).trans rfl⟩
 have uV:=ep k.1 k.2
 obtain⟨pa,a3,a4⟩:∃ pa,ba 5 (aE uM 4 (aa (ae 1) (aa (ae 2) (aa (ay 4 (eC (.int 0))) (aa (ay 4 (eC (.int 1))) ag))))) [(n0 ns),(t9 n f),(c9 n C),(pL E 1),(p9 k),none,none,none,none,none,none]=some (.nx [(n0 ns),(t9 n f),(c9 n C),(pL E 1),(p9 k),some (pa,9),none,none,none,none,none])/\∀ bh:aN,aG (cY (a_ (e2 fC (e2 o9 (ae 5) (eC .aK)) (e2 fM (ae 4) (ae 3)))) (bT (eC (.bl false))) dG) (aG (cY (a_ (e2 sT (ae 5) (eC .aK))) (aG (cY (a_ (e2 fC (eB iB (aa (ay 5 (eC (.int 1))) ag)) (aE uP 3 (aa (ae 1) (aa (ae 2) (aa (ae 4) ag)))))) (bT (eC (.bl false))) dG) (cY (a_ (e2 fC (aE lF 4 (aa (ae 1) (aa (ae 2) (aa (ay 5 (eC (.int 0))) (aa (ay 5 (eC (.int 1))) ag))))) (ae 4))) (bT (eC (.bl false))) dG)) dG) bh) [(n0 ns),(t9 n f),(c9 n C),(pL E 1),(p9 k),some (pa,9),none,none,none,none,none]=bh [(n0 ns),(t9 n f),(c9 n C),(pL E 0),(p9 k),some (pa,9),none,none,none,none,none]:=by
  have jX:=An k E
  by_cases hk:k∈ks
  ·rw[Qf (show(k.1,k.2)∈ks from hk)]at uV
   rw[Qt ((Aj k).mp hk)]at jX
   refine⟨bu (P k),dQ (dh (ds:=[bp n f,bZ n C,(iD k.1),(iD k.2)]) rfl rfl uV) rfl,fun bh=>?_⟩
   obtain⟨j,KU,nS,lI,az,hwk,hlen⟩:=xY.i1 k hk
   have ue:j<=C.p*n:=by
    have h1:=xY.ml
    have h2:=Al L hz bz hC xY
    omega
   have ef:=z1d L h8 hz bz hC p5 rf Lv nS lI ue
   have et:=Lr L hz bz hC az ((P k).2.map Int.ofNat) (by rw[Qc];omega)
   rw[Lh hwk]at et
   have enu:aA (P k).2=((P k).2.map Int.ofNat).map D.int:=by rw[Zf];rfl
   refine(aZ ((iT (eN (dR (dR (fa:=ae 5) (fb:=eC .aK) (q:=9) (q':=9) rfl rfl (rfl:o9 (bu (P k)) .aK=some (.bl false))) (dR (fa:=ae 4) (q:=9) rfl (uS (i:=3) (q:=1) rfl) jX) (Lw false)))).trans rfl)).trans ?_
   refine(aZ (ρ1:=[(n0 ns),(t9 n f),(c9 n C),(pL E 0),(p9 k),some (bu (P k),9),none,none,none,none,none]) ((nY (eN (dR (fa:=ae 5) (fb:=eC .aK) (q:=9) (q':=9) rfl rfl (rfl:sT (bu (P k)) .aK=some (.bl true))))).trans ?_)).trans rfl
   have hb:eB iB (aa (ay 5 (eC (.int 1))) ag) [(n0 ns),(t9 n f),(c9 n C),(pL E 0),(p9 k),some (bu (P k),9),none,none,none,none,none]=some ((iD j),9,[(n0 ns),(t9 n f),(c9 n C),(pL E 0),(p9 k),some (bu (P k),9),none,none,none,none,none]):=DE (eK (q:=0) (d:=.lst (aA (P k).2)) rfl) (by
    show some (D.int (Int.ofNat (aA (P k).2).length))=_
    rw[iU,hlen])
   refine(aZ ((iT (eN (dR hb (dh (ds:=[bp n f,bZ n C,av k]) rfl rfl ef) ((Io j j).trans (by rw[Qt rfl];rfl))))).trans rfl)).trans ?_
   exact(iT (eN (dR (dh (ds:=[bp n f,bZ n C,aX (P k).1,.lst (((P k).2.map Int.ofNat).map D.int)]) (by rw[<- enu];rfl) rfl et) (fb:=ae 4) (q':=9) rfl ((WX [k.1,k.2] [k.1,k.2]).trans (by rw[Qt rfl];rfl))))).trans rfl
  ·rw[Qi (show(k.1,k.2) ∉ ks from hk)]at uV
   rw[QC (fun h=>hk ((Aj k).mpr h))]at jX
   refine⟨.aK,dQ (dh (ds:=[bp n f,bZ n C,(iD k.1),(iD k.2)]) rfl rfl uV) rfl,fun bh=>?_⟩
   refine(aZ ((iT (eN (dR (dR (fa:=ae 5) (fb:=eC .aK) (q:=9) (q':=9) rfl rfl (rfl:o9 .aK .aK=some (.bl true))) (dR (fa:=ae 4) (q:=9) rfl (uS (i:=3) (q:=1) rfl) jX) (Lw true)))).trans rfl)).trans ?_
   exact(aZ ((iT (eN (dR (fa:=ae 5) (fb:=eC .aK) (q:=9) (q':=9) rfl rfl (rfl:sT .aK .aK=some (.bl false))))).trans rfl)).trans rfl
 subst hy
 subst hnm
 obtain⟨ρ1,l1,ws,k8,h9,rg,nF,rfl⟩:=kI (pt:=aL 8) (body:=uQ) (da v7) (fun i ρ=>∃ (ws:List Int) (k8 h9 rg:OD),ws.length=i/\ρ=[(n0 ns),(t9 n f),(c9 n C),(pL E 0),(p9 k),some (pa,9),some (.tup [.str nm,(iD v4)],9),(wL ws 1),k8,h9,rg]) [(n0 ns),(t9 n f),(c9 n C),(pL E 0),(p9 k),some (pa,9),some (.tup [.str nm,(iD v4)],9),some (.lst [],1),none,none,none] (fun i hi ρ ah=>by
  obtain⟨ws,k8,h9,rg,nF,rfl⟩:=ah
  rw[gv]at hi
  obtain⟨w,h,s,e⟩:=lM hC ns (fun ws hl=>by obtain⟨r,h,_⟩:=dZ ws hl;exact⟨r,h⟩) ((pL E 0)) ((p9 k)) (some (pa,9)) h9 rg i ws (by omega)
  exact⟨_,_,by rw[xI];rfl,.inl e,ws++[w],_,_,_,by rw[Qm,nF];rfl,rfl⟩) ⟨[],none,none,none,rfl,rfl⟩
 rw[gv]at nF
 obtain⟨r,hr1,wQ⟩:=dZ ws (by omega)
 have Ep:cA (cW (aa (eC (.str "place")) (aa (eC (.str "begin")) (aa (eC (.str "way")) ag)))) (aE bX 3 (aa (ae 0) (aa (eC (.int 206)) (aa (eC (.int 3)) ag)))) [(n0 ns),(t9 n f),(c9 n C),(pL E 0),(p9 k),some (pa,9),none,none,none,none,none]=some (.str nm,9,[(n0 ns),(t9 n f),(c9 n C),(pL E 0),(p9 k),some (pa,9),none,none,none,none,none]):=by
  have h1:cW (aa (eC (.str "place")) (aa (eC (.str "begin")) (aa (eC (.str "way")) ag))) [(n0 ns),(t9 n f),(c9 n C),(pL E 0),(p9 k),some (pa,9),none,none,none,none,none]=some (.lst [.str "place",.str "begin",.str "way"],1,[(n0 ns),(t9 n f),(c9 n C),(pL E 0),(p9 k),some (pa,9),none,none,none,none,none]):=rfl
  have h2:aE bX 3 (aa (ae 0) (aa (eC (.int 206)) (aa (eC (.int 3)) ag))) [(n0 ns),(t9 n f),(c9 n C),(pL E 0),(p9 k),some (pa,9),none,none,none,none,none]=some ((iD v6),9,[(n0 ns),(t9 n f),(c9 n C),(pL E 0),(p9 k),some (pa,9),none,none,none,none,none]):=dh (ds:=[cI ns,.int 206,.int 3]) rfl rfl ev6
  unfold cA
  rw[h1]
  dsimp only
  rw[h2]
  dsimp only
  rw[hx]
  rfl
 refine⟨9,?_⟩
 unfold uR Kz
 refine gB ?_
 show aG _ _ [(n0 ns),none,none,none,none,none,none,none,none,none,none]=_
 refine(aZ (ρ1:=[(n0 ns),(t9 n f),none,none,none,none,none,none,none,none,none]) (dQ (dh (ds:=[cI ns,.int 0]) rfl rfl hL) rfl)).trans ?_
 refine(aZ (ρ1:=[(n0 ns),(t9 n f),(c9 n C),none,none,none,none,none,none,none,none]) (dQ (dh (ds:=[cI ns,.int 20,bp n f,.bl false]) rfl rfl hCh) rfl)).trans ?_
 refine(aZ (ρ1:=[(n0 ns),(t9 n f),(c9 n C),(pL E 1),none,none,none,none,none,none,none]) (dQ (dh (ds:=[bp n f,bZ n C]) rfl rfl eg) rfl)).trans ?_
 refine(aZ a1).trans ((aZ a2).trans ((aZ a3).trans ((a4 _).trans ?_)))
 refine(aZ (ρ1:=[(n0 ns),(t9 n f),(c9 n C),(pL E 0),(p9 k),some (pa,9),some (.str nm,9),none,none,none,none]) (dQ Ep rfl)).trans ?_
 refine(aZ (ρ1:=[(n0 ns),(t9 n f),(c9 n C),(pL E 0),(p9 k),some (pa,9),some (.tup [.str nm,(iD v4)],9),none,none,none,none]) (dQ (l7 (iF (f:=ae 6) (q:=9) rfl (eK (dh (ds:=[cI ns,.int 204,.int 6]) rfl rfl ev4))) (by show 2<=1000;decide)) rfl)).trans ?_
 refine(aZ (ρ1:=[(n0 ns),(t9 n f),(c9 n C),(pL E 0),(p9 k),some (pa,9),some (.tup [.str nm,(iD v4)],9),some (.lst [],1),none,none,none]) rfl).trans ?_
 refine(aZ ((jG (nz (m:=v7) (by omega) (dh (ds:=[cI ns,.int 207,.int 5]) rfl rfl ev7))).trans l1)).trans ?_
 have c1:aE lF 4 (aa (ae 1) (aa (ae 2) (aa (ae 6) (aa (ae 7) ag)))) [(n0 ns),(t9 n f),(c9 n C),(pL E 0),(p9 k),some (pa,9),some (.tup [.str nm,(iD v4)],9),(wL ws 1),k8,h9,rg]=some (dm r,9,[(n0 ns),(t9 n f),(c9 n C),(pL E 0),(p9 k),some (pa,9),some (.tup [.str nm,(iD v4)],9),(wL ws 0),k8,h9,rg]):=dh (ds:=[bp n f,bZ n C,.tup [.str nm,(iD v4)],.lst (ws.map D.int)]) rfl rfl wQ
 have c2:aE lD 4 (aa (ae 1) (aa (ae 2) (aa (ae 6) (aa (ae 7) ag)))) [(n0 ns),(t9 n f),(c9 n C),(pL E 0),(p9 k),some (pa,9),some (.tup [.str nm,(iD v4)],9),(wL ws 0),k8,h9,rg]=some (dm r,9,[(n0 ns),(t9 n f),(c9 n C),(pL E 0),(p9 k),some (pa,9),some (.tup [.str nm,(iD v4)],9),(wL ws 0),k8,h9,rg]):=dh (ds:=[bp n f,bZ n C,.tup [.str nm,(iD v4)],.lst (ws.map D.int)]) rfl rfl hr1
 exact kJ (dR c1 c2 (z9j r))
def A0 (K:PySem.W.Frag)(mg:Str->Option Value)(x:Str)(st:Stmt):Prop:=∃ f fd,mr K x x st f fd/\mg x=some (.ref f)
def A0.mk{K:PySem.W.Frag}{h:Heap}{mg:Str->Option Value}{x:Str}{f:Addr}{od an:Option Addr}{sl:Array (Option Value)}{oc kV dc pm cd ct:Value}(X:K.In h)(G:h.Ns mainGlobals mg)(a:PySem.W.nsIn K mainGlobals x=some (some (.ref f)))(l:K.lookup f=some ⟨oc,od,.func (PySem.W.fnOf x x (pX st) (jw st) (bD st) .none kV dc pm an cd ct),sl⟩)(c:PySem.W.codeIn K cd x=true)(k:PySem.W.keepIn K (.ref f)=true):A0 K mg x st:=⟨_,_,Fe l c k,Zi X G a⟩
theorem A0.at{K:PySem.W.Frag}{mg:Str->Option Value}{x:Str}{ps:List Str}(a:A0 K mg x st)(h:∀ (kV doc pm:Value) (an:Option Addr) (bS ct:Value) (us:List Value),us.length=ps.length->bindArgs (PySem.W.fnOf x x (pX st) (jw st) (bD st) .none kV doc pm an bS ct) ⟨us,[]⟩=pure (ps.zip us)):At K mg x st ps:=by
 obtain⟨f,fd,F,m⟩:=a
 exact⟨f,fd,F,m,F.binds h⟩
def all_mk{w:World}{K:PySem.W.Frag}{h:Heap}{mg:Str->Option Value}{fa:Addr}{Er:Addr}{Es x6:Option Addr}{Et:Array (Option Value)}{Eu x8 x9 x_ tK ya:Value}{xr fQ y0 y1 y2 y3 y4:Addr}(X:K.In h)(G:h.Ns mainGlobals mg)(hfa:mg "law" = some (.ref fa))
  (A1:A0 K mg "_law_cell" (top 26))
  (A2:A0 K mg "_law_pick" (top 27))
  (A3:A0 K mg "_law_chain" (top 28))
  (A4:A0 K mg "_law_couples" (top 29))
  (A5:A0 K mg "_law_side_by_side" (top 30))
  (A6:A0 K mg "_law_base" (top 31))
  (A7:A0 K mg "_law_ladder" (top 32))
  (A8:A0 K mg "_law_low" (top 33))
  (A9:A0 K mg "_law_join" (top 34))
  (A10:A0 K mg "_law_under" (top 35))
  (A11:A0 K mg "_law_rule" (top 36))
  (A12:A0 K mg "_law_spreads" (top 37))
  (A13:A0 K mg "_law_spread_rule" (top 38))
  (A14:A0 K mg "_law_chart" (top 39))
  (A15:A0 K mg "_law_states" (top 41))
  (A16:A0 K mg "all_starts" (top 16))
  (A17:A0 K mg "ways_from" (top 19))
  (A18:A0 K mg "led_on" (top 20))
  (A19:A0 K mg "longer_paths" (top 23))
  (A20:A0 K mg "row_of_least" (top 13))
  (A21:A0 K mg "least_of" (top 14))
  (A22:A0 K mg "started" (top 18))
  (A23:A0 K mg "shortest_paths" (top 22))
  (A24:A0 K mg "path_to" (top 24))
  (A25:A0 K mg "_law_walked" (top 43))
  (A26:A0 K mg "_law_word" (top 40))
  (A27:A0 K mg "is_whole" (top 9))
  (A28:A0 K mg "is_number_of" (top 10))
  (A29:A0 K mg "is_named_number" (top 11))
  (A30:A0 K mg "is_start" (top 17))
  (A31:A0 K mg "brought" (top 21))
  (A32:A0 K mg "_law_tried" (top 42))
  (A33:A0 K mg "_law_fewest" (top 44))
  (a34:PySem.W.nsIn K mainGlobals "law" = some (some (.ref Er))) (l34:K.lookup Er=some ⟨Eu,Es,.func (PySem.W.fnOf "law" "law" (pX (top 45)) (jw (top 45)) (bD (top 45)) .none x8 x9 x_ x6 tK ya),Et⟩) (c34:PySem.W.codeIn K tK "law" = true) (k34:PySem.W.keepIn K (.ref Er)=true)
  (z1:PySem.W.nsIn K mainGlobals "ValueError" = some none) (z2:PySem.W.nsIn K mainGlobals "bool" = some none) (z3:PySem.W.nsIn K mainGlobals "enumerate" = some none) (z4:PySem.W.nsIn K mainGlobals "int" = some none) (z5:PySem.W.nsIn K mainGlobals "isinstance" = some none) (z6:PySem.W.nsIn K mainGlobals "len" = some none) (z7:PySem.W.nsIn K mainGlobals "list" = some none) (z8:PySem.W.nsIn K mainGlobals "max" = some none) (z9:PySem.W.nsIn K mainGlobals "range" = some none) (z10:PySem.W.nsIn K mainGlobals "set" = some none) (z11:PySem.W.nsIn K mainGlobals "sorted" = some none) (z12:PySem.W.nsIn K mainGlobals "str" = some none) (z13:PySem.W.nsIn K mainGlobals "tuple" = some none) (xrN:PySem.W.nsIn K mainGlobals "RiseError" = some (some (.ref xr))) (xcg:PySem.W.specialIn K (.builtin "object.__class__") "__get__" = some (some (.builtin "getset_descriptor.__get__"))) (xct:PySem.W.takesIn K (.builtin "object.__class__")=some true) (xrg:PySem.W.findIn K (.ref xr) "__getattribute__" = some (some (.builtin "BaseException.__getattribute__"))) (xrt:PySem.W.findIn K (.ref xr) "__getattr__" = some none) (xrc:PySem.W.findIn K (.ref xr) "__class__" = some (some (.builtin "object.__class__"))) (xro:PySem.W.mroIn K xr (.type "object")=some true) (xrb:PySem.W.mroIn K xr (.type "BaseException")=some true) (xrT:PySem.W.typeIn K (.ref xr)=some (.type "type")) (xe0N:PySem.W.nsIn K mainGlobals "NoStep" = some (some (.ref fQ))) (xe0g:PySem.W.findIn K (.ref fQ) "__getattribute__" = some (some (.builtin "BaseException.__getattribute__"))) (xe0t:PySem.W.findIn K (.ref fQ) "__getattr__" = some none) (xe0c:PySem.W.findIn K (.ref fQ) "__class__" = some (some (.builtin "object.__class__"))) (xe0o:PySem.W.mroIn K fQ (.type "object")=some true) (xe0b:PySem.W.mroIn K fQ (.type "BaseException")=some true) (xe0V:PySem.W.mroIn K fQ (.type "ValueError")=some true) (xe0n0:PySem.W.mroIn K fQ (.type "int")=some false) (xe0n1:PySem.W.mroIn K fQ (.type "bool")=some false) (xe0n2:PySem.W.mroIn K fQ (.type "tuple")=some false) (xe0n3:PySem.W.mroIn K fQ (.type "list")=some false) (xe0n4:PySem.W.mroIn K fQ (.type "str")=some false) (xe0R:PySem.W.mroIn K fQ (.ref xr)=some true) (xe0X:PySem.W.excIn K fQ L3.By "ValueError.__new__" = true) (y0N:PySem.W.nsIn K mainGlobals "NoHouse" = some (some (.ref y0))) (y0O:PySem.W.mroIn K y0 (.type "object")=some true) (y0T:PySem.W.typeIn K (.ref y0)=some (.type "type")) (y0Sxe0:PySem.W.mroIn K fQ (.ref y0)=some false) (y0Dxe0:fQ≠y0) (y1N:PySem.W.nsIn K mainGlobals "NoMap" = some (some (.ref y1))) (y1O:PySem.W.mroIn K y1 (.type "object")=some true) (y1T:PySem.W.typeIn K (.ref y1)=some (.type "type")) (y1Sxe0:PySem.W.mroIn K fQ (.ref y1)=some false) (y1Dxe0:fQ≠y1) (y2N:PySem.W.nsIn K mainGlobals "NoPlace" = some (some (.ref y2))) (y2O:PySem.W.mroIn K y2 (.type "object")=some true) (y2T:PySem.W.typeIn K (.ref y2)=some (.type "type")) (y2Sxe0:PySem.W.mroIn K fQ (.ref y2)=some false) (y2Dxe0:fQ≠y2) (y3N:PySem.W.nsIn K mainGlobals "NoRule" = some (some (.ref y3))) (y3O:PySem.W.mroIn K y3 (.type "object")=some true) (y3T:PySem.W.typeIn K (.ref y3)=some (.type "type")) (y3Sxe0:PySem.W.mroIn K fQ (.ref y3)=some false) (y3Dxe0:fQ≠y3) (y4N:PySem.W.nsIn K mainGlobals "TooGreat" = some (some (.ref y4))) (y4O:PySem.W.mroIn K y4 (.type "object")=some true) (y4T:PySem.W.typeIn K (.ref y4)=some (.type "type")) (y4Sxe0:PySem.W.mroIn K fQ (.ref y4)=some false) (y4Dxe0:fQ≠y4) :
  ∃ fd:FuncData,(∀ (s:Shared) (v:Value),BindsTo s fd ⟨[v],[]⟩ [("_law_script",v)])/\∀ base:Heap,K.In base->base.Ns mainGlobals mg->dS l.prog w K mg base jx 7 fa fd ["_law_script"] (k6 K 1 uR):=by
 have e:=hfa.symm.trans (Zi X G a34)
 cases e
 have B:Bt mg:=⟨Q6 X G z1,Q6 X G z2,Q6 X G z3,Q6 X G z4,Q6 X G z5,Q6 X G z6,Q6 X G z7,Q6 X G z8,Q6 X G z9,Q6 X G z10,Q6 X G z11,Q6 X G z12,Q6 X G z13⟩
 have nI:i7 K "NoStep" fQ:=i7.of xe0N ⟨L3.Du xe0o,xe0g,xe0t,xe0c,xcg,xct,xe0o,xe0b⟩ xe0X xe0V xe0n0 xe0n1 xe0n2 xe0n3 xe0n4
 have T:Xt K mg:=⟨(o8.cons (o8.nil ⟨L3.Du xro,xrg,xrt,xrc,xcg,xct,xro,xrb⟩ xrT (Zi X G xrN)) (Zi X G xrN) nI xe0R),⟨fQ,⟨nI,Zi X G xe0N⟩⟩,(fE.other (fE.nil (Zi X G y0N)) xe0N (Zi X G y0N) (by decide) y0Dxe0 y0T y0O y0Sxe0),(fE.other (fE.nil (Zi X G y1N)) xe0N (Zi X G y1N) (by decide) y1Dxe0 y1T y1O y1Sxe0),(fE.other (fE.nil (Zi X G y2N)) xe0N (Zi X G y2N) (by decide) y2Dxe0 y2T y2O y2Sxe0),(fE.other (fE.nil (Zi X G y3N)) xe0N (Zi X G y3N) (by decide) y3Dxe0 y3T y3O y3Sxe0),(fE.self (fE.nil (Zi X G xe0N)) xe0N (Zi X G xe0N)),(fE.other (fE.nil (Zi X G y4N)) xe0N (Zi X G y4N) (by decide) y4Dxe0 y4T y4O y4Sxe0)⟩
 refine⟨PySem.W.fnOf "law" "law" (pX (top 45)) (jw (top 45)) (bD (top 45)) .none x8 x9 x_ x6 tK ya,fun s v=>.of_eq rfl,fun base KX NG=>?_⟩
 have jk:=W0 (P:=l.prog) (w:=w) (base:=base) B (A1.at fun _ _ _ _ _ _ _ h=>by obtain⟨_,_,rfl⟩:=L3.kL h;rfl)
 have bN:=W1 B jk (A2.at fun _ _ _ _ _ _ _ h=>by obtain⟨_,_,_,rfl⟩:=L3.qQ h;rfl)
 have iJ:=W6 (P:=l.prog) (w:=w) (base:=base) B (A3.at fun _ _ _ _ _ _ _ h=>by obtain⟨_,rfl⟩:=L3.lj h;rfl)
 have gE:=W_ (P:=l.prog) (w:=w) (base:=base) B (A4.at fun _ _ _ _ _ _ _ h=>by obtain⟨_,_,rfl⟩:=L3.kL h;rfl)
 have dO:=Xd (P:=l.prog) (w:=w) (base:=base) B (A5.at fun _ _ _ _ _ _ _ h=>by obtain⟨_,rfl⟩:=L3.lj h;rfl)
 have jo:=Xe B bN iJ gE dO (A6.at fun _ _ _ _ _ _ _ h=>by obtain⟨_,_,rfl⟩:=L3.kL h;rfl)
 have hV:=Xj B jo bN (A7.at fun _ _ _ _ _ _ _ h=>by obtain⟨_,_,rfl⟩:=L3.kL h;rfl)
 have cD:=Xm (P:=l.prog) (w:=w) (base:=base) B (A8.at fun _ _ _ _ _ _ _ h=>by obtain⟨_,rfl⟩:=L3.lj h;rfl)
 have jq:=Xo B cD (A9.at fun _ _ _ _ _ _ _ h=>by obtain⟨_,_,rfl⟩:=L3.kL h;rfl)
 have iK:=Xr (P:=l.prog) (w:=w) (base:=base) B (A10.at fun _ _ _ _ _ _ _ h=>by obtain⟨_,_,rfl⟩:=L3.kL h;rfl)
 have fR:=Xw B cD bN jq iK (A11.at fun _ _ _ _ _ _ _ h=>by obtain⟨_,_,_,rfl⟩:=L3.qQ h;rfl)
 have gF:=XD (P:=l.prog) (w:=w) (base:=base) B (A12.at fun _ _ _ _ _ _ _ h=>by obtain⟨_,_,rfl⟩:=L3.kL h;rfl)
 have dY:=XG B fR gF bN (A13.at fun _ _ _ _ _ _ _ h=>by obtain⟨_,_,_,rfl⟩:=L3.qQ h;rfl)
 have iL:=XI B bN fR dY (A14.at fun _ _ _ _ _ _ _ h=>by obtain⟨_,_,_,_,rfl⟩:=L3.uD h;rfl)
 have hZ:=XQ B cD (A15.at fun _ _ _ _ _ _ _ h=>by obtain⟨_,_,rfl⟩:=L3.kL h;rfl)
 have iM:=XR (P:=l.prog) (w:=w) (base:=base) B (A16.at fun _ _ _ _ _ _ _ h=>by obtain⟨_,rfl⟩:=L3.lj h;rfl)
 have dB:=XT (P:=l.prog) (w:=w) (base:=base) B (A17.at fun _ _ _ _ _ _ _ h=>by obtain⟨_,_,rfl⟩:=L3.kL h;rfl)
 have gG:=XU (P:=l.prog) (w:=w) (base:=base) B (A18.at fun _ _ _ _ _ _ _ h=>by obtain⟨_,_,_,rfl⟩:=L3.qQ h;rfl)
 have gH:=XW B dB gG (A19.at fun _ _ _ _ _ _ _ h=>by obtain⟨_,_,_,rfl⟩:=L3.qQ h;rfl)
 have gJ:=XY (P:=l.prog) (w:=w) (base:=base) B (A20.at fun _ _ _ _ _ _ _ h=>by obtain⟨_,rfl⟩:=L3.lj h;rfl)
 have j7:=X0 B gJ (A21.at fun _ _ _ _ _ _ _ h=>by obtain⟨_,rfl⟩:=L3.lj h;rfl)
 have fH:=X3 B j7 (A22.at fun _ _ _ _ _ _ _ h=>by obtain⟨_,_,_,rfl⟩:=L3.qQ h;rfl)
 have fI:=X5 B iM fH gH (A23.at fun _ _ _ _ _ _ _ h=>by obtain⟨_,_,rfl⟩:=L3.kL h;rfl)
 have lJ:=X9 B fI (A24.at fun _ _ _ _ _ _ _ h=>by obtain⟨_,_,_,_,rfl⟩:=L3.uD h;rfl)
 have h_:=Y_ B cD (A25.at fun _ _ _ _ _ _ _ h=>by obtain⟨_,_,_,_,rfl⟩:=L3.uD h;rfl)
 have jr:=y83 (P:=l.prog) (w:=w) (base:=base) B T (A26.at fun _ _ _ _ _ _ _ h=>by obtain⟨_,rfl⟩:=L3.lj h;rfl)
 have j8:=z02 (P:=l.prog) (w:=w) (base:=base) B (A27.at fun _ _ _ _ _ _ _ h=>by obtain⟨_,rfl⟩:=L3.lj h;rfl)
 have gK:=y1x B j8 (A28.at fun _ _ _ _ _ _ _ h=>by obtain⟨_,_,rfl⟩:=L3.kL h;rfl)
 have eQ:=x9b B gK (A29.at fun _ _ _ _ _ _ _ h=>by obtain⟨_,_,rfl⟩:=L3.kL h;rfl)
 have gL:=z0h B eQ (A30.at fun _ _ _ _ _ _ _ h=>by obtain⟨_,_,rfl⟩:=L3.kL h;rfl)
 have lK:=z15 B gL fH dB gG (A31.at fun _ _ _ _ _ _ _ h=>by obtain⟨_,_,_,_,rfl⟩:=L3.uD h;rfl)
 have j9:=y9t B T gL dB gG fH (A31.at fun _ _ _ _ _ _ _ h=>by obtain⟨_,_,_,_,rfl⟩:=L3.uD h;rfl)
 have iN:=y4q B T lK jr j9 (A32.at fun _ _ _ _ _ _ _ h=>by obtain⟨_,_,_,_,rfl⟩:=L3.uD h;rfl)
 have ia:=y38 B cD (A33.at fun _ _ _ _ _ _ _ h=>by obtain⟨_,_,_,rfl⟩:=L3.qQ h;rfl)
 exact j13 B hV iL hZ bN lJ ia iN h_ (Fe (st:=top 45) l34 c34 k34)
def walk{q:Program}{loose:List Str}{XP:(Str->Option Value)->Heap->Prop}{YP:World->Heap->Prop}{d:DefRec}{K:Params->PySem.W.Frag}(hn:l.most=some 63)(vf:d.params.defaults=[])
  (hY:∀ (w:World) (h:Heap),YP w h->(K w.params).In h)
  (F:∀ (w:World) (mg:Str->Option Value) (fa:Addr) (h:Heap),(K w.params).In h->h.Ns mainGlobals mg->mg d.name=some (.ref fa)->(∀ x∈t6,PySem.W.tabIn (K w.params) x=none) /\
    ∃ fd:FuncData,(∀ (s:Shared) (u:Value),BindsTo s fd ⟨[u],[]⟩ [("_law_script",u)])/\∀ base:Heap,(K w.params).In base->base.Ns mainGlobals mg->dS l.prog w (K w.params) mg base jx 7 fa fd ["_law_script"] (k6 (K w.params) 1 uR)) :
  PySem.W.WalkO q loose XP YP l.row.toRowW d [] (fun f vs=>PySem.call f vs):=
 Wv (n:=63) (k:=7) (x:="_law_script") (F0:=uR) hn (by decide) vf ⟨rfl,by decide,by decide⟩ hY F fun _ _ a ns hl tb hS=>P_ nH hl hS tb
end My
namespace PySem.W.Fast
def tw10021194924220436776:=0
def tw10035109314473630605:=0
def tw10138728106962172211:=0
def tw10166970432673563341:=0
def tw10220322754706853442:=0
def tw10305512064371586662:=0
def tw10380259508926254110:=0
def tw10464574885270194804:=0
def tw10467802358192481333:=0
def tw10497787658600882895:=0
def tw10552085367993072892:=0
def tw10608572796111257667:=0
def tw10664906709339670743:=0
def tw10824893901115972649:=0
def tw10939324756108256644:=0
def tw10982049363360779523:=0
def tw11008354984792913657:=0
def tw11017217934816366822:=0
def tw11032128243782889168:=0
def tw11042063734484123492:=0
def tw11044554053264751420:=0
def tw111778943990643036:=0
def tw11190820907214939992:=0
def tw11215269526998590073:=0
def tw11229284626540436703:=0
def tw11229756994825682255:=0
def tw11230524514316214044:=0
def tw11243655714735511379:=0
def tw11307128752942747431:=0
def tw11309698862486621618:=0
def tw11323998680795566796:=0
def tw11334450348752790975:=0
def tw11466100110059474227:=0
def tw11492186154353152753:=0
def tw11513851081115684638:=0
def tw11548558596823203202:=0
def tw11571734147059932670:=0
def tw11759148063684138442:=0
def tw11762725268402727956:=0
def tw11763734300841087187:=0
def tw11955573398771632304:=0
def tw12042467902094944137:=0
def tw12252175674154242332:=0
def tw12339515222476289130:=0
def tw12370508641469841114:=0
def tw12467139921478281970:=0
def tw12556770615250665892:=0
def tw12639927722124812993:=0
def tw12672553902782642489:=0
def tw12719261464805073054:=0
def tw12751970842384037033:=0
def tw12761056131635023257:=0
def tw1277231775842096399:=0
def tw12849232649746170496:=0
def tw12867861627139370736:=0
def tw12919437268087558366:=0
def tw12923728381676849895:=0
def tw13004352342962182380:=0
def tw13012619116075841492:=0
def tw13050901678539291472:=0
def tw1316003419967895673:=0
def tw13215187199014510465:=0
def tw13224618631210672216:=0
def tw13235985767921592588:=0
def tw13292613045026156632:=0
def tw13341992940994679117:=0
def tw13375039705116835555:=0
def tw13432169780753888942:=0
def tw13494075818347349297:=0
def tw13564321525488741086:=0
def tw13582563920026347922:=0
def tw136772509378930775:=0
def tw13705820049205612237:=0
def tw13710520925048091066:=0
def tw1374515947396013538:=0
def tw13793297423410156411:=0
def tw13795228538466415400:=0
def tw13884114439854143231:=0
def tw14116365192378683713:=0
def tw1418160769181191318:=0
def tw14208944427904437344:=0
def tw14329448471779742212:=0
def tw14363087281820150209:=0
def tw14517437296775909436:=0
def tw14530575290612352866:=0
def tw14545094247547495024:=0
def tw14667165147844965819:=0
def tw14675840223849509357:=0
def tw14699932354659731017:=0
def tw14853477317010954452:=0
def tw14947369440889638622:=0
def tw15006398680390445606:=0
def tw15280188964777186861:=0
def tw15334841473513024845:=0
def tw15361891686576215083:=0
def tw15363998521097325452:=0
def tw15387039199319701520:=0
def tw15392166408120354614:=0
def tw15393679799628267399:=0
def tw1541214395058775553:=0
def tw15421437252516074903:=0
def tw15441082037991215317:=0
def tw15509982856537946436:=0
def tw15545224037279536888:=0
def tw15568205719711054361:=0
def tw15590759615568493008:=0
def tw15661199605203960787:=0
def tw15932486871424340875:=0
def tw15938407755121927840:=0
def tw15945733694287607719:=0
def tw15960134056277769248:=0
def tw1596187248279661510:=0
def tw16053001122551372861:=0
def tw16243489425681426208:=0
def tw16371052395315989916:=0
def tw16381146623078906402:=0
def tw16401082411650958192:=0
def tw1644696825330370826:=0
def tw16526810667459307591:=0
def tw16630255347881935935:=0
def tw1667276803887046164:=0
def tw16729372409387462252:=0
def tw16778014530245417193:=0
def tw16827767598598817381:=0
def tw16849744410869495789:=0
def tw16854105937300978023:=0
def tw16914568789102696385:=0
def tw16915431734142171468:=0
def tw16956417734538857082:=0
def tw17069780322660794329:=0
def tw17286030083419604358:=0
def tw17292180003700691670:=0
def tw17308704775999074112:=0
def tw17329033577794623812:=0
def tw17352729466498046247:=0
def tw17413648647344953670:=0
def tw17526243054226868821:=0
def tw17564515479259912132:=0
def tw17604460816809948210:=0
def tw1769058152975167568:=0
def tw17827261083238863757:=0
def tw178795859427574042:=0
def tw17913842230610213581:=0
def tw18000971587583487444:=0
def tw18022848034411108353:=0
def tw18035631691679478131:=0
def tw18071165182914834734:=0
def tw18093640325889070655:=0
def tw1815880529015009890:=0
def tw1819229420718695883:=0
def tw1820130730919641504:=0
def tw18227291279642814992:=0
def tw18357054428858627099:=0
def tw18394148232992371923:=0
def tw2062460392090614713:=0
def tw2123224784255668584:=0
def tw2150707072896376268:=0
def tw2207941962141615671:=0
def tw2411496711195893159:=0
def tw244199339354727141:=0
def tw2465700968316838554:=0
def tw2481101837480834988:=0
def tw2637682464926390723:=0
def tw2745742021655392604:=0
def tw280283794741773247:=0
def tw3104396526074742114:=0
def tw310901757899604410:=0
def tw3121484842551734751:=0
def tw3165466848051316750:=0
def tw319330653344873050:=0
def tw3212899335007891285:=0
def tw3278255184258301783:=0
def tw3310539398466638376:=0
def tw3365682460767018487:=0
def tw3565434660328484056:=0
def tw3608094305141237224:=0
def tw3627441915793959167:=0
def tw3640209822039705979:=0
def tw3671980116107762042:=0
def tw3862496607238422812:=0
def tw3882989477799744337:=0
def tw3921600247808939243:=0
def tw392615183363230997:=0
def tw397808553797308489:=0
def tw4017611582167981582:=0
def tw4058471287275216658:=0
def tw4091556320267244589:=0
def tw4179663181604654740:=0
def tw4236735778797311423:=0
def tw4263173575645250078:=0
def tw4290104569607086971:=0
def tw433622590696637400:=0
def tw4392091480185755660:=0
def tw4440022200107869664:=0
def tw4441033558959421841:=0
def tw4464837499918985729:=0
def tw4583969091318688642:=0
def tw4597603345308265898:=0
def tw4606988030050617650:=0
def tw4637579975451740641:=0
def tw4671066020767041523:=0
def tw4753271759487854329:=0
def tw4936369196465589217:=0
def tw4991579855797051004:=0
def tw5090433043276781843:=0
def tw5110460869249669355:=0
def tw5128896230075742153:=0
def tw5150689305512986784:=0
def tw5194966089208077705:=0
def tw5204523970261986936:=0
def tw521076581215949295:=0
def tw5356156449141147487:=0
def tw5363101712542870765:=0
def tw5379261072550049090:=0
def tw5390457548856052391:=0
def tw5425325676809712379:=0
def tw5453620166599816932:=0
def tw5481287073732027847:=0
def tw5548942730698127677:=0
def tw5555453761151181457:=0
def tw5568821360800937755:=0
def tw55759197217695786:=0
def tw5753680643162406338:=0
def tw5801365235397005434:=0
def tw5879855548104107831:=0
def tw5967633223084696952:=0
def tw6001858822247690824:=0
def tw6027440670125290579:=0
def tw6063024807805134758:=0
def tw6069953840170173064:=0
def tw6102491831683871207:=0
def tw6162156743071818971:=0
def tw6265922113971847368:=0
def tw6314050763391244206:=0
def tw6332020586325517282:=0
def tw6644894103096080128:=0
def tw6791057010617091155:=0
def tw6815213869795079574:=0
def tw6862248185895856746:=0
def tw6936815224021193655:=0
def tw6940415746335901257:=0
def tw6953129308007549308:=0
def tw6954148297539821144:=0
def tw6957790096607779315:=0
def tw7051833770049894329:=0
def tw7130597402322568224:=0
def tw7181750643650765344:=0
def tw7275764671231578682:=0
def tw7277762425686886153:=0
def tw7317347551493009328:=0
def tw7372860786320998394:=0
def tw7385548286737273493:=0
def tw7388363065191062733:=0
def tw7496781831613450686:=0
def tw7554558756109816001:=0
def tw7561577265875798050:=0
def tw7590946452082763591:=0
def tw7654582659363067014:=0
def tw768852569757144485:=0
def tw7700434566232982759:=0
def tw7778229972123796761:=0
def tw7786750565293569794:=0
def tw7818856862519941991:=0
def tw7886160185017428413:=0
def tw8075859469769541274:=0
def tw8163712054264373553:=0
def tw8269785530064212854:=0
def tw8294954521449291304:=0
def tw8299121319199847441:=0
def tw8375042863146800113:=0
def tw8432638282479943631:=0
def tw8513904684508192867:=0
def tw8542478626961364315:=0
def tw8557866142462073564:=0
def tw8634649437824203305:=0
def tw8638853695460968384:=0
def tw8641207145217987216:=0
def tw869018857578526989:=0
def tw8701310234954235073:=0
def tw8714163983777261517:=0
def tw8822704111329936177:=0
def tw885800405230268236:=0
def tw8882604345678491047:=0
def tw888374420311080833:=0
def tw8900699168400600553:=0
def tw8903745117749025660:=0
def tw9002344490522589955:=0
def tw9087698752193267400:=0
def tw918136243784768963:=0
def tw9205654531437789825:=0
def tw9363522367915567352:=0
def tw9363851907370949408:=0
def tw9490631324219338000:=0
def tw950232587744118977:=0
def tw9530790849264582811:=0
def tw953399206551530578:=0
def tw9676578912161392993:=0
def tw9724245929005723335:=0
def tw9739767293788002455:=0
def tw9745965536348428206:=0
def tw9783484800647792207:=0
def tw9799942018964752642:=0
def tw9807337525127117423:=0
def tw9814477407974440850:=0
def tw9978629088587959585:=0
end PySem.W.Fast
open PySem PySem.W PyProof.Rows
set_option maxRecDepth 100000 in
set_option maxHeartbeats 0 in
theorem PySem.Challenge.cw_ladderhall_k41_whole_path_to_holds : PySem.Challenge.rw_ladderhall_k41_whole_path_to.Holds := by
  w_on; o_law; k_head; (case hw => w_witness2)
  k_fill
  refine My.walk (l := PySem.Challenge.rw_ladderhall_k41_whole_path_to) rfl rfl (fun w h Y => PySem.W.kIn_of Y) ?F
  case F =>
    intro w mg fa h KX G hmg
    refine' ⟨L3.T0.of ?r1 ?r2 ?r3 ?r4 ?r5 ?r6, ?al⟩
    (case r1 => refine' L3.j4p ?_; k_is)
    (case r2 => refine' L3.j4p ?_; k_is)
    (case r3 => refine' L3.j4p ?_; k_is)
    (case r4 => refine' L3.j4p ?_; k_is)
    (case r5 => refine' L3.j4p ?_; k_is)
    (case r6 => refine' L3.j4p ?_; k_is)
    refine' My.all_mk KX G hmg ?A1 ?A2 ?A3 ?A4 ?A5 ?A6 ?A7 ?A8 ?A9 ?A10 ?A11 ?A12 ?A13 ?A14 ?A15 ?A16 ?A17 ?A18 ?A19 ?A20 ?A21 ?A22 ?A23 ?A24 ?A25 ?A26 ?A27 ?A28 ?A29 ?A30 ?A31 ?A32 ?A33 ?a34 ?l34 ?c34 ?k34 ?z1 ?z2 ?z3 ?z4 ?z5 ?z6 ?z7 ?z8 ?z9 ?z10 ?z11 ?z12 ?z13 ?xrN ?xcg ?xct ?xrg ?xrt ?xrc ?xro ?xrb ?xrT ?xe0N ?xe0g ?xe0t ?xe0c ?xe0o ?xe0b ?xe0V ?xe0n0 ?xe0n1 ?xe0n2 ?xe0n3 ?xe0n4 ?xe0R ?xe0X ?y0N ?y0O ?y0T ?y0Sxe0 ?y0Dxe0 ?y1N ?y1O ?y1T ?y1Sxe0 ?y1Dxe0 ?y2N ?y2O ?y2T ?y2Sxe0 ?y2Dxe0 ?y3N ?y3O ?y3T ?y3Sxe0 ?y3Dxe0 ?y4N ?y4O ?y4T ?y4Sxe0 ?y4Dxe0
    (case A1 | A2 | A3 | A4 | A5 | A6 | A7 | A8 | A9 | A10 | A11 | A12 | A13 | A14 | A15 | A16 | A17 | A18 | A19 | A20 | A21 | A22 | A23 | A24 | A25 | A26 | A27 | A28 | A29 | A30 | A31 | A32 | A33 => refine' My.A0.mk KX G ?a ?l ?c ?k; (case a => k_is); (case l => k_is); (case c => k_is); (case k => k_is))
    (case a34 => k_is)
    (case l34 => k_is)
    (case c34 => k_is)
    (case k34 => k_is)
    (case z1 => k_is)
    (case z2 => k_is)
    (case z3 => k_is)
    (case z4 => k_is)
    (case z5 => k_is)
    (case z6 => k_is)
    (case z7 => k_is)
    (case z8 => k_is)
    (case z9 => k_is)
    (case z10 => k_is)
    (case z11 => k_is)
    (case z12 => k_is)
    (case z13 => k_is)
    (case xrN => k_is)
    (case xcg => k_is)
    (case xct => k_is)
    (case xrg => k_is)
    (case xrt => k_is)
    (case xrc => k_is)
    (case xro => k_is)
    (case xrb => k_is)
    (case xrT => k_is)
    (case xe0N => k_is)
    (case xe0g => k_is)
    (case xe0t => k_is)
    (case xe0c => k_is)
    (case xe0o => k_is)
    (case xe0b => k_is)
    (case xe0V => k_is)
    (case xe0n0 => k_is)
    (case xe0n1 => k_is)
    (case xe0n2 => k_is)
    (case xe0n3 => k_is)
    (case xe0n4 => k_is)
    (case xe0R => k_is)
    (case xe0X => k_exc)
    (case y0N => k_is)
    (case y0O => k_is)
    (case y0T => k_is)
    (case y0Sxe0 => k_is)
    (case y0Dxe0 => decide)
    (case y1N => k_is)
    (case y1O => k_is)
    (case y1T => k_is)
    (case y1Sxe0 => k_is)
    (case y1Dxe0 => decide)
    (case y2N => k_is)
    (case y2O => k_is)
    (case y2T => k_is)
    (case y2Sxe0 => k_is)
    (case y2Dxe0 => decide)
    (case y3N => k_is)
    (case y3O => k_is)
    (case y3T => k_is)
    (case y3Sxe0 => k_is)
    (case y3Dxe0 => decide)
    (case y4N => k_is)
    (case y4O => k_is)
    (case y4T => k_is)
    (case y4Sxe0 => k_is)
    (case y4Dxe0 => decide)
