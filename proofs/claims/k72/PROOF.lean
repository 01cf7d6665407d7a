import PyProof.Rows.All
import Wide.All
import OpenK.AllK
import Wide.FinOn
import Lean
import PyProof.EqAt
import PyProof.EqKinds
import PyProof.TupleCall
import KE.KIsNot
import PyProof.ExcArgs
import OpenK.KOwn
import KE.LcSums
import PyProof.EnumMake
import PyProof.Draws
import PyProof.Rows.EnumRows
import PyProof.ExcBaseAll.ValueError
import PyProof.NsDelKeeps
import PyProof.Rows.SetFrom
import PyProof.WalksMore
import KE.KDictSum
import PyProof.Rows.MinMaxN
import PyProof.Rows.CallKwBuiltin
import KE.KMinKey
import KE.KSortKey
import PyProof.DictWalks
import PySem.SetOps
import KE.KSortTup
import PyProof.TupleKey
import PyProof.SetKind
import PyProof.IsRules
import PyProof.Rules
import PyProof.DictKinds
import PyProof.PureInt
import PyProof.FactsAll.tuple_2
import KE.KSortAsk
import PyProof.DictIter
import KE.KItemsList
import PyProof.DictUpdate
import PyProof.DictRoadsH
import PySem.Challenge.RW_ladderhall_k72_whole_without_many
set_option Elab.async false
set_option linter.all false
set_option maxRecDepth 100000
set_option maxHeartbeats 0
noncomputable section
open List (range replicate)
open Int (ofNat_eq_natCast)
abbrev Tl:=PySem.Value->PySem.Shared->Prop
def Qa:=@PySem.wpAny_bind
def Qb:=@List.getElem?_eq_getElem
def Qc:=@List.length_map
def Qd:=@PySem.Heap.get?_push_of_some
def Qe:=@PySem.wpAny_pure
def Qf:=@List.mem_cons_of_mem
def Qg:=@List.getD_eq_getElem?_getD
def Qh:=@List.mem_cons_self
def Qi:=@if_pos
def Qj:=@Nat.le_refl
def Qk:=@List.mem_map
def Ql:=@if_neg
def Qm:=@List.getElem?_map
def Qn:=@List.length_append
def Qo:=@List.size_toArray
def Qp:=@PySem.Heap.get?_push_size
def Qq:=@PySem.Heap.lt_size
def Qr:=@decide_eq_true
def Qs:=@List.mem_cons
def Qt:=@Bool.false_eq_true
def Qu:=@List.mem_append_right
def Qv:=@List.mem_range
def Qw:=@List.not_mem_nil
def Qx:=@List.map_cons
def Qy:=@decide_eq_false
def Qz:=@List.length_cons
def QA:=@Array.length_toList
def QB:=@Nat.lt_of_lt_of_le
def QC:=@Option.map_eq_some_iff
def QF:=@List.mem_singleton
def QG:=@List.getElem?_eq_none
def QH:=@PyProof.Rows.boot_tuple
def QI:=@List.length_range
def QJ:=@Nat.le_trans
def QK:=@List.mem_of_getElem?
def QL:=@Option.some.inj
def QM:=@of_decide_eq_true
def QN:=@List.getElem?_eq_some_iff
def QO:=@List.mem_append
def QP:=@Array.getD_eq_getD_getElem?
def QR:=@PySem.PassesOwn.never
def QS:=@List.mem_filter
def QT:=@Nat.lt_irrefl
def QU:=@List.map_append
def QV:=@List.map_map
def QW:=@List.getElem_mem
def QX:=@List.map_congr_left
def QY:=@PySem.wpAny_call_entry
def QZ:=@List.getElem?_set_self
def Q0:=@PySem.mem_of_lookup
def Q1:=@List.getElem?_append_left
def Q2:=@List.mem_append_left
def Q3:=@List.getElem?_set_ne
def Q4:=@Nat.ne_of_lt
def Q5:=@List.nodup_cons
def Q6:=@Nat.zero_le
def Q7:=@List.length_filter_le
def Q8:=@PySem.wpAny_newObj_type
def Q9:=@List.getElem?_range
def Za:=@PySem.wpAny_callSpecial?_slot
def Zb:=@List.filter_cons_of_pos
def Zc:=@PySem.wpAny_holding
def Zd:=@Array.getElem?_toList
def Ze:=@PySem.W.mg_none_of
def Zf:=@if_false
def Zg:=@List.getElem_of_mem
def Zh:=@PySem.SeqAt.canLay_of_shaped
def Zi:=@List.length_take
def Zj:=@List.length_set
def Zk:=@Nat.not_lt_zero
def Zl:=@List.getElem?_cons_succ
def Zm:=@Ne.symm
def Zn:=@Array.getElem?_eq_getElem
def Zo:=@List.ext_getElem?
def Zp:=@Bool.false_ne_true
def Zq:=@PyProof.Rows.slot_tuple_getitem
def Zr:=@PySem.W.kia_one
def Zs:=@List.getElem?_append_right
def Zt:=@PySem.Heap.size_push
def Zu:=@List.lookup_cons
def Zv:=@List.filter_cons_of_neg
def Zw:=@List.pairwise_iff_getElem
def Zx:=@PySem.F.slot_dict_keyiterator_next
def Zy:=@beq_self_eq_true
def Zz:=@Bool.not_true
def ZB:=@decide_eq_true_eq
def ZC:=@if_true
def ZD:=@congrArg
def ZE:=@Bool.and_eq_true_iff
def ZF:=@Bool.and_eq_true
def ZG:=@Nat.lt_succ_self
def ZH:=@List.mem_map_of_mem
def ZI:=@PySem.wpAny_field
def ZJ:=@Nat.lt_succ_of_lt
def ZK:=@List.length_replicate
def ZL:=@PySem.wpAny_seqItems
def ZM:=@List.append_nil
def ZN:=@PySem.F.called_set
def ZO:=@List.length_eq_zero_iff
def ZP:=@decide_eq_decide
def ZQ:=@Int.ofNat.inj
def ZR:=@PySem.wpAny_mono
def ZS:=@PySem.Heap.get?_update_other
def ZU:=@List.flatten_replicate_singleton
def ZV:=@beq_eq_false_iff_ne
def ZW:=@List.replicate_succ
def ZX:=@PySem.Heap.SameBut.update
def ZY:=@List.mergeSort_perm
def ZZ:=@Option.map_some
def Z0:=@PySem.Heap.get?_update_self
def Z1:=@List.length_drop
def Z2:=@Nat.lt_of_le_of_lt
def Z3:=@List.all_eq_true
def Z4:=@PySem.wpAny_forIn_list
def Z5:=@PySem.wpAny_isInstance
def Z6:=@Nat.le_of_lt
def Z7:=@List.getElem?_take_of_lt
def Z8:=@PySem.wpAny_typeNameOfWhole_keyiter
def Z9:=@PySem.wpAny_truthy_bool
def Ja:=@List.getElem?_replicate
def Jb:=@List.append_assoc
def Jc:=@PySem.F.slot_tuple_hash
def Je:=@PySem.wpAny_setState_of
def Jf:=@PySem.codeAny_builtin
def Jg:=@Int.toNat_of_nonneg
def Jh:=@PyProof.Rows.F.plain_set_update_loop
def Ji:=@PyProof.Rows.callWith_type1
def Jj:=@PyProof.Rows.boot_list
def Jk:=@Nat.le_add_right
def Jl:=@List.take_length
def Jm:=@List.nodup_range
def Jn:=@PySem.F.slot_tuple_iterator_next
def Jo:=@Array.getElem?_eq_some_iff
def Jp:=@List.getElem?_toArray
def Jq:=@PySem.wpAny_passesOwn
def Jr:=@List.length_nil
def Js:=@List.length_zip
def Jt:=@PyProof.Rows.get?_update_seq
def Ju:=@PySem.Value.isInt_shape
def Jv:=@PySem.sizeLine_eq
def Jw:=@List.flatten_cons
def Jx:=@PySem.codeAny_call_builtin
def Jy:=@PySem.Around.under_plainId
def Jz:=@Option.isSome_iff_exists
def JA:=@PySem.wpAny_attempt
def JB:=@List.filterMap_cons_some
def JC:=@List.eraseIdx_eq_take_drop_succ
def JD:=@List.filterMap_cons
def JE:=@List.nodup_nil
def JF:=@PySem.isSubtype_type
def JG:=@Nat.succ_ne_zero
def JH:=@decide_eq_false_iff_not
def JI:=@PySem.W.cellsFrom_some
def JJ:=@Nat.lt_trans
def JK:=@PySem.wpAny_pyIter_tuple
def JL:=@Nat.succ_pos
def JM:=@PySem.wpAny_tupleItemsOf
def JN:=@List.zip_cons_cons
def JO:=@of_decide_eq_false
def JP:=@Array.getElem?_eq_none
def JQ:=@Nat.succ.inj
def JR:=@List.mem_eraseDups
def JS:=@Int.natCast_nonneg
def JT:=@List.range_succ_eq_map
def JU:=@List.find?_cons
def JV:=@PySem.wpAny_specialOf
def JW:=@Bool.true_and
def JX:=@PySem.builtinLookup_eq_fast
def JY:=@List.take_append_drop
def JZ:=@PySem.F.typeOf_object_class
def J0:=@List.pairwise_map
def J1:=@Function.comp_def
def J2:=@List.take_add_one
def J4:=@PySem.call_meets
def J5:=@beq_iff_eq
def J6:=@List.mem_of_mem_take
def J7:=@PySem.Calls.call_function_entry
def J8:=@PyProof.Rows.F.entry_set_update_loop
def J9:=@PySem.F.args_dict_keyiterator_next_1
def Ya:=@List.flatMap_append
def Yb:=@PySem.F.args_tuple_add_2
def Yc:=@List.length_erase_of_mem
def Yd:=@List.filterMap_cons_none
def Ye:=@PySem.F.entry_dict_keyiterator_next
def Yf:=@PySem.pushCells_keeps
def Yg:=@PySem.wpAny_rule
def Yh:=@PySem.Obj.data_mapFields
def Yi:=@Array.forIn_toList
def Yj:=@PySem.F.entry_tuple_add
def Yk:=@Nat.le_succ
def Yl:=@PySem.F.plainAttrs_list
def Ym:=@List.pairwise_mergeSort
def Yn:=@PySem.codeAny_mono
def Yo:=@PySem.F.slot_tuple_add
def Yp:=@PySem.wpAny_typeOf
def Yq:=@List.reverse_cons
def Yr:=@PySem.wpAny_pyIter_list
def Ys:=@PyProof.Rows.room_in_shaped
def Yt:=@Int.toNat_natCast
def Yu:=@or_false
def Yv:=@Nat.zero_add
def Yw:=@List.length_pos_of_mem
def Yx:=@List.take_of_length_le
def Yy:=@Bool.not_false
def Yz:=@bne_self_eq_false
def YA:=@PySem.W.kdl_size
def YB:=@List.filter_eq_nil_iff
def YC:=@Bool.not_eq_true'
def YD:=@PySem.F.slot_dict_get
def YE:=@PySem.F.slot_tuple_eq
def YF:=@PySem.isSubtype_tuple_tuple
def YG:=@List.getElem?_zipWith
def YH:=@PySem.F.slot_tuple_mul
def YI:=@List.any_cons
def YJ:=@Sum.inl.inj
def YK:=@Array.mem_toList_iff
def YL:=@Nat.exists_eq_succ_of_ne_zero
def YM:=@List.mem_erase_of_ne
def YN:=@Int.le_refl
def YO:=@Prod.mk.inj
def YQ:=@PySem.wpAny_execs_nil
def YR:=@List.of_mem_zip
def YS:=@PySem.F.slot_int_rmul
def YT:=@PySem.typeLookup_type
def YU:=@PySem.F.args_tuple_iterator_next_1
def YV:=@PySem.F.slot_zip_next
def YW:=@Nat.lt_succ_iff
def YX:=@List.set_append
def YY:=@PySem.F.slot_gs_get
def YZ:=@List.length_pos_iff
def Y0:=@List.map_eq_nil_iff
def Y1:=@List.filter_eq_self
def Y2:=@Nat.ne_of_gt
def Y3:=@Nat.succ_mul
def Y4:=@PySem.F.entry_tuple_iterator_next
def Y5:=@PySem.wpAny_richCompare_same_room
def Y6:=@List.idxOf_lt_length_of_mem
def Y7:=@PySem.Calls.Name_function_global
def Y8:=@List.mem_filterMap
def Y9:=@PySem.Calls.spliced_cons
def Va:=@PySem.wpAny_Call_Name_kw
def Vb:=@Bool.and_false
def Vc:=@PySem.tupleKind_room_in1
def Vd:=@PySem.Code.quiet_builtin
def Ve:=@PySem.F.excAttr_ValueError
def Vf:=@List.getElem?_take_eq_none
def Vg:=@PySem.wpAny_setField
def Vh:=@PySem.isSubtype_stop
def Vi:=@PySem.wpAny_fieldsOf
def Vj:=@Array.perm_iff_toList_perm
def Vk:=@List.filter_append
def Vl:=@Int.emod_lt_of_pos
def Vm:=@List.Nodup.sublist
def Vo:=@PySem.wpAny_binaryOp_repeat_ref
def Vq:=@List.getElem?_zip_eq_some
def Vr:=@List.drop_eq_getElem_cons
def Vs:=@List.ne_nil_of_length_pos
def Vt:=@Classical.byContradiction
def Vu:=@Sum.inr.inj
def Vv:=@PySem.W.kitx_list
def Vw:=@PySem.slot_list_getitem
def Vx:=@Array.getElem_mem
def Vy:=@PySem.wpAny_pyIter_slot
def Vz:=@PySem.wpAny_dictEntries
def VA:=@List.foldl_append
def VB:=@PySem.Paired.length
def VC:=@PySem.F.slot_tuple_index
def VD:=@PySem.wpAny_onRaise
def VE:=@Array.size_setIfInBounds
def VF:=@PySem.wpAny_newList
def VG:=@PySem.wpAny_eqBool_int
def VH:=@PySem.noFill_tuple_add
def VI:=@Nat.succ_le_succ
def VJ:=@PySem.F.args_dict_get_3
def VL:=@PySem.F.plainAttrs_dict
def VM:=@PySem.wpAny_askSetting
def VN:=@PySem.F.slot_dict_items
def VO:=@List.getElem_zip
def VP:=@List.mem_flatMap
def VQ:=@PySem.concat_meets
def VR:=@PySem.typeIs_int
def VS:=@Nat.mul_comm
def VT:=@PySem.F.entry_dict_get
def VU:=@Nat.mod_lt
def VW:=@dif_pos
def VX:=@List.pairwise_lt_range
def VY:=@Int.le_trans
def VZ:=@PySem.intKind_is
def V0:=@PySem.F.slot_dict_iter
def V2:=@List.all_map
def V3:=@List.forIn_cons
def V4:=@Array.Perm.refl
def V5:=@PySem.wpAny_dictEpoch
def V6:=@List.map_const'
def V7:=@List.range_succ
def V8:=@Int.emod_nonneg
def V9:=@PySem.F.plain_set_new
def Ua:=@List.Perm.append_left
def Ub:=@PySem.F.slot_set_iter
def Uc:=@PySem.F.slot_tuple_lt
def Ud:=@PyProof.Rows.boot_max
def Ue:=@Prod.ext
def Uf:=@List.forIn_nil
def Ug:=@PySem.boot_len
def Uh:=@List.range_eq_range'
def Ui:=@PySem.wpAny_of_eq
def Uj:=@List.take_zero
def Uk:=@List.length_eraseIdx
def Ul:=@Array.getElem_of_mem
def Um:=@Nat.mul_le_mul_right
def Uo:=@List.mem_of_mem_tail
def Uq:=@List.Perm.refl
def Ur:=@List.length_reverse
def Us:=@List.filter_sublist
def Ut:=@Bool.and_true
def Uu:=@List.map_take
def Uv:=@List.map_drop
def Uw:=@List.all_cons
def Ux:=@List.map_nil
def Uy:=@Nat.succ_add
def Uz:=@Nat.sub_self
def UA:=@Nat.min_self
def UB:=@Int.le_total
def UC:=@Bool.or_true
def UD:=@List.map_id
namespace L2
open PySem PySem.Spec PyProof.Rows
variable {A:Around}{C a b dx it:Addr}{E:Tl}{K:PySem.W.Frag}{M:Model}{N ps:List Str}{P:Program}{Q:Unit->Shared->Prop}{base h:Heap}{body:List Stmt}{c e tg:Expr}{es:List Expr}{f:Value->Value->Sem Value}{fp:List Addr}{g:Int->Int->Int}{i j n:Nat}{kindOf:Str->Option NameKind}{mA mg:Str->Option Value}{o:Obj}{op:CmpOp}{Tk:List (Addr×Obj)}{qual x:Str}{s s':Shared}{sc scope:Scope}{u v:Value}{us:List Value}{w:World}
abbrev Key:=Sum Int Str
def rJ:Key->Value->Bool
 | .inl k,v=>Value.isInt k v
 | .inr x,v=>Value.isStrOf x v
def NK (w:World):Key->Int
 | .inl k=>hashInt k
 | .inr x=>hashStr w x
theorem nZ:∀ {k:Key} {v:Value},rJ k v=true->(∃ i t,k=Sum.inl i/\v=Value.int i t)\/(∃ x t,k=Sum.inr x/\v=Value.str x t)
 | .inl i,v,h=>by obtain⟨t,e⟩:=Ju (k:=i) (v:=v) h;exact .inl ⟨i,t,rfl,e⟩
 | .inr x,v,h=>by obtain⟨t,e⟩:=Value.isStrOf_shape (x:=x) (v:=v) h;exact .inr ⟨x,t,rfl,e⟩
theorem NL(i:Int)(t:Tok):rJ (.inl i) (.int i t)=true:=by simp[rJ,Value.isInt]
theorem NM(x:Str)(t:Tok):rJ (.inr x) (.str x t)=true:=by simp[rJ,Value.isStrOf]
theorem NN(a b:Int):decide ((Sum.inl a:Key)=Sum.inl b)=(a==b):=by
 by_cases e:a=b
 ·subst e;simp
 ·have h:¬ (Sum.inl a:Key)=Sum.inl b:=λq=>e (YJ q);rw[Qy h];exact(ZV.mpr e).symm
theorem NO(a b:Str):decide ((Sum.inr a:Key)=Sum.inr b)=decide (a=b):=by
 by_cases e:a=b
 ·subst e;simp
 ·have h:¬ (Sum.inr a:Key)=Sum.inr b:=λq=>e (Vu q);rw[Qy h,Qy e]
theorem NP(a:Int)(b:Str):decide ((Sum.inl a:Key)=Sum.inr b)=false:=Qy (λq=>nomatch q)
theorem NQ(a:Str)(b:Int):decide ((Sum.inr a:Key)=Sum.inl b)=false:=Qy (λq=>nomatch q)
def ig (prog:Program)(w:World):PySem.KeyKind prog w Key where
 is:=rJ
 hash:=NK w
 inj:=λv a b ha hb=>by
  rcases nZ ha with⟨i,t,rfl,rfl⟩|⟨x,t,rfl,rfl⟩
  ·rcases nZ hb with⟨j,u,rfl,e⟩|⟨y,u,rfl,e⟩
   ·injection e with e1 _;rw[e1]
   ·exact nomatch e
  ·rcases nZ hb with⟨j,u,rfl,e⟩|⟨y,u,rfl,e⟩
   ·exact nomatch e
   ·injection e with e1 _;rw[e1]
 byValue:=λk v h=>by rcases nZ h with⟨i,t,rfl,rfl⟩|⟨x,t,rfl,rfl⟩<;>rfl
 pyHash:=λhv h=>by
  rcases nZ hv with⟨i,t,rfl,rfl⟩|⟨x,t,rfl,rfl⟩
  ·exact wpAny_pyHash_int h
  ·exact wpAny_pyHash_str h
 eqBool:=λhu hv h=>by
  rcases nZ hu with⟨i,t,rfl,rfl⟩|⟨x,t,rfl,rfl⟩
  ·rcases nZ hv with⟨j,u,rfl,rfl⟩|⟨y,u,rfl,rfl⟩
   ·rw[NN]at h;exact VG h
   ·rw[NP]at h;exact SeqAt.EqAt.int_str i t y u _ _ _ _ h
  ·rcases nZ hv with⟨j,u,rfl,rfl⟩|⟨y,u,rfl,rfl⟩
   ·rw[NQ]at h;exact SeqAt.EqAt.str_int x t j u _ _ _ _ h
   ·rw[NO]at h;exact wpAny_eqBool_str h
 «strs»:=λk x t v h=>by
  rcases nZ h with⟨i,u,rfl,e⟩|⟨y,u,rfl,e⟩
  ·exact nomatch e
  ·injection e with e1 _;subst e1;cases v<;>rfl
theorem NR(prog:Program)(w:World)(k:Key)(v:Value):(ig prog w).is k v=rJ k v:=rfl
theorem NS(prog:Program)(w:World)(i:Int)(t:Tok):(ig prog w).is (.inl i) (.int i t)=true:=NL i t
theorem NT(prog:Program)(w:World)(x:Str)(t:Tok):(ig prog w).is (.inr x) (.str x t)=true:=NM x t
inductive V where
 | bK|bl (b:Bool)|int (i:Int)|str (x:Str)|vG (b:Array UInt8)|ue (b:UInt64)|ref (a:Addr)|ty (n:String)
 deriving DecidableEq
def bP:V->Value->Prop
 | .bK,u=>u=Value.none
 | .bl b,u=>u=Value.bool b
 | .int i,u=>∃ t,u=Value.int i t
 | .str x,u=>∃ t,u=Value.str x t
 | .vG b,u=>∃ t,u=Value.bytes b t
 | .ue b,u=>∃ t,u=Value.float b t
 | .ref a,u=>u=Value.ref a
 | .ty n,u=>u=Value.type n
abbrev bc:List V->List Value->Prop:=Paired bP
theorem bc.length{xs:List V}(r:bc xs us):xs.length=us.length:=VB r
theorem bc.get:∀ {xs:List V} {us:List Value} {i:Nat} {x:V},bc xs us->xs[i]? = some x->∃ u,us[i]? = some u/\bP x u
 | _,_,_,_,.nil,e=>by simp at e
 | _,_,0,_,.cons r _,e=>by simp at e;subst e;exact⟨_,rfl,r⟩
 | _,_,i+1,x,.cons _ t,e=>by obtain⟨u,h1,h2⟩:=bc.get (i:=i) (x:=x) t (by simpa using e);exact⟨u,by simpa using h1,h2⟩
theorem bc.set{x:V}(r:bP x u):∀ {xs:List V} {us:List Value} (i:Nat),bc xs us->bc (xs.set i x) (us.set i u)
 | _,_,_,.nil=>.nil
 | _,_,0,.cons _ t=>.cons r t
 | _,_,i+1,.cons q t=>.cons q (bc.set r i t)
theorem bc.append:∀ {xs ys:List V} {us ws:List Value},bc xs us->bc ys ws->bc (xs++ys) (us++ws)
 | _,_,_,_,.nil,s=>s
 | _,_,_,_,.cons r t,s=>.cons r (bc.append t s)
theorem bc.take:∀ {xs:List V} {us:List Value} (n:Nat),bc xs us->bc (xs.take n) (us.take n)
 | _,_,0,_=>.nil
 | _,_,_+1,.nil=>.nil
 | _,_,n+1,.cons r t=>.cons r (bc.take n t)
theorem bc.drop:∀ {xs:List V} {us:List Value} (n:Nat),bc xs us->bc (xs.drop n) (us.drop n)
 | _,_,0,r=>r
 | _,_,_+1,.nil=>.nil
 | _,_,n+1,.cons _ t=>bc.drop n t
def lC:Option V->Option Value->Prop
 | some v,some u=>bP v u
 | none,none=>True
 | _,_=>False
def KV {κ:Type}:List (κ×V)->List (κ×Value)->Prop:=Paired λ(p:κ×V) (q:κ×Value)=>p.1=q.1/\bP p.2 q.2
def kV:Key->V
 | .inl i=>.int i
 | .inr x=>.str x
inductive HO where
 | lst (xs:List V)
 | tup (xs:List V)
 | dK (au:List (Key×V))|dT (au:List (List Key×V))
 | set (S:Int->Bool) (n:Nat)
 | ins (C dx:Addr) (fs:List (Str×V))
 | own (x:Addr)
 | xd (fs:List (Str×V))
 | met (f x:Addr)
 | l_ (lo hi:Int)
 | ij (o:Obj) (u:HO)
 | iP (ps:Array Value)
 | ext (φ:Heap->Prop)
abbrev Hp:=Addr->Option HO
def upd (H:Hp)(a:Addr)(o:HO):Hp:=λb=>if b=a then some o else H b
theorem fD{H:Hp}{o:HO}:upd H a o a=some o:=by unfold upd;rw[Qi rfl]
theorem a_{H:Hp}{o:HO}(h:b≠a):upd H a o b=H b:=by unfold upd;rw[Ql h]
theorem NU{H:Hp}{o u:HO}:upd (upd H a o) a u=upd H a u:=by funext b;unfold upd;split<;>rfl
theorem NV{H:Hp}{o u:HO}(h:H a=some o)(h':H b=some u)(d:o≠u):a≠b:=by intro e;subst e;rw[h]at h';exact d (QL h')
theorem gC{H:Hp}{o:HO}(h:H a=some o)(h':H b=none):a≠b:=by intro e;subst e;rw[h]at h';cases h'
def lD (h:Heap)(a:Addr)(items:Array Value):Prop:=∃ o,h.get? a=some o/\o.cls=.type "tuple" /\ (∃ n,o.data=.seq items n)/\o.dict=none
theorem lD.tup{h:Heap}{a:Addr}{items:Array Value}(x:lD h a items):IsTup h a items:=let ⟨o,e,c,n,_⟩:=x;⟨o,e,c,n⟩
theorem lD.new(h:Heap)(items:Array Value):lD (h.push { cls:=.type "tuple",data:=.seq items }) h.objs.size items:=⟨_,Qp _ rfl,rfl,⟨_,rfl⟩,rfl⟩
theorem lD.lt{items:Array Value}(x:lD h a items):a<h.objs.size:=let ⟨_,e,_⟩:=x;Qq e
section
variable (P:Program)(w:World)
def dA (H:Hp)(h:Heap)(a:Addr):HO->Prop
 | .lst xs=>xs.length<=sizeLine/\∃ (aq:List Value) (n:Nat),bc xs aq/\h.get? a=some { cls:=.type "list",data:=.seq aq.toArray n }
 | .tup xs=>xs.length<=sizeLine/\∃ aq:List Value,bc xs aq/\lD h a aq.toArray
 | .dK au=>au.length<=sizeLine/\(a==sysModules)=false/\∃ vs,KV au vs/\h.DictOf (ig P w) a vs
 | .dT au=>au.length<=sizeLine/\(a==sysModules)=false/\∃ xs:List (List Key×Addr×Value),
   Paired (λ(p:List Key×V) (q:List Key×Addr×Value)=>p.1=q.1/\H q.2.1=some (.tup (p.1.map kV))/\bP p.2 q.2.2) au xs /\
   ∃ o es ep,h.get? a=some o/\o.ExactDict/\o.data=.dict es ep/\es.toList=xs.map (entryOfKey (tupleKind (ig P w)))/\(xs.map (·.1)).Nodup
 | .set S n=>h.SetOf (intKind P w) a S n
 | .ins C dx fs=>H dx=some (.own a)/\fs.length<=1000/\dx≠a/\h.get? a=some (W.instObj C dx) /\
   ∃ mA,h.Ns1 dx mA/\(∀ f,lC (fs.lookup f) (mA f))/\PySem.Within mA (fs.map (·.1))
 | .own _=>∃ o,h.get? a=some o
 | .xd fs=>∃ mA,h.Ns1 a mA/\∀ f,lC (fs.lookup f) (mA f)
 | .l_ lo hi=>∃ t u v,h.get? a=some { cls:=.type "range",data:=.fields #[.int lo t,.int hi u,.int 1 v] }
 | .ij o u=>h.get? a=some o/\dA H h a u
 | .iP ps=>h.get? a=some { cls:=.none,data:=.fields ps }
 | .met f x=>h.get? a=some (W.methodObj (.ref f) (.ref x))
 | .ext φ=>φ h/\(∃ o,h.get? a=some o)/\∀ h1 h2:Heap,φ h1->(∀ o,h1.get? a=some o->h2.get? a=some o)->φ h2
def dQ (H:Hp)(h:Heap):Prop:=∀ a o,H a=some o->dA P w H h a o
end
section
variable {P:Program}{w:World}{H H':Hp}{h h':Heap}{a:Addr}{o:HO}
theorem dA.lt(x:dA P w H h a o):a<h.objs.size:=by
 cases o with
 | lst xs=>obtain⟨_,_,_,_,e⟩:=x;exact Qq e
 | tup xs=>obtain⟨_,_,_,p⟩:=x;exact p.lt
 | dK au=>obtain⟨_,_,_,_,o,_,_,e,_⟩:=x;exact Qq e
 | dT au=>obtain⟨_,_,_,_,o,_,_,e,_⟩:=x;exact Qq e
 | set S n=>obtain⟨o,_,_,_,e,_⟩:=x;exact Qq e
 | ins C dx fs=>obtain⟨_,_,_,e,_⟩:=x;exact Qq e
 | own y=>obtain⟨_,e⟩:=x;exact Qq e
 | xd fs=>obtain⟨_,⟨_,_,_,e,_⟩,_⟩:=x;exact Qq e
 | l_ lo hi=>obtain⟨_,_,_,e⟩:=x;exact Qq e
 | ij ob u=>obtain⟨e,_⟩:=x;exact Qq e
 | iP ps=>exact Qq (show h.get? a=some _ from x)
 | met f y=>exact Qq (show h.get? a=some _ from x)
 | ext φ=>obtain⟨_,⟨_,e⟩,_⟩:=x;exact Qq e
theorem Paired.rK{α β:Type}{F G:α->β->Prop}:∀ {l₁:List α} {l₂:List β},Paired F l₁ l₂->(∀ a b,F a b->G a b)->Paired G l₁ l₂
 | _,_,.nil,_=>.nil
 | _,_,.cons r t,f=>.cons (f _ _ r) (Paired.rK t f)
theorem dA.ix(x:dA P w H h a o)(k:∀ b u,(b=a\/H b=some (.own a))->h.get? b=some u->h'.get? b=some u)
  (ho:∀ b,H b=some (.own a)->H' b=some (.own a)) (ht:∀ b xs,H b=some (.tup xs)->H' b=some (.tup xs)):dA P w H' h' a o:=by
 induction o with
 | lst xs=>obtain⟨z,aq,n,r,e⟩:=x;exact⟨z,aq,n,r,k _ _ (.inl rfl) e⟩
 | tup xs=>obtain⟨z,aq,r,ob,e,c⟩:=x;exact⟨z,aq,r,ob,k _ _ (.inl rfl) e,c⟩
 | dK au=>obtain⟨z,y,vs,r,ob,es,ep,e,c⟩:=x;exact⟨z,y,vs,r,ob,es,ep,k _ _ (.inl rfl) e,c⟩
 | dT au=>
  obtain⟨z,y,xs,r,ob,es,ep,e,c⟩:=x;exact⟨z,y,xs,Paired.rK r λp q z=>⟨z.1,ht _ _ z.2.1,z.2.2⟩,ob,es,ep,k _ _ (.inl rfl) e,c⟩
 | set S n=>obtain⟨ob,es,ep,t,e,c⟩:=x;exact⟨ob,es,ep,t,k _ _ (.inl rfl) e,c⟩
 | ins C dx fs=>
  obtain⟨d,z,ne,e,mA,⟨od,es,ep,e2,c⟩,r⟩:=x;exact⟨ho _ d,z,ne,k _ _ (.inl rfl) e,mA,⟨od,es,ep,k _ _ (.inr d) e2,c⟩,r⟩
 | own y=>obtain⟨ob,e⟩:=x;exact⟨ob,k _ _ (.inl rfl) e⟩
 | xd fs=>obtain⟨mA,⟨od,es,ep,e,c⟩,r⟩:=x;exact⟨mA,⟨od,es,ep,k _ _ (.inl rfl) e,c⟩,r⟩
 | l_ lo hi=>obtain⟨t,u,v,e⟩:=x;exact⟨t,u,v,k _ _ (.inl rfl) e⟩
 | ij ob u ih=>obtain⟨e,q⟩:=x;exact⟨k _ _ (.inl rfl) e,ih q⟩
 | iP ps=>
  have e:h.get? a=some { cls:=.none,data:=.fields ps }:=x;show h'.get? a=some { cls:=.none,data:=.fields ps };exact k a _ (.inl rfl) e
 | met f y=>
  have e:h.get? a=some (W.methodObj (.ref f) (.ref y)):=x;show h'.get? a=some (W.methodObj (.ref f) (.ref y));exact k a _ (.inl rfl) e
 | ext φ=>obtain⟨p,⟨o,e⟩,st⟩:=x;exact⟨st _ _ p λo q=>k _ _ (.inl rfl) q,⟨o,k _ _ (.inl rfl) e⟩,st⟩
theorem dQ.lt(x:dQ P w H h)(e:H a=some o):a<h.objs.size:=(x a o e).lt
theorem dQ.fresh(x:dQ P w H h)(e:h.objs.size<=a):H a=none:=by
 cases q:H a with
 | none=>rfl
 | some u=>exact absurd (QB (x.lt q) e) (QT _)
theorem dQ.kept(x:dQ P w H h)(k:∀ b u,h.get? b=some u->h'.get? b=some u):dQ P w H h':=λa o e=>
 (x a o e).ix (λb u _ q=>k b u q) (λ_ q=>q) λ_ _ q=>q
theorem dQ.laid(x:dQ P w H h)(k:∀ b u,h.get? b=some u->h'.get? b=some u)(hp:h.objs.size<=a)(new:dA P w (upd H a o) h' a o):dQ P w (upd H a o) h':=λb u e=>by
 have hn:=x.fresh hp;by_cases hb:b=a
 ·subst hb;rw[fD]at e;cases e;exact new
 ·rw[a_ hb]at e;exact(x b u e).ix (λc v _ q=>k c v q) (λc q=>by rw[a_ (gC q hn)];exact q) λc xs q=>by rw[a_ (gC q hn)];exact q
end
def Rd (H:Hp)(a:Addr)(u:HO):Prop:=H a=some u\/∃ o,H a=some (.ij o u)
theorem Rd.of{H:Hp}{u:HO}(h:H a=some u):Rd H a u:=.inl h
theorem Rd.ok{H:Hp}{u:HO}(r:Rd H a u)(x:dQ P w H h):dA P w H h a u:=by
 rcases r with r|⟨o,r⟩
 ·exact x a u r
 ·obtain⟨_,q⟩:=x a _ r;exact q
def vH:Option HO->Prop
 | some (.lst _)=>True
 | some (.dK _)=>True
 | some (.dT _)=>True
 | some (.set _ _)=>True
 | some (.ins _ _ _)=>True
 | some (.ext _)=>True
 | _=>False
section
variable {P:Program}{w:World}{H:Hp}{h h':Heap}{x e:Addr}{o':HO}
theorem dQ.write(ok:dQ P w H h)(mu:vH (H x))(he:e=x\/H e=some (.own x))(k:∀ b u,b≠e->h.get? b=some u->h'.get? b=some u)(uf:∃ u,h'.get? e=some u)
  (new:dA P w (upd H x o') h' x o'):dQ P w (upd H x o') h':=λb u q=>by
 have vI:∀ c y,H c=some (.own y)->c≠x:=λc y r z=>by subst z;rw[r]at mu;exact mu
 have Bu:∀ c xs,H c=some (.tup xs)->c≠x:=λc xs r z=>by subst z;rw[r]at mu;exact mu
 by_cases hb:b=x
 ·subst hb;rw[fD]at q;cases q;exact new
 ·rw[a_ hb]at q;by_cases rL:b=e
  ·have q':H b=some (.own x):=by
    rcases he with z|z
    ·exact absurd (rL.trans z) hb
    ·rw[rL];exact z
   rw[q]at q';cases q';obtain⟨v,hv⟩:=uf;exact⟨v,by rw[rL];exact hv⟩
  ·refine(ok b u q).ix (λc v hc r=>k c v ?_ r) (λc r=>by rw[a_ (vI c b r)];exact r) λc xs r=>by rw[a_ (Bu c xs r)];exact r
   rcases hc with rfl|hc
   ·exact rL
   ·rintro rfl;rcases he with z|z
    ·exact vI c b hc z
    ·rw[hc]at z;cases z;exact hb rfl
end
structure Un (fs ex:List Addr) (H H':Hp) (h h':Heap):Prop where
 keep:∀ b o,h.get? b=some o->H b=none->b ∉ fs->b ∉ ex->h'.get? b=some o
 slot:∀ b o,h.get? b=some o->H b=none->b∈fs->b ∉ ex->∃ sl,h'.get? b=some { o with slots:=sl }
 free:∀ b o,h.get? b=some o->H b=none->b ∉ ex->H' b=none
 there:∀ b o,h.get? b=some o->b ∉ ex->∃ o',h'.get? b=some o'
 iy:∀ b xs,H b=some (.tup xs)->H' b=some (.tup xs)
 gN:∀ b o u,H b=some (.ij o u)->H' b=some (.ij o u)
 iz:∀ b ps,H b=some (.iP ps)->∃ more,H' b=some (.iP (ps++more))
section
variable {fs NW ex ex':List Addr}{H H1 H2:Hp}{h h1 h2 h':Heap}{a x e:Addr}{o:HO}
theorem Un.any(u:Un fs ex H H1 h h1){ob:Obj}(q:h.get? b=some ob)(n:H b=none)(hx:b ∉ ex):∃ sl,h1.get? b=some { ob with slots:=sl }:=by
 by_cases hb:b∈fs
 ·exact u.slot b ob q n hb hx
 ·exact⟨ob.slots,u.keep b ob q n hb hx⟩
theorem Un.kept(k:∀ b u,h.get? b=some u->h'.get? b=some u):Un fs ex H H h h':=
 ⟨λb ob q _ _ _=>k b ob q,λb ob q _ _ _=>⟨ob.slots,k b ob q⟩,λ_ _ _ n _=>n,λb ob q _=>⟨ob,k b ob q⟩,λ_ _ q=>q,λ_ _ _ q=>q,λ_ ps q=>⟨#[],by rw[q];simp⟩⟩
theorem Un.refl:Un fs ex H H h h:=Un.kept λ_ _ q=>q
theorem Un.laid(k:∀ b u,h.get? b=some u->h'.get? b=some u)(hp:h.objs.size<=a)(hn:H a=none):Un fs ex H (upd H a o) h h' where
 keep:=λb u q _ _ _=>k b u q
 slot:=λb u q _ _ _=>⟨u.slots,k b u q⟩
 free:=λb u q n _=>by rw[a_ (Q4 (QB (Qq q) hp))];exact n
 there:=λb u q _=>⟨u,k b u q⟩
 iy:=λb xs q=>by rw[a_ (gC q hn)];exact q
 gN:=λb u xs q=>by rw[a_ (gC q hn)];exact q
 iz:=λb ps q=>⟨#[],by rw[a_ (gC q hn),q];simp⟩
theorem Un.write(mu:vH (H x))(he:e=x\/H e=some (.own x))(k:∀ b u,b≠e->h.get? b=some u->h'.get? b=some u)(uf:∃ u,h'.get? e=some u):Un fs ex H (upd H x o) h h':=by
 have hx:∀ b,H b=none->b≠x:=λb n z=>by subst z;rw[n]at mu;exact mu
 have hb:∀ b,H b=none->b≠e:=λb n z=>by
  subst z;rcases he with r|r
  ·exact hx b n r
  ·rw[n]at r;cases r
 have hm:∀ b u,H b=some u->¬ vH (some u)->b≠x:=λb u q nm z=>by subst z;rw[q]at mu;exact nm mu
 refine⟨λb u q n _ _=>k b u (hb b n) q,λb u q n _ _=>⟨u.slots,k b u (hb b n) q⟩,λb u q n _=>by rw[a_ (hx b n)];exact n,λb u q _=>?_,
  λb xs q=>by rw[a_ (hm b _ q λz=>z)];exact q,λb u xs q=>by rw[a_ (hm b _ q λz=>z)];exact q,λb ps q=>⟨#[],by rw[a_ (hm b _ q λz=>z),q];simp⟩⟩
 by_cases rL:b=e
 ·subst rL;exact uf
 ·exact⟨u,k b u rL q⟩
end
def vJ (h:Heap)(H:Hp):List Addr:=(range h.objs.size).filter λa=>(H a).isSome
def oX (h:Heap)(H:Hp):Heap:=W.hideAll h (vJ h H)
theorem NX(h:Heap)(H:Hp):(oX h H).objs.size=h.objs.size:=W.hideAll_size _ _
theorem NY{H:Hp}(e:h.get? b=some o)(n:H b=none):(oX h H).get? b=some o:=
 W.hideAll_get _ e λhm=>by have q:(H b).isSome=true:=(QS.mp hm).2;rw[n]at q;simp at q
theorem NZ{H:Hp}(e:(oX h H).get? b=some o):h.get? b=some o/\H b=none:=by
 have e':h.get? b=some o:=W.of_hideAll (vJ h H) e;refine⟨e',?_⟩;cases q:H b with
 | none=>rfl
 | some x=>
  have hm:b∈vJ h H:=QS.mpr ⟨Qv.mpr (Qq e'),by simp[q]⟩;have z:(oX h H).get? b=none:=W.hideAll_none (vJ h H) hm;rw[z]at e;cases e
def N0 (g h:Heap)(L:Addr):List (Addr×Obj):=(range h.objs.size).filterMap λa=>if a=L\/(g.get? a).isSome=true then none else(h.get? a).map λo=>(a,o)
def bp (g h:Heap)(L d:Addr):List (Addr×Obj):=(N0 g h L).filter λp=>decide (p.1≠d)
structure Mod (K:PySem.W.Frag) (mg:Str->Option Value) (base:Heap):Prop where
 Bv:K.In base
 glob:base.Ns mainGlobals mg
 blt:∃ mb,base.Ns builtinsNs mb/\∀ x:Str,x ≠ "__name__"->mb x=bootBuiltins x
 nolimit:base.NoLimit
structure Cx where
 prog:Program
 w:World
 K:PySem.W.Frag
 mg:Str->Option Value
 base:Heap
 A:Around
 N:List Str
 cF:Shared
 iW:Hp
 env:Env
 outer:List Env
 stack:List Env
 ex:List Addr
 fn:Str->Bool
 calm:Bool
 pn:List (Addr×Obj)
 xe:Tl
def jX (l:List Env):List Addr:=l.filterMap (·.frame)
abbrev Cx.fs (X:Cx):List Addr:=jX X.outer
def ug (sc:Scope)(x:Str):Prop:=sc.names.lookup x=some .local\/sc.names.lookup x=some .cell\/sc.names.lookup x=some .free
def Loc (sc:Scope)(x:Str):Prop:=sc.names.lookup x=some .local\/sc.names.lookup x=some .cell
def N1 (env:Env)(h:Heap)(m:Str->Option Value)(x:Str)(u:Value):Prop:=
 (env.kindOf x=some .local/\m x=some u)\/((env.kindOf x=some .cell\/env.kindOf x=some .free)/\∃ c,env.cells.lookup x=some c/\h.IsCell c (some u))
structure Cx.Ok (X:Cx):Prop where
 mod:Mod X.K X.mg X.base
 kind:X.env.scope.kind=.function
 glob:X.env.globals=mainGlobals
 blt:X.env.builtins=builtinsNs
 above:X.cF.heap.objs.size<=X.env.locals
 inj:∀ x y c,X.env.cells.lookup x=some c->X.env.cells.lookup y=some c->x=y
 has:∀ x,(X.env.kindOf x=some .cell\/X.env.kindOf x=some .free)->∃ c,X.env.cells.lookup x=some c
 vK:∀ x c,X.fn x=true->X.env.cells.lookup x=some c->X.cF.heap.objs.size<=c
 hd:X.calm=true->X.A.handled=none
 frames:X.A.frames=some X.stack
 yQ:X.stack=X.outer\/(X.stack=X.env::X.outer/\X.env.frame=some X.env.locals)
 Bw:∀ b∈X.ex,b≠X.env.locals/\∀ x c,X.env.cells.lookup x=some c->c≠b
 bs:∀ b o,X.base.get? b=some o->X.cF.heap.get? b=some o/\X.iW b=none
 n4:X.base.objs.size<=X.cF.heap.objs.size
 mD:∀ b o,X.base.get? b=some o->b ∉ X.ex
 mE:∀ b∈X.ex,b ∉ X.fs
 gO:X.cF.heap.FunFrames X.base X.outer
 uh:∀ b∈X.fs,X.iW b=none
structure Inv (X:Cx) (Tk:List (Addr×Obj)) (σ:List (Option V)) (H:Hp) (s:Shared):Prop where
 ok:X.Ok
 os:s.os=X.cF.os
 bare:AllBare s.gens
 base:Un X.fs X.ex X.iW H X.cF.heap s.heap
 loc:∃ m,s.heap.Ns X.env.locals m/\∀ (i:Nat) (x:Str) (v:V),X.N[i]? = some x->σ[i]? = some (some v)->ug X.env.scope x->∃ u,bP v u/\N1 X.env s.heap m x u
 cell:∀ x c,X.env.cells.lookup x=some c->∃ v,s.heap.IsCell c v
 free:H X.env.locals=none
 dU:∀ x c,X.env.cells.lookup x=some c->H c=none
 pin:∀ p∈X.pn++Tk,s.heap.get? p.1=some p.2/\H p.1=none/\p.1≠X.env.locals/\p.1 ∉ X.fs/\∀ v,p.2.data ≠ .cell v
 aG:dQ X.prog X.w H s.heap
 len:σ.length=X.N.length
section
variable {X:Cx}{Tk:List (Addr×Obj)}{σ:List (Option V)}{H H':Hp}{s:Shared}{h':Heap}
theorem Cx.Ok.Bx(ok:X.Ok)(e:X.base.get? b=some o):b ∉ X.fs:=λhb=>by have:=(ok.gO.mem hb).1;rw[e]at this;cases this
theorem Inv.bs(I:Inv X Tk σ H s):∀ b o,X.base.get? b=some o->s.heap.get? b=some o/\H b=none:=λb o e=>
 ⟨I.base.keep b o (I.ok.bs b o e).1 (I.ok.bs b o e).2 (I.ok.Bx e) (I.ok.mD b o e),I.base.free b o (I.ok.bs b o e).1 (I.ok.bs b o e).2 (I.ok.mD b o e)⟩
theorem Inv.bk(I:Inv X Tk σ H s):∀ b o,X.base.get? b=some o->s.heap.get? b=some o:=λb o e=>(I.bs b o e).1
theorem Inv.mod(I:Inv X Tk σ H s):Mod X.K X.mg X.base:=I.ok.mod
theorem Inv.iA(I:Inv X Tk σ H s):X.K.In s.heap:=I.ok.mod.Bv.keeps I.bk
theorem Inv.fr(I:Inv X Tk σ H s):∃ m,Fr X.base X.env.locals s.heap m:=
 let ⟨m,hn,_⟩:=I.loc
 ⟨m,hn,I.bk,QJ I.ok.n4 I.ok.above⟩
theorem Inv.lt(I:Inv X Tk σ H s):X.env.locals<s.heap.objs.size:=let ⟨_,hn,_⟩:=I.loc;hn.lt
theorem Inv.sz(I:Inv X Tk σ H s):X.cF.heap.objs.size<=s.heap.objs.size:=QJ I.ok.above (Z6 I.lt)
theorem Inv.vM(I:Inv X Tk σ H s)(h:s.heap.objs.size<=a):a ∉ X.fs:=λhb=>by obtain⟨_,o,ho,_⟩:=I.ok.gO.mem hb;exact absurd (QB (Qq ho) (QJ I.sz h)) (QT _)
theorem Inv.rM(I:Inv X Tk σ H s):∀ x c,X.env.cells.lookup x=some c->c≠X.env.locals:=λx c e z=>by obtain⟨v,o,ho,hd⟩:=I.cell x c e;obtain⟨m,⟨o',es,ep,fZ,gP,_⟩,_⟩:=I.loc;rw[z,fZ]at ho;cases ho;rw[gP]at hd;cases hd
theorem Inv.gO(I:Inv X Tk σ H s):s.heap.FunFrames X.base X.outer:=by
 have all:∀ (l:List Env),(∀ b∈jX l,b∈X.fs)->X.cF.heap.FunFrames X.base l->s.heap.FunFrames X.base l:=by
  intro l;induction l with
  | nil=>intro _ _;trivial
  | cons env r ih=>
   intro hs hl;obtain⟨hk,⟨L,o,hf,hn,ho,hd⟩,hr⟩:=hl;have hL:L∈X.fs:=hs L (by unfold jX;rw[JD,hf];exact Qh);obtain⟨sl,e⟩:=I.base.slot L o ho (I.ok.uh L hL) hL λz=>I.ok.mE L z hL;exact⟨hk,⟨L,_,hf,hn,e,hd⟩,ih (λb hb=>hs b (by unfold jX;rw[JD,hf];exact Qf _ hb)) hr⟩
 exact all X.outer (λ_ hb=>hb) I.ok.gO
theorem Inv.stack(I:Inv X Tk σ H s):s.heap.FunFrames X.base X.stack:=by
 rcases I.ok.yQ with e|⟨e,hf⟩
 ·rw[e];exact I.gO
 ·rw[e];obtain⟨m,hn,_⟩:=I.loc;refine .cons (by rw[I.ok.kind];decide) hf hn ?_ I.gO;exact Heap.get?_none_of_le (QJ I.ok.n4 I.ok.above)
theorem Inv.iX(I:Inv X Tk σ H s):∀ b∈jX X.stack,b∈X.env.locals::X.fs:=λb hb=>by
 rcases I.ok.yQ with e|⟨e,hf⟩
 ·rw[e]at hb;exact Qf _ hb
 ·rw[e]at hb;unfold jX at hb;rw[JD,hf]at hb;exact hb
theorem Inv.kJ(I:Inv X Tk σ H s):∀ b∈jX X.stack,H b=none:=λb hb=>by
 rcases Qs.mp (I.iX b hb)with e|hb
 ·rw[e];exact I.free
 ·obtain⟨_,o,ho,_⟩:=I.ok.gO.mem hb;exact I.base.free b o ho (I.ok.uh b hb) λz=>I.ok.mE b z hb
theorem Inv.step{g':Array GenState}{t':Nat}{d':Drawn}{ch:List Addr}(I:Inv X Tk σ H s)
  (n6:∀ b∈ch,(b∈X.ex\/X.cF.heap.objs.size<=b)/\b≠X.env.locals/\(∀ x c,X.env.cells.lookup x=some c->c≠b)/\∀ p∈X.pn++Tk,p.1≠b)
  (keep:∀ b o,b≠X.env.locals->b ∉ X.fs->b ∉ ch->s.heap.get? b=some o->H b=none->h'.get? b=some o)
  (slot:∀ b o,b≠X.env.locals->b∈X.fs->b ∉ ch->s.heap.get? b=some o->H b=none->∃ sl,h'.get? b=some { o with slots:=sl }) (free:∀ b o,b ∉ ch->s.heap.get? b=some o->H b=none->H' b=none)
  (there:∀ b o,b ∉ ch->s.heap.get? b=some o->∃ o',h'.get? b=some o')
  (iy:∀ b xs,H b=some (.tup xs)->H' b=some (.tup xs)) (gN:∀ b o u,H b=some (.ij o u)->H' b=some (.ij o u)) (iz:∀ b ps,H b=some (.iP ps)->∃ more,H' b=some (.iP (ps++more)))
  (ns:∀ m,s.heap.Ns X.env.locals m->h'.Ns X.env.locals m) (aG:dQ X.prog X.w H' h') (hg:AllBare g') :
  Inv X Tk σ H' { s with heap:=h',gens:=g',drawn:=d',toks:=t' }:=by
 have Fv:∀ b o,X.cF.heap.get? b=some o->b≠X.env.locals:=λb o e=>Q4 (QB (Qq e) I.ok.above);have yR:∀ b o,X.cF.heap.get? b=some o->b ∉ X.ex->b ∉ ch:=λb o e hx hb=>by
  rcases(n6 b hb).1 with z|z
  ·exact hx z
  ·exact absurd (QB (Qq e) z) (QT _)
 have cellK:∀ x c,X.env.cells.lookup x=some c->∀ v,s.heap.IsCell c v->h'.IsCell c v:=λx c e v aj=>by
  obtain⟨o,ho,hd⟩:=aj;have vN:c ∉ ch:=λz=>(n6 c z).2.2.1 x c e rfl;by_cases hc:c∈X.fs
  ·obtain⟨sl,q⟩:=slot c o (I.rM x c e) hc vN ho (I.dU x c e);exact⟨_,q,hd⟩
  ·exact⟨o,keep c o (I.rM x c e) hc vN ho (I.dU x c e),hd⟩
 refine⟨I.ok,I.os,hg,⟨λb o e n hb hx=>?_,λb o e n hb hx=>?_,λb o e n hx=>?_,λb o e hx=>?_,λb xs e=>iy b xs (I.base.iy b xs e),λb o xs e=>gN b o xs (I.base.gN b o xs e),λb ps e=>?_⟩,?_,λx c e=>?_,?_,λx c e=>?_,λp hp=>?_,aG,I.len⟩
 ·exact keep b o (Fv b o e) hb (yR b o e hx) (I.base.keep b o e n hb hx) (I.base.free b o e n hx)
 ·obtain⟨sl,e1⟩:=I.base.slot b o e n hb hx;obtain⟨Fw,e2⟩:=slot b _ (Fv b o e) hb (yR b o e hx) e1 (I.base.free b o e n hx);exact⟨Fw,e2⟩
 ·obtain⟨o',e1⟩:=I.base.there b o e hx;exact free b o' (yR b o e hx) e1 (I.base.free b o e n hx)
 ·obtain⟨o',e1⟩:=I.base.there b o e hx;exact there b o' (yR b o e hx) e1
 ·obtain⟨m1,e1⟩:=I.base.iz b ps e;obtain⟨m2,e2⟩:=iz b _ e1;exact⟨m1++m2,by rw[e2,Array.append_assoc]⟩
 ·obtain⟨m,hn,hl⟩:=I.loc;refine⟨m,ns m hn,λi x v e1 e2 e3=>?_⟩;obtain⟨u,r,l⟩:=hl i x v e1 e2 e3;refine⟨u,r,?_⟩;rcases l with l|⟨k,c,e,z⟩
  ·exact .inl l
  ·exact .inr ⟨k,c,e,cellK x c e _ z⟩
 ·obtain⟨v,z⟩:=I.cell x c e;exact⟨v,cellK x c e v z⟩
 ·obtain⟨m,⟨o,_,_,ho,_⟩,_⟩:=I.loc;exact free _ o (λz=>(n6 _ z).2.1 rfl) ho I.free
 ·obtain⟨v,o,ho,hd⟩:=I.cell x c e;exact free c o (λz=>(n6 c z).2.2.1 x c e rfl) ho (I.dU x c e)
 ·obtain⟨e,n,ne,nf,d⟩:=I.pin p hp;have vN:p.1 ∉ ch:=λz=>(n6 p.1 z).2.2.2 p hp rfl;exact⟨keep p.1 p.2 ne nf vN e n,free p.1 p.2 vN e n,ne,nf,d⟩
theorem Inv.un{t':Nat}(I:Inv X Tk σ H s)(u:Un X.fs [] H H' s.heap h')(aG:dQ X.prog X.w H' h'):Inv X Tk σ H' { s with heap:=h',toks:=t' }:=by
 obtain⟨m,⟨o,es,ep,ho,r⟩,_⟩:=id I.loc;obtain⟨sl,hL⟩:=u.any ho I.free (by simp);exact I.step (g':=s.gens) (d':=s.drawn) (ch:=[]) (λ_ z=>nomatch z) (λb o _ hb _ e n=>u.keep b o e n hb (by simp)) (λb o _ hb _ e n=>u.slot b o e n hb (by simp)) (λb o _ e n=>u.free b o e n (by simp)) (λb o _ e=>u.there b o e (by simp)) u.iy u.gN u.iz (λm' hm=>by obtain⟨o',jY,oY,fZ,r'⟩:=hm;rw[ho]at fZ;cases fZ;exact⟨_,jY,oY,hL,r'⟩) aG I.bare
theorem Inv.call{g':Array GenState}{t':Nat}{d':Drawn}{ch:List Addr}(I:Inv X Tk σ H s)(u:Un (jX X.stack) ch H H' s.heap h')(aG:dQ X.prog X.w H' h')(hg:AllBare g')
  (n6:∀ b∈ch,(b∈X.ex\/X.cF.heap.objs.size<=b)/\b≠X.env.locals/\(∀ x c,X.env.cells.lookup x=some c->c≠b)/\∀ p∈X.pn++Tk,p.1≠b) :
  Inv X Tk σ H' { s with heap:=h',gens:=g',drawn:=d',toks:=t' }:=by
 obtain⟨m,⟨o,es,ep,ho,r⟩,_⟩:=id I.loc;obtain⟨sl,hL⟩:=u.any ho I.free λz=>(n6 _ z).2.1 rfl;exact I.step (ch:=ch) n6 (λb o hL hb hc e n=>u.keep b o e n (λz=>(Qs.mp (I.iX b z)).elim hL hb) hc) (λb o _ _ hc e n=>u.any e n hc) (λb o hc e n=>u.free b o e n hc) (λb o hc e=>u.there b o e hc) u.iy u.gN u.iz (λm' hm=>by obtain⟨o',jY,oY,fZ,r'⟩:=hm;rw[ho]at fZ;cases fZ;exact⟨_,jY,oY,hL,r'⟩) aG hg
theorem Inv.turned{t':Nat}(I:Inv X Tk σ H s)(k:∀ b o,b≠it->s.heap.get? b=some o->h'.get? b=some o)(hn:H it=none)(hL:it≠X.env.locals)
  (h1:it∈X.ex\/X.cF.heap.objs.size<=it) (h2:∀ x c,X.env.cells.lookup x=some c->c≠it) (h3:∀ p∈X.pn++Tk,p.1≠it):Inv X Tk σ H { s with heap:=h',toks:=t' }:=by
 have vO:∀ b u,H b=some u->b≠it:=λb u e z=>by rw[z,hn]at e;cases e
 refine I.step (g':=s.gens) (d':=s.drawn) (ch:=[it]) (λb hb=>?_) (λb o _ _ hc e _=>k b o (λz=>hc (by simp[z])) e) (λb o _ _ hc e _=>⟨o.slots,k b o (λz=>hc (by simp[z])) e⟩) (λ_ _ _ _ n=>n)
  (λb o hc e=>⟨o,k b o (λz=>hc (by simp[z])) e⟩) (λ_ _ e=>e) (λ_ _ _ e=>e) (λb ps e=>⟨#[],by rw[e];simp⟩) (λm hm=>?_) (λb u e=>?_) I.bare
 ·have e:b=it:=by simpa using hb
  subst e;exact⟨h1,hL,h2,h3⟩
 ·obtain⟨o,es,ep,ho,r⟩:=hm;exact⟨o,es,ep,k _ o (Zm hL) ho,r⟩
 ·refine(I.aG b u e).ix (λc v hc q=>k c v ?_ q) (λ_ q=>q) λ_ _ q=>q;rcases hc with z|z
  ·rw[z];exact vO b u e
  ·exact vO c _ z
theorem Inv.tok(I:Inv X Tk σ H s)(t:Nat):Inv X Tk σ H { s with toks:=t }:=I.un (h':=s.heap) (t':=t) Un.refl I.aG
theorem Inv.kept{t':Nat}(I:Inv X Tk σ H s)(k:∀ b u,s.heap.get? b=some u->h'.get? b=some u):Inv X Tk σ H { s with heap:=h',toks:=t' }:=I.un (Un.kept k) (I.aG.kept k)
theorem Inv.laid{o:HO}{t':Nat}(I:Inv X Tk σ H s)(k:∀ b u,s.heap.get? b=some u->h'.get? b=some u)(hp:s.heap.objs.size<=a)(new:dA X.prog X.w (upd H a o) h' a o) :
  Inv X Tk σ (upd H a o) { s with heap:=h',toks:=t' }:=I.un (Un.laid k hp (I.aG.fresh hp)) (I.aG.laid k hp new)
theorem Inv.write{x e:Addr}{o:HO}{t':Nat}(I:Inv X Tk σ H s)(mu:vH (H x))(he:e=x\/H e=some (.own x))(k:∀ b u,b≠e->s.heap.get? b=some u->h'.get? b=some u)(uf:∃ u,h'.get? e=some u)
  (new:dA X.prog X.w (upd H x o) h' x o):Inv X Tk σ (upd H x o) { s with heap:=h',toks:=t' }:=I.un (Un.write mu he k uf) (I.aG.write mu he k uf new)
theorem Inv.weak{aO:List (Option V)}(I:Inv X Tk σ H s)(hl:aO.length=σ.length)(w:∀ (i:Nat) v,aO[i]? = some (some v)->σ[i]? = some (some v)):Inv X Tk aO H s:=
 ⟨I.ok,I.os,I.bare,I.base,let ⟨m,hn,kK⟩:=I.loc;⟨m,hn,λi x v e1 e2 e3=>kK i x v e1 (w i v e2) e3⟩,I.cell,I.free,I.dU,I.pin,I.aG,hl.trans I.len⟩
theorem Inv.gD{pins':List (Addr×Obj)}(I:Inv X Tk σ H s)(h:∀ p∈pins',s.heap.get? p.1=some p.2/\H p.1=none/\p.1≠X.env.locals/\p.1 ∉ X.fs/\∀ v,p.2.data ≠ .cell v):Inv X pins' σ H s:=
 ⟨I.ok,I.os,I.bare,I.base,I.loc,I.cell,I.free,I.dU,λp hp=>(QO.mp hp).elim (λz=>I.pin p (Q2 _ z)) (h p),I.aG,I.len⟩
theorem Fx(hN:N.Nodup)(a:N[i]? = some x)(b:N[j]? = some x):i=j:=by obtain⟨h1,e1⟩:=QN.mp a;obtain⟨h2,e2⟩:=QN.mp b;exact(List.getElem_inj hN).mp (e1.trans e2.symm)
theorem Fy{M:Model}{A:Around}{E:Tl}{v:V}(I:Inv X Tk σ H s)(hN:X.N.Nodup)(hi:X.N[i]? = some x)(hx:Loc X.env.scope x)(r:bP v u)
  (h:∀ s',Inv X Tk (σ.set i (some v)) H s'->(∃ a,Heap.SameBut a s.heap s'.heap/\(a=X.env.locals\/X.env.cells.lookup x=some a))->Q () s') (hf:X.fn x=true\/X.env.scope.names.lookup x=some .local:=by first|exact .inl rfl|exact .inr rfl|assumption):wpAny M A (storeName X.env x u) Q E s:=by
 obtain⟨m,hn,hl⟩:=id I.loc;have By:(X.env.scope.kind == .class||(X.env.scope.kind == .module&&X.env.locals != X.env.globals))=false:=by rw[I.ok.kind];rfl
 have vP:i<σ.length:=by rw[I.len];exact(QN.mp hi).1
 have rM:=I.rM;have tracked:∀ {a:Addr} {h':Heap},(∃ o,s.heap.get? a=some o/\H a=none)->Heap.SameBut a s.heap h'->dQ X.prog X.w H h':=λ{a h'} ha hs b ob e=>by
  obtain⟨_,_,qr⟩:=ha;refine(I.aG b ob e).ix (λc w' hc q=>(hs.2 c ?_).trans q) (λ_ q=>q) λ_ _ q=>q;rintro rfl;rcases hc with rfl|hc
  ·rw[qr]at e;cases e
  ·rw[qr]at hc;cases hc
 rcases hx with hk|hk
 ·refine wpAny_storeName_local hk hn (λh' Bz hs=>?_) By;obtain⟨oL,_,_,N2,_⟩:=id hn;refine h _ ⟨I.ok,I.os,I.bare,⟨λb o e n hb hx=>?_,λb o e n hb hx=>?_,I.base.free,λb o e hx=>?_,I.base.iy,I.base.gN,I.base.iz⟩,⟨_,Bz,λj y v' e1 e2 e3=>?_⟩,λy c e=>?_,I.free,I.dU,λp hp=>?_,tracked ⟨oL,N2,I.free⟩ hs,by simpa using I.len⟩ ⟨_,hs,.inl rfl⟩
  ·exact(hs.2 b (Q4 (QB (Qq e) I.ok.above))).trans (I.base.keep b o e n hb hx)
  ·obtain⟨sl,e1⟩:=I.base.slot b o e n hb hx;exact⟨sl,(hs.2 b (Q4 (QB (Qq e) I.ok.above))).trans e1⟩
  ·obtain⟨o',e1⟩:=I.base.there b o e hx;exact⟨o',(hs.2 b (Q4 (QB (Qq e) I.ok.above))).trans e1⟩
  ·by_cases hj:j=i
   ·subst hj;rw[hi]at e1;cases e1;rw[QZ vP]at e2;cases e2;exact⟨u,r,.inl ⟨hk,by simp⟩⟩
   ·rw[Q3 (Zm hj)]at e2;obtain⟨u',r',q⟩:=hl j y v' e1 e2 e3;refine⟨u',r',?_⟩;rcases q with⟨k,e⟩|⟨k,c,e,z⟩
    ·refine .inl ⟨k,?_⟩;have:y≠x:=λe=>hj (Fx hN e1 (e ▸ hi));simp[this,e]
    ·exact .inr ⟨k,c,e,z.sameBut hs (rM y c e)⟩
  ·obtain⟨w',z⟩:=I.cell y c e;exact⟨w',z.sameBut hs (rM y c e)⟩
  ·obtain⟨e,n,ne,nf,d⟩:=I.pin p hp;exact⟨(hs.2 p.1 ne).trans e,n,ne,nf,d⟩
 ·have BA:X.fn x=true:=by
   rcases hf with z|z
   ·exact z
   ·rw[z]at hk;cases hk
  obtain⟨c,hc⟩:=I.ok.has x (.inl hk);obtain⟨w',z⟩:=I.cell x c hc;refine wpAny_storeName_cell I.ok.kind hk hc z (λh' kL hs=>?_);obtain⟨oc,Fz,BB⟩:=id z;refine h { s with heap:=h' } ⟨I.ok,I.os,I.bare,⟨λb o e n hb hx=>?_,λb o e n hb hx=>?_,I.base.free,λb o e hx=>?_,I.base.iy,I.base.gN,I.base.iz⟩,⟨m,hn.sameBut hs (Zm (rM x c hc)),λj y v' e1 e2 e3=>?_⟩,λy c' e=>?_,I.free,I.dU,λp hp=>?_,tracked ⟨oc,Fz,I.dU x c hc⟩ hs,by simpa using I.len⟩ ⟨c,hs,.inr hc⟩
  ·exact(hs.2 b (Q4 (QB (Qq e) (I.ok.vK x c BA hc)))).trans (I.base.keep b o e n hb hx)
  ·obtain⟨sl,e1⟩:=I.base.slot b o e n hb hx;exact⟨sl,(hs.2 b (Q4 (QB (Qq e) (I.ok.vK x c BA hc)))).trans e1⟩
  ·obtain⟨o',e1⟩:=I.base.there b o e hx;exact⟨o',(hs.2 b (Q4 (QB (Qq e) (I.ok.vK x c BA hc)))).trans e1⟩
  ·by_cases hj:j=i
   ·subst hj;rw[hi]at e1;cases e1;rw[QZ vP]at e2;cases e2;exact⟨u,r,.inr ⟨.inl hk,c,hc,kL⟩⟩
   ·rw[Q3 (Zm hj)]at e2;obtain⟨u',r',q⟩:=hl j y v' e1 e2 e3;refine⟨u',r',?_⟩;rcases q with q|⟨k,c',e,z'⟩
    ·exact .inl q
    ·refine .inr ⟨k,c',e,z'.sameBut hs ?_⟩;rintro rfl;exact hj (Fx hN e1 (I.ok.inj _ _ _ e hc ▸ hi))
  ·by_cases ui:c'=c
   ·subst ui;exact⟨_,kL⟩
   ·obtain⟨w2,z2⟩:=I.cell y c' e;exact⟨w2,z2.sameBut hs ui⟩
  ·obtain⟨e,n,ne,nf,d⟩:=I.pin p hp;refine⟨(hs.2 p.1 ?_).trans e,n,ne,nf,d⟩;intro q;rw[q,Fz]at e;have q':oc=p.2:=QL e;exact d w' (by rw[<- q'];exact BB)
theorem FA{M:Model}{A:Around}{E:Tl}{v:V}(I:Inv X Tk σ H s)(hN:X.N.Nodup)(hi:X.N[i]? = some x)(hx:Loc X.env.scope x)(r:bP v u)
  (h:∀ s',Inv X Tk (σ.set i (some v)) H s'->Q () s') (hf:X.fn x=true\/X.env.scope.names.lookup x=some .local:=by first|exact .inl rfl|exact .inr rfl|assumption):wpAny M A (storeName X.env x u) Q E s:=
 Fy I hN hi hx r (λs' I' _=>h s' I') hf
theorem Inv.vQ{ch:List Addr}(I:Inv X Tk σ H s)(ho:s'.os=s.os)(u:Un (jX X.stack) ch H H' s.heap s'.heap)(aG:dQ X.prog X.w H' s'.heap)(hg:AllBare s'.gens)
  (n6:∀ b∈ch,(b∈X.ex\/X.cF.heap.objs.size<=b)/\b≠X.env.locals/\(∀ x c,X.env.cells.lookup x=some c->c≠b)/\∀ p∈X.pn++Tk,p.1≠b):Inv X Tk σ H' s':=by obtain⟨h',g',d',t',o'⟩:=s';have e:o'=s.os:=ho;subst e;exact I.call (g':=g') (t':=t') (d':=d') u aG hg n6
end
abbrev XK:=Value->Option Addr->Hp->Prop
abbrev St:=List (Option V)
abbrev VK:=V->Hp->Prop
abbrev TE:=St->Hp->VK->Prop
abbrev TT:=St->Hp->(Bool->Hp->Prop)->Prop
abbrev TA:=St->Hp->(List V->Hp->Prop)->Prop
structure Ends where
 nx:St->Hp->Prop
 rt:VK
 bk:St->Hp->Prop:=λ_ _=>False
 ct:St->Hp->Prop:=λ_ _=>False
abbrev TS:=Ends->St->Hp->Prop
def EP (X:Cx)(Tk:List (Addr×Obj))(σ:St)(Q:VK)(u:Value)(s':Shared):Prop:=∃ v H',Inv X Tk σ H' s'/\bP v u/\Q v H'
def TP (X:Cx)(Tk:List (Addr×Obj))(σ:St)(Q:Bool->Hp->Prop)(b:Bool)(s':Shared):Prop:=∃ H',Inv X Tk σ H' s'/\Q b H'
def AP (X:Cx)(Tk:List (Addr×Obj))(σ:St)(Q:List V->Hp->Prop)(us:List Value)(s':Shared):Prop:=∃ vs H',Inv X Tk σ H' s'/\bc vs us/\Q vs H'
def SP (X:Cx)(Tk:List (Addr×Obj))(D:Ends)(f:Flow)(s':Shared):Prop:=
 match f with
 | .next=>∃ aO H',Inv X Tk aO H' s'/\D.nx aO H'
 | .brk=>∃ aO H',Inv X Tk aO H' s'/\D.bk aO H'
 | .cont=>∃ aO H',Inv X Tk aO H' s'/\D.ct aO H'
 | .ret u=>∃ v aO H',Inv X Tk aO H' s'/\bP v u/\D.rt v H'
def PE (X:Cx)(e:Expr)(t:TE):Prop:=
 ∀ (Tk:List (Addr×Obj)) (s:Shared) (σ:St) (H:Hp) (Q:VK),Inv X Tk σ H s->t σ H Q->wpAny (model X.prog X.w) X.A (eval e X.env) (EP X Tk σ Q) X.xe s
structure QE (X:Cx) (e:Expr) (t:TE):Prop where mk::o:PE X e t
def PT (X:Cx)(e:Expr)(t:TT):Prop:=
 ∀ (Tk:List (Addr×Obj)) (s:Shared) (σ:St) (H:Hp) (Q:Bool->Hp->Prop),Inv X Tk σ H s->t σ H Q->wpAny (model X.prog X.w) X.A (isTrue e X.env (eval e X.env)) (TP X Tk σ Q) X.xe s
def PW (X:Cx)(e:Expr)(t:TT):Prop:=
 ∀ (whole:Sem Value) (Tk:List (Addr×Obj)) (s:Shared) (σ:St) (H:Hp) (Q:Bool->Hp->Prop),Inv X Tk σ H s->t σ H Q->wpAny (model X.prog X.w) X.A (isTrue e X.env whole) (TP X Tk σ Q) X.xe s
theorem PW.pt{X:Cx}{t:TT}(h:PW X e t):PT X e t:=h _
def PA (X:Cx)(es:List Expr)(t:TA):Prop:=
 ∀ (pos:Pos) (Tk:List (Addr×Obj)) (s:Shared) (σ:St) (H:Hp) (Q:List V->Hp->Prop),Inv X Tk σ H s->t σ H Q->wpAny (model X.prog X.w) X.A (spliced (backTo pos (starEach es X.env))) (AP X Tk σ Q) X.xe s
def PS (X:Cx)(st:Stmt)(t:TS):Prop:=
 ∀ (Tk:List (Addr×Obj)) (s:Shared) (σ:St) (H:Hp) (D:Ends),Inv X Tk σ H s->t D σ H->wpAny (model X.prog X.w) X.A (exec st X.env) (SP X Tk D) X.xe s
def iY (X:Cx)(st:List Stmt)(t:TS):Prop:=
 ∀ (Tk:List (Addr×Obj)) (s:Shared) (σ:St) (H:Hp) (D:Ends),Inv X Tk σ H s->t D σ H->wpAny (model X.prog X.w) X.A (execs st X.env) (SP X Tk D) X.xe s
theorem bg{α:Type}{t:Sem α}{Q Q':α->Shared->Prop}(h:wpAny M A t Q E s)(hQ:∀ a s,Q a s->Q' a s):wpAny M A t Q' E s:=ZR h hQ λ_ _ x=>x
section
variable {X:Cx}
def iZ (i:Nat):TE:=λσ H Q=>∃ v,σ[i]? = some (some v)/\Q v H
def tC (v:V):TE:=λ_ H Q=>Q v H
theorem N3{pos:Pos}(hN:X.N[i]? = some x)(hv:ug X.env.scope x)(hd:(x==("__debug__":Str))=false:=by decide)(i3:(x==("__classdict__":Str))=false:=by decide):PE X (.Name x pos) (iZ i):=by
 intro Tk s σ H Q I h;obtain⟨v,e,h⟩:=h;obtain⟨m,hn,hl⟩:=I.loc;obtain⟨u,r,l⟩:=hl i x v hN e hv;have fin:EP X Tk σ Q u s:=⟨v,H,I,r,h⟩;rcases l with⟨hk,hm⟩|⟨hk,c,hc,kM⟩
 ·exact wpAny_Name (wpAny_loadName_local I.ok.kind hk hn hm fin) hd
 ·rcases hk with hk|hk
  ·exact wpAny_Name (wpAny_loadName_cell I.ok.kind hk hc kM fin) hd
  ·exact wpAny_Name (wpAny_loadName_free I.ok.kind hk hc kM fin i3) hd
theorem BC{i j pos}:PE X (.Constant (.int i) j pos) (tC (.int i)):=λ_ _ _ H _ I h=>wpAny_Constant_int ⟨.int i,H,I.tok _,⟨_,rfl⟩,h⟩
theorem N4{b j pos}:PE X (.Constant (.bool b) j pos) (tC (.bl b)):=λ_ _ _ H _ I h=>Constant_bool ⟨.bl b,H,I,rfl,h⟩
theorem N5{j pos}:PE X (.Constant .none j pos) (tC .bK):=λ_ _ _ H _ I h=>Constant_none ⟨.bK,H,I,rfl,h⟩
theorem BD{x j pos}:PE X (.Constant (.str x) j pos) (tC (.str x)):=λ_ _ _ H _ I h=>Calls.Constant_str ⟨.str x,H,I.tok _,⟨_,rfl⟩,h⟩
def Gl (X:Cx)(x:Str):Prop:=X.env.kindOf x=some .globalImplicit
theorem N6{E:Tl}{σ:St}{H:Hp}{pos:Pos}{Q:Tl}(I:Inv X Tk σ H s)(hg:Gl X x)(hm:X.mg x=some u)(h:Q u s)
  (hd:(x==("__debug__":Str))=false:=by decide):wpAny (model X.prog X.w) X.A (eval (.Name x pos) X.env) Q E s:=
 Y7 I.ok.kind hg (Calls.loadGlobal_global (by rw[I.ok.glob];exact I.mod.glob.keeps I.bk) hm h) hd
theorem uj{E:Tl}{σ:St}{H:Hp}{pos:Pos}{Q:Tl}(I:Inv X Tk σ H s)(hg:Gl X x)(hm:X.mg x=none)(hv:bootBuiltins x=some u)(h:Q u s)
  (hn:x ≠ "__name__":=by decide) (hd:(x==("__debug__":Str))=false:=by decide):wpAny (model X.prog X.w) X.A (eval (.Name x pos) X.env) Q E s:=by obtain⟨mb,h1,h2⟩:=I.mod.blt;exact Y7 I.ok.kind hg (Calls.loadGlobal_builtin (by rw[I.ok.glob];exact I.mod.glob.keeps I.bk) hm (by rw[I.ok.blt];exact h1.keeps I.bk) ((h2 x hn).trans hv) h) hd
theorem N7{v:V}{pos:Pos}(hg:Gl X x)(hm:X.mg x=none)(hv:bootBuiltins x=some u)(r:bP v u)(hn:x ≠ "__name__":=by decide)(hd:(x==("__debug__":Str))=false:=by decide):PE X (.Name x pos) (tC v):=
 λ_ _ _ H _ I h=>uj I hg hm hv ⟨v,H,I,r,h⟩ hn hd
variable {a b:Expr}{ta tb:TE}{pos:Pos}
variable {tA yS:TT}{bp:List Expr}
def N8 (t u:TT):TT:=λσ H Q=>t σ H λc H1=>if c=true then u σ H1 Q else Q false H1
def N9 (t u:TT):TT:=λσ H Q=>t σ H λc H1=>if c=true then Q true H1 else u σ H1 Q
def N_ (t:TT):TT:=λσ H Q=>t σ H λc H1=>Q (!c) H1
theorem Oa(ha:PT X a tA):PW X (.BoolOp .And [a] pos) tA:=by
 intro wh Tk s σ H Q I h;refine isTrue_and (bg (ha Tk s σ H Q I h) λc s1 e=>?_);cases c with
 | true=>exact isTrue_and_nil e
 | false=>exact e
theorem Ob(ha:PT X a tA):PW X (.BoolOp .Or [a] pos) tA:=by
 intro wh Tk s σ H Q I h;refine isTrue_or (bg (ha Tk s σ H Q I h) λc s1 e=>?_);cases c with
 | false=>exact isTrue_or_nil e
 | true=>exact e
theorem Oc(ha:PT X a tA)(hb:PW X (.BoolOp .And (b::bp) pos) yS):PW X (.BoolOp .And (a::b::bp) pos) (N8 tA yS):=by
 intro wh Tk s σ H Q I h;refine isTrue_and (bg (ha Tk s σ H _ I h) λc s1 aj=>?_);obtain⟨H1,I1,q1⟩:=aj;cases c with
 | true=>exact hb wh Tk s1 σ H1 Q I1 q1
 | false=>exact⟨H1,I1,q1⟩
theorem Od(ha:PT X a tA)(hb:PW X (.BoolOp .Or (b::bp) pos) yS):PW X (.BoolOp .Or (a::b::bp) pos) (N9 tA yS):=by
 intro wh Tk s σ H Q I h;refine isTrue_or (bg (ha Tk s σ H _ I h) λc s1 aj=>?_);obtain⟨H1,I1,q1⟩:=aj;cases c with
 | true=>exact⟨H1,I1,q1⟩
 | false=>exact hb wh Tk s1 σ H1 Q I1 q1
theorem Oe(ha:PT X a tA):PT X (.UnaryOp .Not a pos) (N_ tA):=by intro Tk s σ H Q I h;exact isTrue_not (ha Tk s σ H (λc H1=>Q (!c) H1) I h)
def Of (ta tb:TE):TE:=λσ H Q=>ta σ H λx H1=>∃ c,x=.bl c/\if c=true then tb σ H1 Q else Q (.bl false) H1
def Og (ta:TE):TE:=λσ H Q=>ta σ H λx H1=>∃ c,x=.bl c/\Q (.bl (!c)) H1
theorem Oh{op}{t:TE}(h:PE X a t):PE X (.BoolOp op [a] pos) t:=λTk s σ H Q I hw=>BoolOp_one (h Tk s σ H Q I hw)
theorem Oi(ha:PE X a ta)(hb:PE X (.BoolOp .And (b::bp) pos) tb):PE X (.BoolOp .And (a::b::bp) pos) (Of ta tb):=by
 intro Tk s σ H Q I h;refine BoolOp_and (bg (ha Tk s σ H _ I h) λv s1 aj=>?_);obtain⟨x,H1,I1,r1,q1⟩:=aj;obtain⟨c,rfl,q1⟩:=q1;cases r1;refine Z9 ?_;cases c with
 | true=>exact hb Tk s1 σ H1 Q I1 q1
 | false=>exact⟨.bl false,H1,I1,rfl,q1⟩
theorem Oj(ha:PE X a ta):PE X (.UnaryOp .Not a pos) (Og ta):=by intro Tk s σ H Q I h;refine UnaryOp_ (bg (ha Tk s σ H _ I h) λv s1 aj=>?_);obtain⟨x,H1,I1,r1,q1⟩:=aj;obtain⟨c,rfl,q1⟩:=q1;cases r1;exact not_of (Z9 ⟨.bl (!c),H1,I1,rfl,q1⟩)
def Ol (t:TT)(ta tb:TE):TE:=λσ H Q=>t σ H λc H1=>if c=true then ta σ H1 Q else tb σ H1 Q
theorem Om(hc:PT X c tA)(ha:PE X a ta)(hb:PE X b tb):PE X (.IfExp c a b pos) (Ol tA ta tb):=by
 intro Tk s σ H Q I h;refine wpAny_IfExp (bg (hc Tk s σ H _ I h) λd s1 aj=>?_);obtain⟨H1,I1,q1⟩:=aj;cases d with
 | true=>exact ha Tk s1 σ H1 Q I1 q1
 | false=>exact hb Tk s1 σ H1 Q I1 q1
end
def cW (K:PySem.W.Frag)(H:Hp)(a:Addr)(xs:List V):Prop:=
 Rd H a (.lst xs) \/
  ∃ (o:Obj) (aq:Array Value) (n:Nat),K.lookup a=some o/\o.cls=.type "list" /\ o.dict=none/\o.data=.seq aq n/\aq.size<=sizeLine/\bc xs aq.toList
def cG (K:PySem.W.Frag)(H:Hp)(a:Addr)(xs:List V):Prop:=
 Rd H a (.tup xs) \/
  ∃ (o:Obj) (aq:Array Value) (n:Nat),K.lookup a=some o/\o.cls=.type "tuple" /\ o.data=.seq aq n/\aq.size<=sizeLine/\bc xs aq.toList
def Oo:Value->Option V
 | .none=>some .bK
 | .bool b=>some (.bl b)
 | .int i _=>some (.int i)
 | .str x _=>some (.str x)
 | .bytes b _=>some (.vG b)
 | .float b _=>some (.ue b)
 | .ref a=>some (.ref a)
 | .type n=>some (.ty n)
 | _=>none
theorem bP.abs{x:V}(r:bP x u):Oo u=some x:=by
 cases x with
 | bK=>cases r;rfl
 | bl _=>cases r;rfl
 | int _=>obtain⟨t,rfl⟩:=r;rfl
 | str _=>obtain⟨t,rfl⟩:=r;rfl
 | vG _=>obtain⟨t,rfl⟩:=r;rfl
 | ue _=>obtain⟨t,rfl⟩:=r;rfl
 | ref _=>cases r;rfl
 | ty _=>cases r;rfl
theorem bP.inj{x y:V}(r:bP x u)(q:bP y u):x=y:=QL (r.abs.symm.trans q.abs)
theorem bc.inj:∀ {xs ys:List V} {us:List Value},bc xs us->bc ys us->xs=ys
 | _,_,_,.nil,.nil=>rfl
 | _,_,_,.cons r t,.cons r' t'=>by rw[r.inj r',bc.inj t t']
section
variable {X:Cx}{Tk:List (Addr×Obj)}{σ:St}{H:Hp}{s:Shared}{a:Addr}{xs ys:List V}
theorem cW.of(h:H a=some (.lst xs)):cW K H a xs:=.inl (.inl h)
theorem cG.of(h:H a=some (.tup xs)):cG K H a xs:=.inl (.inl h)
theorem Inv.list(I:Inv X Tk σ H s)(h:cW X.K H a xs):∃ aq:List Value,bc xs aq/\PlainL s.heap a aq.toArray/\xs.length<=sizeLine:=by
 rcases h with h|⟨o,aq,n,hk,hc,hd,hs,hz,r⟩
 ·obtain⟨z,aq,n,r,e⟩:=h.ok I.aG;exact⟨aq,r,⟨_,n,e,rfl,rfl,rfl⟩,z⟩
 ·refine⟨aq.toList,r,⟨o,n,I.iA a o hk,hc,hd,by simpa using hs⟩,?_⟩;have e:=r.length;simp only[QA]at e;omega
theorem Inv.tuple(I:Inv X Tk σ H s)(h:cG X.K H a xs):∃ aq:List Value,bc xs aq/\IsTup s.heap a aq.toArray/\xs.length<=sizeLine:=by
 rcases h with h|⟨o,aq,n,hk,hc,hs,hz,r⟩
 ·obtain⟨z,aq,r,p⟩:=h.ok I.aG;exact⟨aq,r,p.tup,z⟩
 ·refine⟨aq.toList,r,⟨o,I.iA a o hk,hc,n,by simpa using hs⟩,?_⟩;have e:=r.length;simp only[QA]at e;omega
theorem Inv.jD(I:Inv X Tk σ H s)(h:cW X.K H a xs)(h':cW X.K H a ys):xs=ys:=by
 obtain⟨aq,r,⟨o,n,e,_,_,d⟩,_⟩:=I.list h;obtain⟨its',r',⟨o',n',e',_,_,d'⟩,_⟩:=I.list h';rw[e]at e';cases e';rw[d]at d';injection d' with d1 _;have:aq=its':=by simpa using ZD Array.toList d1
 subst this;exact r.inj r'
theorem Inv.fE(I:Inv X Tk σ H s)(h:cG X.K H a xs)(h':cG X.K H a ys):xs=ys:=by
 obtain⟨aq,r,⟨o,e,_,n,d⟩,_⟩:=I.tuple h;obtain⟨its',r',⟨o',e',_,n',d'⟩,_⟩:=I.tuple h';rw[e]at e';cases e';rw[d]at d';injection d' with d1 _;have:aq=its':=by simpa using ZD Array.toList d1
 subst this;exact r.inj r'
end
abbrev Cx.iB (X:Cx)(E:Tl):Cx:={ X with xe:=E }
abbrev Cx.n8 (X:Cx):Cx:=X.iB λ_ _=>False
theorem Cx.Ok.iB{X:Cx}(ok:X.Ok)(E:Tl):(X.iB E).Ok:=
 ⟨ok.mod,ok.kind,ok.glob,ok.blt,ok.above,ok.inj,ok.has,ok.vK,ok.hd,ok.frames,ok.yQ,ok.Bw,ok.bs,ok.n4,ok.mD,ok.mE,ok.gO,ok.uh⟩
theorem Cx.Ok.dW{X:Cx}(ok:(X.iB E).Ok):X.Ok:=
 ⟨ok.mod,ok.kind,ok.glob,ok.blt,ok.above,ok.inj,ok.has,ok.vK,ok.hd,ok.frames,ok.yQ,ok.Bw,ok.bs,ok.n4,ok.mD,ok.mE,ok.gO,ok.uh⟩
section
variable {X:Cx}{Tk:List (Addr×Obj)}{σ:St}{H:Hp}{s:Shared}{E:Tl}
theorem Inv.iB(I:Inv X Tk σ H s)(E:Tl):Inv (X.iB E) Tk σ H s:=⟨I.ok.iB E,I.os,I.bare,I.base,I.loc,I.cell,I.free,I.dU,I.pin,I.aG,I.len⟩
theorem Inv.dW(I:Inv (X.iB E) Tk σ H s):Inv X Tk σ H s:=⟨I.ok.dW,I.os,I.bare,I.base,I.loc,I.cell,I.free,I.dU,I.pin,I.aG,I.len⟩
theorem SP.dW{D:Ends}{f:Flow}(h:SP (X.iB E) Tk D f s'):SP X Tk D f s':=by
 cases f with
 | next=>obtain⟨aO,H',I,q⟩:=h;exact⟨aO,H',I.dW,q⟩
 | brk=>obtain⟨aO,H',I,q⟩:=h;exact⟨aO,H',I.dW,q⟩
 | cont=>obtain⟨aO,H',I,q⟩:=h;exact⟨aO,H',I.dW,q⟩
 | ret u=>obtain⟨v,aO,H',I,r,q⟩:=h;exact⟨v,aO,H',I.dW,r,q⟩
theorem iY.n8{st:List Stmt}{t:TS}(h:iY X.n8 st t):iY X st t:=λTk s σ H D I hw=>
 ZR (h Tk s σ H D (I.iB _) hw) (λ_ _ q=>q.dW) λ_ _ z=>False.elim z
end
section
variable {X:Cx}{st:Stmt}{bp:List Stmt}{t u:TS}{e:Expr}{te:TE}{pos:Pos}
def Oq:TS:=λD σ H=>D.nx σ H
def Ot (t u:TS):TS:=λD σ H=>t { D with nx:=u D } σ H
theorem Ou:iY X [] Oq:=λ_ _ σ H _ I h=>YQ ⟨σ,H,I,h⟩
theorem Ov(h1:PS X st t)(h2:iY X bp u):iY X (st::bp) (Ot t u):=by
 intro Tk s σ H D I h;refine wpAny_execs_cons (bg (h1 Tk s σ H { D with nx:=u D } I h) λf s1 q=>?_);cases f with
 | next=>
  obtain⟨aO,H',I',q⟩:=q;exact h2 Tk s1 aO H' D I' q
 | ret v=>exact q
 | brk=>exact q
 | cont=>exact q
theorem Ox(h1:PS X st t):iY X [st] t:=by
 intro Tk s σ H D I h;refine wpAny_execs_cons (bg (h1 Tk s σ H D I h) λf s1 q=>?_);cases f with
 | next=>exact YQ q
 | ret v=>exact q
 | brk=>exact q
 | cont=>exact q
def Oy:TS:=λD σ H=>D.bk σ H
theorem Oz:PS X (.Break pos) Oy:=λ_ _ σ H _ I h=>wpAny_Break ⟨σ,H,I,h⟩
theorem Inv.quiet{σ:St}{H:Hp}(I:Inv X Tk σ H s):interactive X.env=false:=by simp[interactive,I.ok.kind]
def OA (te:TE):TS:=λD σ H=>te σ H λ_ H1=>D.nx σ H1
theorem OB(he:PE X e te)(hs:swapsWith e none pos.line X.env=pure false:=by rfl):PS X (.Expr e pos) (OA te):=by intro Tk s σ H D I h;exact wpAny_Expr_any (bg (he Tk s σ H _ I h) λv s1 ⟨x,H1,I1,r1,q1⟩=>⟨σ,H1,I1,q1⟩) I.quiet hs
def OC (te:TE):TS:=λD σ H=>te σ H D.rt
theorem OE(he:PE X e te):PS X (.Return (some e) pos) (OC te):=by intro Tk s σ H D I h;exact wpAny_Return_some (bg (he Tk s σ H _ I h) λv s1 ⟨x,H1,I1,r1,q1⟩=>⟨x,σ,H1,I1,r1,q1⟩)
def OF (c:TT)(t u:TS):TS:=λD σ H=>c σ H λb H1=>if b=true then t D σ H1 else u D σ H1
theorem OG{a b:List Stmt}{tc:TT}(hc:PT X c tc)(ha:iY X a t)(hb:iY X b u):PS X (.If c a b pos) (OF tc t u):=by
 intro Tk s σ H D I h;refine wpAny_If (bg (hc Tk s σ H _ I h) λd s1 aj=>?_);obtain⟨H1,I1,q1⟩:=aj;cases d with
 | true=>exact ha Tk s1 σ H1 D I1 q1
 | false=>exact hb Tk s1 σ H1 D I1 q1
def OH:TS:=λ_ _ _=>False
theorem OI:PS X st OH:=λ_ _ _ _ _ _ h=>h.elim
end
abbrev TG:=V->St->Hp->(St->Hp->Prop)->Prop
abbrev oZ:=List V->St->Hp->(St->Hp->Prop)->Prop
def PG (X:Cx)(target:Expr)(t:TG):Prop:=
 ∀ (Tk:List (Addr×Obj)) (s:Shared) (σ:St) (H:Hp) (v:V) (u:Value) (Q:St->Hp->Prop),Inv X Tk σ H s->bP v u->t v σ H Q->
  wpAny (model X.prog X.w) X.A (assign target X.env u) (λ_ s'=>∃ aO H',Inv X Tk aO H' s'/\Q aO H') X.xe s
def n9 (X:Cx)(ts:List Expr)(t:oZ):Prop:=
 ∀ (Tk:List (Addr×Obj)) (s:Shared) (σ:St) (H:Hp) (vs:List V) (us:List Value) (Q:St->Hp->Prop),Inv X Tk σ H s->bc vs us->t vs σ H Q->
  wpAny (model X.prog X.w) X.A (assignInOrder ((assignEach ts X.env).map (·.2)) us) (λ_ s'=>∃ aO H',Inv X Tk aO H' s'/\Q aO H') X.xe s
abbrev BE:=V->V->V->Hp->(Hp->Prop)->Prop
def FC (X:Cx)(t:BE):Prop:=
 ∀ (Tk:List (Addr×Obj)) (s:Shared) (σ:St) (H:Hp) (o i v:V) (ov iv u:Value) (Q:Hp->Prop),Inv X Tk σ H s->bP o ov->bP i iv->bP v u->t o i v H Q->
  wpAny (model X.prog X.w) X.A (setItem ov iv u) (λ_ s'=>∃ H',Inv X Tk σ H' s'/\Q H') X.xe s
section
variable {X:Cx}{pos:Pos}
def BF (i:Nat):TG:=λv σ H Q=>Q (σ.set i (some v)) H
theorem OJ(hN:X.N.Nodup)(hi:X.N[i]? = some x)(hx:Loc X.env.scope x)(hf:X.fn x=true\/X.env.scope.names.lookup x=some .local:=by first|exact .inl rfl|exact .inr rfl|assumption):PG X (.Name x pos) (BF i):=by intro Tk s σ H v u Q I r h;exact wpAny_assign_Name (FA I hN hi hx r (λs' I'=>⟨_,H,I',h⟩) hf)
def OL:oZ:=λvs σ H Q=>vs=[]/\Q σ H
def OM (t:TG)(u:oZ):oZ:=λvs σ H Q=>∃ v r,vs=v::r/\t v σ H λaO H'=>u r aO H' Q
theorem ON:n9 X [] OL:=by intro Tk s σ H vs us Q I r h;obtain⟨e,h⟩:=h;subst e;cases r;exact assignInOrder_nil ⟨σ,H,I,h⟩
theorem OO{t:TG}{u:oZ}(h1:PG X e t)(h2:n9 X es u)
  (hs:(assignEach (e::es) X.env).map (·.2)=assign e X.env::(assignEach es X.env).map (·.2):=by rfl):n9 X (e::es) (OM t u):=by
 intro Tk s σ H vs us Q I r h;obtain⟨v,vr,e1,h⟩:=h;subst e1;cases r with
 | cons r rr=>
  rw[hs];refine assignInOrder_cons (bg (h1 Tk s σ H _ _ _ I r h) λ_ s1 aj=>?_);obtain⟨rN,H1,I1,q1⟩:=aj;exact h2 Tk s1 rN H1 _ _ Q I1 rr q1
def OP (K:PySem.W.Frag)(n:Nat)(t:oZ):TG:=λv σ H Q=>∃ a xs,v=.ref a/\cG K H a xs/\xs.length=n/\t xs σ H Q
theorem OQ{k:Nat}{t:oZ}(hc:X.calm=true)(h:n9 X es t)
  (hn:(assignEach es X.env).length=n:=by rfl) (ik:(assignEach es X.env).findIdx? (·.1)=none:=by rfl):PG X (.Tuple es k pos) (OP X.K n t):=by intro Tk s σ H v u Q I r hw;obtain⟨a,xs,e1,hq,hl,hw⟩:=hw;subst e1;cases r;obtain⟨aq,rv,ht,hz⟩:=I.tuple hq;refine assign_Tuple_tuple (I.ok.hd hc) ht (by simp[hn,<- hl,rv.length]) ik λh' hx=>?_;have I1:Inv X Tk σ H { s with heap:=h' }:=I.kept (t':=s.toks) λb o e=>hx b o (Q4 (Qq e)) e;exact h Tk _ σ H xs _ Q I1 (by simpa using rv) hw
def OR (to ti:TE)(t:BE):TG:=λv σ H Q=>to σ H λo H1=>ti σ H1 λi H2=>t o i v H2 λH3=>Q σ H3
theorem OS{o i:Expr}{to ti:TE}{t:BE}(ho:PE X o to)(hi:PE X i ti)(hs:FC X t)
  (ha:∀ v,assign (.Subscript o i pos) X.env v=(do
    let ov <- holding [v] (eval o X.env)
    let iv <- holding [v,ov] (eval i X.env)
    standAt pos
    holding [v,ov,iv] (setItem ov iv v)
    release [v,ov,iv] []):=by intro _;rfl):PG X (.Subscript o i pos) (OR to ti t):=by intro Tk s σ H v u Q I r h;rw[ha];refine Qa (Zc (bg (ho Tk s σ H _ I h) λov s1 aj=>?_));obtain⟨x,H1,I1,r1,q1⟩:=aj;refine Qa (Zc (bg (hi Tk s1 σ H1 _ I1 q1) λiv s2 aj=>?_));obtain⟨y,H2,I2,r2,q2⟩:=aj;refine Qa (wpAny_standAt (Qa (Zc (bg (hs Tk s2 σ H2 x y v ov iv u _ I2 r1 r2 r q2) λ_ s3 aj=>?_))));obtain⟨H3,I3,q3⟩:=aj;exact wpAny_release ⟨σ,H3,I3,q3⟩
def BG (te:TE)(g:TG):TS:=λD σ H=>te σ H λx H1=>g x σ H1 D.nx
theorem OT{te:TE}{g:TG}(he:PE X e te)(hg:PG X tg g)(hs:swapsWithSole [tg] e pos.line X.env=pure false:=by rfl)(hw:swappedStores [tg] e X.env=pure none:=by rfl)
  (h1:(assignEach [tg] X.env).map (·.2)=[assign tg X.env]:=by rfl):PS X (.Assign [tg] e pos) (BG te g):=by intro Tk s σ H D I h;refine wpAny_Assign_stores (bg (he Tk s σ H _ I h) λv s1 ⟨x,H1,I1,r1,q1⟩=>?_) hs hw;rw[h1];exact bg (hg Tk s1 σ H1 x v _ I1 r1 q1) λ_ s2 q=>q
theorem OU{te:TE}{pos':Pos}(hN:X.N.Nodup)(hi:X.N[i]? = some x)(hx:Loc X.env.scope x)(he:PE X e te)(hs:swapsWith e (some (.Name x pos')) pos.line X.env=pure false:=by rfl)(hf:X.fn x=true\/X.env.scope.names.lookup x=some .local:=by first|exact .inl rfl|exact .inr rfl|assumption) :
  PS X (.Assign [.Name x pos'] e pos) (BG te (BF i)):=by intro Tk s σ H D I h;refine wpAny_Assign_Name (bg (he Tk s σ H _ I h) λv s1 ⟨y,H1,I1,r1,q1⟩=>?_) hs;exact FA I1 hN hi hx r1 (λs2 I2=>⟨_,H1,I2,q1⟩) hf
def OV (c:TT)(tb:TS):TS:=λD σ H=>∃ W:Nat->St->Hp->Prop,(∃ m,W m σ H)/\∀ m σ H,W m σ H->
 c σ H λb H1=>if b=true then ∃ N:St->Hp->Prop,(∀ aO H',N aO H'->∃ m',m'<m/\W m' aO H')/\tb { D with nx:=N,ct:=N,bk:=D.nx } σ H1 else D.nx σ H1
theorem OW{tc:TT}{tb:TS}(hp:PassesOwn (model X.prog X.w) X.A X.env X.xe)(hc:PT X c tc)(hb:iY X body tb):PS X (.While c body [] pos) (OV tc tb):=by
 intro Tk s σ H D I h;obtain⟨W,⟨m0,w0⟩,turn⟩:=h;refine wpAny_While (codeAny_whileLoop (λn s'=>∃ aO H',Inv X Tk aO H' s'/\W n aO H') ?_ m0 ⟨σ,H,I,w0⟩);rintro n s1 ⟨rN,H1,I1,w1⟩;refine Jq hp (bg (hc Tk s1 rN H1 _ I1 (turn n rN H1 w1)) λb s2 aj=>?_);obtain⟨H2,I2,q2⟩:=aj;cases b with
 | true=>
  obtain⟨N,hN,q2⟩:=q2;rw[Qi rfl];refine Jq hp (bg (hb Tk s2 rN H2 _ I2 q2) λf s3 q3=>?_);cases f with
  | next=>
   obtain⟨mG,H3,I3,n3⟩:=q3;obtain⟨m',hm,w3⟩:=hN mG H3 n3;exact⟨m',hm,mG,H3,I3,w3⟩
  | cont=>
   obtain⟨mG,H3,I3,n3⟩:=q3;obtain⟨m',hm,w3⟩:=hN mG H3 n3;exact⟨m',hm,mG,H3,I3,w3⟩
  | brk=>exact q3
  | ret v=>exact q3
 | false=>
  rw[Ql Zp];exact YQ ⟨rN,H2,I2,q2⟩
end
structure It where
 go:Nat->Hp->Prop
 rO:Nat->Hp->V->Hp->Prop
 stop:Nat->Hp->Prop
def mH (X:Cx)(Tk:List (Addr×Obj))(H:Hp)(b:Addr):Prop:=
 H b=none/\b≠X.env.locals/\b ∉ X.fs/\(b∈X.ex\/X.cF.heap.objs.size<=b)/\(∀ x c,X.env.cells.lookup x=some c->c≠b)/\∀ p∈X.pn++Tk,p.1≠b
theorem Inv.o5{X:Cx}{σ:St}{H H':Hp}(I:Inv X Tk σ H s)(hb:s.heap.objs.size<=b)(hn:H' b=none):mH X Tk H' b:=by
 refine⟨hn,Y2 (QB I.lt hb),I.vM hb,.inr (QJ I.sz hb),λx c e z=>?_,λp hp z=>?_⟩
 ·obtain⟨v,q⟩:=I.cell x c e;exact absurd (QB q.lt (by rw[z];exact hb)) (QT _)
 ·exact absurd (QB (Qq (I.pin p hp).1) (by rw[z];exact hb)) (QT _)
structure Turn (P:Program) (w:World) (K:PySem.W.Frag) (tg:Expr) (J:It) (fp:List Addr) (it:Addr) (tn:Nat->Heap->Prop):Prop where
 mem:it∈fp
 obj:∀ i h,tn i h->∀ b∈fp,∃ o,h.get? b=some o/\∀ v,o.data ≠ .cell v
 keep:∀ i h h',tn i h->(∀ b∈fp,∀ o,h.get? b=some o->h'.get? b=some o)->tn i h'
 item:∀ (X:Cx),X.prog=P->X.w=w->X.K=K->X.calm=true->∀ (i:Nat) (Tk:List (Addr×Obj)) (s:Shared) (σ:St) (H:Hp) (E:Tl),Inv X Tk σ H s->(∀ b∈fp,mH X Tk H b)->tn i s.heap->J.go i H->
  wpAny (model P w) X.A (pyNext (.ref it)) (λr s1=>∃ u,r=some u /\
   wpAny (model P w) X.A (letOwnedTupleGo tg (.ref it) u) (λ_ s2=>∃ x H',Inv X Tk σ H' s2/\bP x u/\J.rO i H x H'/\tn (i+1) s2.heap/\∀ b∈fp,H' b=none) E s1) E s
 done:∀ (X:Cx),X.prog=P->X.w=w->X.K=K->X.calm=true->∀ (i:Nat) (Tk:List (Addr×Obj)) (s:Shared) (σ:St) (H:Hp) (E:Tl),Inv X Tk σ H s->(∀ b∈fp,mH X Tk H b)->tn i s.heap->J.stop i H->
  wpAny (model P w) X.A (pyNext (.ref it)) (λr s1=>r=none/\Inv X Tk σ H s1) E s
 self:∀ (A:Around) (i:Nat) (s:Shared) (Q:Tl) (E:Tl),tn i s.heap->Q (.ref it) s->wpAny (model P w) A (pyIter (.ref it)) Q E s
abbrev TI:=St->Hp->(It->Hp->Prop)->Prop
def FD (X:Cx)(Tk:List (Addr×Obj))(σ:St)(tg:Expr)(R:It->Hp->Prop)(yT:Value)(s2:Shared):Prop:=
 ∃ (it:Addr) (fp:List Addr) (tn:Nat->Heap->Prop) (J:It) (H':Hp),yT=.ref it/\Inv X Tk σ H' s2/\Turn X.prog X.w X.K tg J fp it tn/\tn 0 s2.heap/\(∀ b∈fp,mH X Tk H' b)/\R J H'
def PI (X:Cx)(tg iter:Expr)(wi:TI):Prop:=
 ∀ (Tk:List (Addr×Obj)) (s:Shared) (σ:St) (H:Hp) (R:It->Hp->Prop),Inv X Tk σ H s->wi σ H R->
  wpAny (model X.prog X.w) X.A (eval iter X.env) (λv s1=>wpAny (model X.prog X.w) X.A (pyIter v) (FD X Tk σ tg R) X.xe s1) X.xe s
theorem BH{n:String}{vs:Array Value}(ho:s.heap.get? it=some o)(hc:o.cls=.type n)(hd:o.data=.fields vs)
  (hn:["enumerate","zip","dict_itemiterator","dict_reverseitemiterator","odict_iterator","itertools.zip_longest","itertools.pairwise"].contains n=false) (hQ:Q () s):wpAny M A (letOwnedTupleGo tg (.ref it) u) Q E s:=by
 unfold letOwnedTupleGo;cases tg<;>first
  | exact Qe hQ
  | (cases u<;>first
      | exact Qe hQ
      | (refine Qa (wpAny_load ho ?_)
         rw[hc,hd];show wpAny M A (if(["enumerate","zip","dict_itemiterator","dict_reverseitemiterator","odict_iterator","itertools.zip_longest","itertools.pairwise"].contains n&&vs[0]? == some (rawInt _))=true then _ else _) Q E s;rw[Ql (by intro h;rw[hn,Bool.false_and]at h;cases h)];exact Qe hQ))
def BI (K:PySem.W.Frag)(a:Addr):It:=
 ⟨λi H=>∃ xs x,cW K H a xs/\xs[i]? = some x,λi H x H'=>H'=H/\∀ xs,cW K H a xs->xs[i]? = some x,λi H=>∃ xs,cW K H a xs/\xs.length<=i⟩
def BJ (K:PySem.W.Frag)(a:Addr):It:=
 ⟨λi H=>∃ xs x,cG K H a xs/\xs[i]? = some x,λi H x H'=>H'=H/\∀ xs,cG K H a xs->xs[i]? = some x,λi H=>∃ xs,cG K H a xs/\xs.length<=i⟩
def yU (lo:Int)(n:Nat):It:=⟨λi _=>i<n,λi H x H'=>H'=H/\x=.int (lo+i),λi _=>n<=i⟩
theorem OY(a it:Addr):Turn P w K tg (BI K a) [it] it (λi h=>h.IsListIter it a i) where
 mem:=by simp
 obj:=λi h st b hb=>by
  have e:b=it:=by simpa using hb
  subst e;obtain⟨o,e,c,d⟩:=st;exact⟨o,e,λv z=>by rw[d]at z;cases z⟩
 keep:=λi h h' st k=>st.at λo e=>k it (by simp) o e
 item:=by intro X hP hw hK hc i Tk s σ H E I hf st hg;subst hP hw hK;obtain⟨xs,x,hq,hx⟩:=hg;obtain⟨aq,rv,p,hz⟩:=I.list hq;obtain⟨u,hu,ru⟩:=rv.get hx;obtain⟨f0,f1,f2,f3,f4,f5⟩:=hf it (by simp);refine wpAny_pyNext_list_item st p.isList (x:=u) (by simpa using hu) λh' lF sb=>?_;have I1:Inv X Tk σ H { s with heap:=h' }:=I.turned (t':=s.toks) (λb o hb e=>(sb.2 b hb).trans e) f0 f1 f3 f4 f5;obtain⟨o,e,c,d⟩:=id lF;exact⟨u,rfl,BH (s:={ s with heap:=h' }) e c d (by decide) ⟨x,H,I1,ru,⟨rfl,λys hy=>by rw[I.jD hy hq];exact hx⟩,lF,λb hb=>(hf b hb).1⟩⟩
 done:=by intro X hP hw hK hc i Tk s σ H E I hf st hg;subst hP hw hK;obtain⟨xs,hq,hx⟩:=hg;obtain⟨aq,rv,p,hz⟩:=I.list hq;obtain⟨f0,f1,f2,f3,f4,f5⟩:=hf it (by simp);have hl:=rv.length;exact wpAny_pyNext_list_end (I.ok.hd hc) st p.isList (by simp;omega) λh' eb=>⟨rfl,I.turned (t':=s.toks) (λb o hb e=>eb b o hb e) f0 f1 f3 f4 f5⟩
 self:=λ_ _ _ _ _ st h=>wpAny_pyIter_listiter st h
theorem OZ(a it:Addr):Turn P w K tg (BJ K a) [it] it (λi h=>h.IsTupleIter it a i) where
 mem:=by simp
 obj:=λi h st b hb=>by
  have e:b=it:=by simpa using hb
  subst e;obtain⟨o,e,c,d⟩:=st;exact⟨o,e,λv z=>by rw[d]at z;cases z⟩
 keep:=λi h h' st k=>st.at λo e=>k it (by simp) o e
 item:=by intro X hP hw hK hc i Tk s σ H E I hf st hg;subst hP hw hK;obtain⟨xs,x,hq,hx⟩:=hg;obtain⟨aq,rv,p,hz⟩:=I.tuple hq;obtain⟨u,hu,ru⟩:=rv.get hx;obtain⟨f0,f1,f2,f3,f4,f5⟩:=hf it (by simp);refine wpAny_pyNext_tuple_item st (show s.heap.IsTuple a aq.toArray from p) (x:=u) (by simpa using hu) λh' lF sb=>?_;have I1:Inv X Tk σ H { s with heap:=h' }:=I.turned (t':=s.toks) (λb o hb e=>(sb.2 b hb).trans e) f0 f1 f3 f4 f5;obtain⟨o,e,c,d⟩:=id lF;exact⟨u,rfl,BH (s:={ s with heap:=h' }) e c d (by decide) ⟨x,H,I1,ru,⟨rfl,λys hy=>by rw[I.fE hy hq];exact hx⟩,lF,λb hb=>(hf b hb).1⟩⟩
 done:=by intro X hP hw hK hc i Tk s σ H E I hf st hg;subst hP hw hK;obtain⟨xs,hq,hx⟩:=hg;obtain⟨aq,rv,p,hz⟩:=I.tuple hq;obtain⟨f0,f1,f2,f3,f4,f5⟩:=hf it (by simp);have hl:=rv.length;exact wpAny_pyNext_tuple_end (I.ok.hd hc) st (show s.heap.IsTuple a aq.toArray from p) (by simp;omega) λh' eb=>⟨rfl,I.turned (t':=s.toks) (λb o hb e=>eb b o hb e) f0 f1 f3 f4 f5⟩
 self:=λ_ _ _ _ _ st h=>wpAny_pyIter_tupleiter st h
theorem O0(it:Addr)(lo:Int)(n:Nat):Turn P w K tg (yU lo n) [it] it (λi h=>IsRangeIter h it (lo+(i:Nat)*1) ((n:Int)-(i:Nat)) 1) where
 mem:=by simp
 obj:=λi h st b hb=>by
  have e:b=it:=by simpa using hb
  subst e;exact⟨_,st,λv z=>by have z':Data.fields _=Data.cell v:=z;cases z'⟩
 keep:=λi h h' st k=>k it (by simp) _ st
 item:=by intro X hP hw hK hc i Tk s σ H E I hf st hg;subst hP hw hK;obtain⟨f0,f1,f2,f3,f4,f5⟩:=hf it (by simp);have W:=Walks.range (prog:=X.prog) (w:=X.w) (I.ok.hd hc) it lo 1 n;refine W.item i s _ _ hg st λv h' tk hv lF kk=>?_;obtain⟨t,rfl⟩:=hv;have I1:Inv X Tk σ H { s with heap:=h',toks:=tk }:=I.turned (λb o hb e=>kk b o (by simpa using hb) e) f0 f1 f3 f4 f5;refine⟨_,rfl,BH (s:={ s with heap:=h',toks:=tk }) (n:="range_iterator") lF rfl rfl (by decide) ⟨.int (lo+i),H,I1,⟨t,?_⟩,⟨rfl,rfl⟩,lF,λb hb=>(hf b hb).1⟩⟩;rw[Int.mul_one]
 done:=by intro X hP hw hK hc i Tk s σ H E I hf st hg;subst hP hw hK;obtain⟨f0,f1,f2,f3,f4,f5⟩:=hf it (by simp);exact wpAny_pyNext_range_end (I.ok.hd hc) st (by have:n<=i:=hg;omega) λh' eb=>⟨rfl,I.turned (t':=s.toks) (λb o hb e=>eb b o hb e) f0 f1 f3 f4 f5⟩
 self:=λ_ _ _ _ _ st h=>wpAny_pyIter_rangeiter st h
section
variable {X:Cx}{tg:Expr}
theorem O5{σ:St}{H:Hp}{R:It->Hp->Prop}{lo hi:Int}{t u v:Tok}{tk:Nat}(I:Inv X Tk σ H s)(h1:-(2 ^ 62)<=lo)(h2:lo<2 ^ 62)(h3:-(2 ^ 62)<=hi)(h4:hi<2 ^ 62)
  (q:R (yU lo (hi-lo).toNat) H):wpAny (model X.prog X.w) X.A (pyIter (.ref s.heap.objs.size)) (FD X Tk σ tg R) E { s with heap:=s.heap.push { cls:=.type "range",data:=.fields #[.int lo t,.int hi u,.int 1 v] },toks:=tk }:=by
 refine wpAny_pyIter_range (IsRange.new ..) (small_one h1 h2 h3 h4) ?_;have I1:Inv X Tk σ H { s with heap:=s.heap.push { cls:=.type "range",data:=.fields #[.int lo t,.int hi u,.int 1 v] },toks:=tk }:=I.kept λb o e=>Qd _ e;refine⟨(s.heap.push { cls:=.type "range",data:=.fields #[.int lo t,.int hi u,.int 1 v] }).objs.size,[(s.heap.push { cls:=.type "range",data:=.fields #[.int lo t,.int hi u,.int 1 v] }).objs.size],_,_,H,rfl,
  I1.kept (t':=tk) λb o e=>Qd _ e,O0 _ lo (hi-lo).toNat,?_,λb hb=>?_,q⟩
 ·have e1:lo+((0:Nat):Int)*1=lo:=by simp
  have e2:(((hi-lo).toNat:Nat):Int)-((0:Nat):Int)=Builtin.Range.rangeSize lo hi 1:=by rw[rangeSize_one];split<;>omega
  show IsRangeIter _ _ (lo+((0:Nat):Int)*1) ((((hi-lo).toNat:Nat):Int)-((0:Nat):Int)) 1;rw[e1,e2];exact Qp _ rfl
 ·have e:b=(s.heap.push { cls:=.type "range",data:=.fields #[.int lo t,.int hi u,.int 1 v] }).objs.size:=by simpa using hb
  subst e;exact I1.o5 (Qj _) (I1.aG.fresh (Qj _))
def O6 (ta:TA):TI:=λσ H R=>ta σ H λvs H1=>∃ j:Int,vs=[.int j] /\ -(2 ^ 62)<=j/\j<2 ^ 62/\R (yU 0 j.toNat) H1
theorem O7{a:Expr}{ta:TA}{p pos:Pos}(hg:Gl X "range")(hm:X.mg "range" = none)(ha:PA X [a] ta)(hs:starEach [a] X.env=[(false,eval a X.env)]:=by rfl):PI X tg (.Call (.Name "range" p) [a] [] pos) (O6 ta):=by
 intro Tk s σ H R I h;refine Call_ (uj I hg hm boot_range (Ji (bg (ha pos Tk s σ H _ I h) λus s1 ⟨vs,H1,I1,r1,q1⟩=>?_) hs rfl));obtain⟨j,e,q1,q2,q⟩:=q1;subst e;cases r1 with
 | cons r rr=>
  cases rr;obtain⟨t,rfl⟩:=r;exact call_range_1 (O5 I1 (by omega) (by omega) q1 q2 (by simpa using q))
def O8 (wi:TI)(g:TG)(tb:TS):TS:=λD σ H=>wi σ H λJ H1=>∃ W:Nat->Nat->St->Hp->Prop,(∃ m,W 0 m σ H1)/\∀ i m σ H,W i m σ H->
 (J.stop i H/\D.nx σ H)\/(J.go i H/\∃ N:St->Hp->Prop,(∀ aO H',N aO H'->∃ m',m'<m/\W (i+1) m' aO H')/\∀ x H',J.rO i H x H'->g x σ H' λmJ H2=>tb { D with nx:=N,ct:=N,bk:=D.nx } mJ H2)
def qt (fp:List Addr)(h:Heap):List (Addr×Obj):=fp.filterMap λb=>(h.get? b).map λo=>(b,o)
theorem yV(hb:b∈fp)(e:h.get? b=some o):(b,o)∈qt fp h:=Y8.mpr ⟨b,hb,by rw[e];rfl⟩
theorem FE{p:Addr×Obj}(hp:p∈qt fp h):p.1∈fp/\h.get? p.1=some p.2:=by
 obtain⟨b,hb,e⟩:=Y8.mp hp;cases q:h.get? b with
 | none=>rw[q]at e;cases e
 | some o=>
  rw[q]at e;have e':(b,o)=p:=QL e;subst e';exact⟨hb,q⟩
theorem Inv.pinned{σ:St}{H:Hp}(I:Inv X Tk σ H s)(hf:∀ b∈fp,mH X Tk H b)(ho:∀ b∈fp,∃ o,s.heap.get? b=some o/\∀ v,o.data ≠ .cell v):Inv X (Tk++qt fp s.heap) σ H s:=
 I.gD λp hp=>(QO.mp hp).elim (λz=>I.pin p (Qu _ z)) λz=>by obtain⟨hb,e⟩:=FE z;obtain⟨f0,f1,f2,_⟩:=hf p.1 hb;obtain⟨o,e',d⟩:=ho p.1 hb;rw[e]at e';cases e';exact⟨e,f0,f1,f2,d⟩
theorem Inv.eT{pl:List (Addr×Obj)}{σ:St}{H:Hp}(I:Inv X (Tk++pl) σ H s):Inv X Tk σ H s:=I.gD λp hp=>I.pin p (Qu _ (Q2 _ hp))
theorem O9{iter:Expr}{wi:TI}{g:TG}{tb:TS}{pos:Pos}(hp:PassesOwn (model X.prog X.w) X.A X.env X.xe)(hc:X.calm=true)(hi:PI X tg iter wi)(hg:PG X tg g)(hb:iY X body tb)
  (hs:∀ x,foldedSetIterable iter X.env x=pure x:=by intro _;rfl):PS X (.For tg iter body [] pos) (O8 wi g tb):=by
 intro Tk s σ H D I h;refine wpAny_For (bg (hi Tk s σ H _ I h) λv s1 h1=>bg h1 λyT s2 h2=>?_) hs;obtain⟨it,fp,tn,J,H2,e,I2,T,qu,f2,W,⟨m0,w0⟩,turn⟩:=h2;subst e;have km:∀ {H':Hp},(∀ b∈fp,H' b=none)->∀ b∈fp,mH X Tk H' b:=λhn b hb=>⟨hn b hb,(f2 b hb).2⟩;refine codeAny_forLoop_any (λn s'=>∃ i aO H',Inv X Tk aO H' s'/\tn i s'.heap/\(∀ b∈fp,H' b=none)/\W i n aO H') ?_ m0 ⟨0,σ,H2,I2,qu,λb hb=>(f2 b hb).1,w0⟩;rintro n s3 ⟨i,mG,H3,I3,vR,FF,w3⟩;rcases turn i n mG H3 w3 with⟨stop,qn⟩|⟨go,N,hN,step⟩
 ·refine Jq hp (bg (T.done X rfl rfl rfl hc i Tk s3 mG H3 X.xe I3 (km FF) vR stop) λr s4 ⟨hr,I4⟩=>?_);subst hr;exact YQ ⟨mG,H3,I4,qn⟩
 ·refine Jq hp (bg (T.item X rfl rfl rfl hc i Tk s3 mG H3 X.xe I3 (km FF) vR go) λr s4 ⟨u,hr,h4⟩=>?_);subst hr;refine Jq hp (bg h4 λ_ s5 aj=>?_);obtain⟨x,H5,I5,r5,y5,rP,BK⟩:=aj;have BL:=I5.pinned (km BK) (T.obj _ _ rP);refine Jq hp (bg (hg _ s5 mG H5 x u _ BL r5 (step x H5 y5)) λ_ s6 aj=>?_);obtain⟨FG,H6,I6,q6⟩:=aj;refine Jq hp (bg (hb _ s6 FG H6 _ I6 q6) λf s7 q7=>?_);have again:∀ {mK:St} {H7:Hp},Inv X (Tk++qt fp s5.heap) mK H7 s7->N mK H7->∃ m,m<n/\∃ i aO H',Inv X Tk aO H' s7/\tn i s7.heap/\(∀ b∈fp,H' b=none)/\W i m aO H':=λ{mK H7} I7 n7=>by obtain⟨m',hm,w7⟩:=hN mK H7 n7;refine⟨m',hm,i+1,mK,H7,I7.eT,T.keep _ _ _ rP λb hb o e=>(I7.pin (b,o) (Qu _ (Qu _ (yV hb e)))).1,λb hb=>?_,w7⟩;obtain⟨o,e,d⟩:=T.obj _ _ rP b hb;exact(I7.pin (b,o) (Qu _ (Qu _ (yV hb e)))).2.1
  cases f with
  | next=>obtain⟨mK,H7,I7,n7⟩:=q7;exact again I7 n7
  | cont=>obtain⟨mK,H7,I7,n7⟩:=q7;exact again I7 n7
  | brk=>obtain⟨mK,H7,I7,q7⟩:=q7;exact⟨mK,H7,I7.eT,q7⟩
  | ret v=>obtain⟨x7,mK,H7,I7,r7,q7⟩:=q7;exact⟨x7,mK,H7,I7.eT,r7,q7⟩
end
abbrev R2:=V->V->Hp->VK->Prop
def dO (X:Cx)(f:Value->Value->Sem Value)(r:R2):Prop:=
 ∀ (Tk:List (Addr×Obj)) (s:Shared) (σ:St) (H:Hp) (x y:V) (v u:Value) (Q:VK),Inv X Tk σ H s->bP x v->bP y u->r x y H Q->
  wpAny (model X.prog X.w) X.A (f v u) (EP X Tk σ Q) X.xe s
def BM (X:Cx)(f:Value->Sem Value)(r:V->Hp->VK->Prop):Prop:=
 ∀ (Tk:List (Addr×Obj)) (s:Shared) (σ:St) (H:Hp) (x:V) (v:Value) (Q:VK),Inv X Tk σ H s->bP x v->r x H Q->
  wpAny (model X.prog X.w) X.A (f v) (EP X Tk σ Q) X.xe s
def kO (X:Cx)(f:Value)(r:List V->Hp->VK->Prop):Prop:=
 ∀ (Tk:List (Addr×Obj)) (s:Shared) (σ:St) (H:Hp) (xs:List V) (us:List Value) (Q:VK),Inv X Tk σ H s->bc xs us->r xs H Q->
  wpAny (model X.prog X.w) X.A (call f us) (EP X Tk σ Q) X.xe s
def O_ (X:Cx)(r:V->Hp->(Bool->Hp->Prop)->Prop):Prop:=
 ∀ (Tk:List (Addr×Obj)) (s:Shared) (σ:St) (H:Hp) (x:V) (v:Value) (Q:Bool->Hp->Prop),Inv X Tk σ H s->bP x v->r x H Q->
  wpAny (model X.prog X.w) X.A (truthy v) (TP X Tk σ Q) X.xe s
def kn (r:R2)(ta tb:TE):TE:=λσ H Q=>ta σ H λx H1=>tb σ H1 λy H2=>r x y H2 Q
def FH (r:V->Hp->VK->Prop)(ta:TE):TE:=λσ H Q=>ta σ H λx H1=>r x H1 Q
def rI (C:Int->Int->Prop)(g:Int->Int->V):R2:=λx y H Q=>∃ i j,x=.int i/\y=.int j/\C i j/\Q (g i j) H
def mL (g:Int->Int->V):R2:=λx y H Q=>∃ i j,x=.int i/\y=.int j/\Q (g i j) H
def rU (g:Int->V):V->Hp->VK->Prop:=λx H Q=>∃ i,x=.int i/\Q (g i) H
section
variable {X:Cx}{a b c:Expr}{ta tb tc:TE}{pos:Pos}
theorem BN(ha:PE X a ta)(hb:PE X b tb){σ:St}{H:Hp}{R:V->V->Hp->Prop}(I:Inv X Tk σ H s)
  (h:ta σ H λx H1=>tb σ H1 λy H2=>R x y H2) {Q:Tl} 
  (hf:∀ v u s2 x y H2,Inv X Tk σ H2 s2->bP x v->bP y u->R x y H2->wpAny (model X.prog X.w) X.A (f v u) Q X.xe s2) :
  wpAny (model X.prog X.w) X.A (eval a X.env) (λv aV=>wpAny (model X.prog X.w) X.A (eval b X.env) (λu i4=>wpAny (model X.prog X.w) X.A (f v u) Q X.xe i4) X.xe aV) X.xe s:=by refine bg (ha Tk s σ H _ I h) λv s1 aj=>?_;obtain⟨x,H1,I1,r1,q1⟩:=aj;refine bg (hb Tk s1 σ H1 _ I1 q1) λu s2 aj=>?_;obtain⟨y,H2,I2,r2,q2⟩:=aj;exact hf v u s2 x y H2 I2 r1 r2 q2
theorem qw{op:Operator}{r:R2}(ho:dO X (binaryOp op) r)(ha:PE X a ta)(hb:PE X b tb):PE X (.BinOp a op b pos) (kn r ta tb):=by intro Tk s σ H Q I h;exact wpAny_BinOp (BN ha hb I h λv u s2 x y H2 I2 rx ry q=>ho Tk s2 σ H2 x y v u Q I2 rx ry q)
theorem Pa{op:UnaryOp}{r:V->Hp->VK->Prop}(ho:BM X (unaryOp op) r)(ha:PE X a ta):PE X (.UnaryOp op a pos) (FH r ta):=by intro Tk s σ H Q I h;exact UnaryOp_ (bg (ha Tk s σ H _ I h) λv s1 ⟨x,H1,I1,r1,q1⟩=>ho Tk s1 σ H1 x v Q I1 r1 q1)
theorem BO{f:Value->Value->Sem Value}{C:Int->Int->Prop}
  (rule:∀ (i j:Int) (t u:Tok) (s:Shared) (Q:Tl) (E:Tl),C i j->Q (.int (g i j) s.toks) { s with toks:=s.toks+1 }->wpAny (model X.prog X.w) X.A (f (.int i t) (.int j u)) Q E s) :
  dO X f (rI C λi j=>.int (g i j)):=by intro Tk s σ H x y v u Q I rx ry h;obtain⟨i,j,rfl,rfl,hc,q⟩:=h;obtain⟨t,rfl⟩:=rx;obtain⟨t',rfl⟩:=ry;exact rule i j t t' s _ _ hc ⟨.int (g i j),H,I.tok _,⟨_,rfl⟩,q⟩
theorem Pb{f:Value->Value->Sem Value}
  (rule:∀ (i j:Int) (t u:Tok) (s:Shared) (Q:Tl) (E:Tl),Q (.int (g i j) s.toks) { s with toks:=s.toks+1 }->wpAny (model X.prog X.w) X.A (f (.int i t) (.int j u)) Q E s) :
  dO X f (mL λi j=>.int (g i j)):=by intro Tk s σ H x y v u Q I rx ry h;obtain⟨i,j,rfl,rfl,q⟩:=h;obtain⟨t,rfl⟩:=rx;obtain⟨t',rfl⟩:=ry;exact rule i j t t' s _ _ ⟨.int (g i j),H,I.tok _,⟨_,rfl⟩,q⟩
theorem BP{g:Int->Int->Bool}
  (rule:∀ (i j:Int) (t u:Tok) (s:Shared) (Q:Tl) (E:Tl),Q (.bool (g i j)) s->wpAny (model X.prog X.w) X.A (f (.int i t) (.int j u)) Q E s) :
  dO X f (mL λi j=>.bl (g i j)):=by intro Tk s σ H x y v u Q I rx ry h;obtain⟨i,j,rfl,rfl,q⟩:=h;obtain⟨t,rfl⟩:=rx;obtain⟨t',rfl⟩:=ry;exact rule i j t t' s _ _ ⟨.bl (g i j),H,I,rfl,q⟩
def Pc (i j:Int):Prop:=0<j/\j<1073741824
def BQ (i j:Int):Prop:=(-(2 ^ 64)<i/\i<2 ^ 64)\/(-(2 ^ 64)<j/\j<2 ^ 64)
theorem BQ.ok{i j:Int}(h:BQ i j):IntMulOk i j:=by
 rcases h with⟨h1,h2⟩|⟨h1,h2⟩
 ·exact .of_left (intBits_le_64 h1 h2)
 ·exact .of_right (intBits_le_64 h1 h2)
theorem Pd:dO X (binaryOp .Add) (mL λi j=>.int (i+j)):=Pb λ_ _ _ _ _ _ _ q=>add_int q
theorem Pe:dO X (binaryOp .Mult) (rI BQ λi j=>.int (i*j)):=BO λ_ _ _ _ _ _ _ hc q=>mul_int q hc.ok
theorem Pf:dO X (binaryOp .FloorDiv) (rI Pc λi j=>.int (i / j)):=BO λi j _ _ _ _ _ hc q=>by have h1:(0:Int)<j:=hc.1;have h2:j<1073741824:=hc.2;exact floordiv_int (by omega) (by rw[Int.fdiv_eq_ediv_of_nonneg i (by omega)];exact q) (.inl (PyProof.noPylong_small (by omega)))
theorem Pg:dO X (binaryOp .Mod) (rI (λ_ j=>0<j) λi j=>.int (i % j)):=BO λi j _ _ _ _ _ hc q=>by have h1:(0:Int)<j:=hc;exact mod_int' (by omega) (by rw[Int.fmod_eq_emod_of_nonneg i (by omega)];exact q)
theorem Ph{f:Value->Sem Value}{g:Int->Int}
  (rule:∀ (i:Int) (t:Tok) (s:Shared) (Q:Tl) (E:Tl),Q (.int (g i) s.toks) { s with toks:=s.toks+1 }->wpAny (model X.prog X.w) X.A (f (.int i t)) Q E s) :
  BM X f (rU λi=>.int (g i)):=by intro Tk s σ H x v Q I rx h;obtain⟨i,rfl,q⟩:=h;obtain⟨t,rfl⟩:=rx;exact rule i t s _ _ ⟨.int (g i),H,I.tok _,⟨_,rfl⟩,q⟩
theorem Pj:BM X (unaryOp .USub) (rU λi=>.int (-i)):=Ph λ_ _ _ _ _ q=>neg_int q
theorem FI:dO X (compareOp .Lt) (mL λi j=>.bl (decide (i<j))):=BP λ_ _ _ _ _ _ _ q=>lt_int q
theorem Pk:dO X (compareOp .LtE) (mL λi j=>.bl (decide (i<=j))):=BP λ_ _ _ _ _ _ _ q=>le_int q
theorem Pl:dO X (compareOp .Gt) (mL λi j=>.bl (decide (j<i))):=BP λ_ _ _ _ _ _ _ q=>gt_int q
theorem dO.or{r r':R2}(h:dO X f r)(h':dO X f r'):dO X f (λx y H Q=>r x y H Q\/r' x y H Q):=by
 intro Tk s σ H x y v u Q I rx ry q;rcases q with q|q
 ·exact h Tk s σ H x y v u Q I rx ry q
 ·exact h' Tk s σ H x y v u Q I rx ry q
theorem vS(b:Expr)(h:op ≠ .In:=by decide)(h2:op ≠ .NotIn:=by decide):behindInMarks op b=false:=by
 have e1:(op==CmpOp.In)=false:=by cases op<;>first|rfl|exact absurd rfl h
 have e2:(op==CmpOp.NotIn)=false:=by cases op<;>first|rfl|exact absurd rfl h2
 cases b<;>simp[behindInMarks,e1,e2]
theorem Pm{r:R2}(ho:dO X (compareOp op) r)(ha:PE X a ta)(hb:PE X b tb)(hm:behindInMarks op b=false):PE X (.Compare a [op] [b] pos) (kn r ta tb):=by intro Tk s σ H Q I h;exact wpAny_Compare1 (BN ha hb I h λv u s2 x y H2 I2 rx ry q=>ho Tk s2 σ H2 x y v u Q I2 rx ry q) hm
def FJ (t:TE):TT:=λσ H Q=>t σ H λx H'=>∃ k,x=.bl k/\Q k H'
theorem Pn{r:R2}(ho:dO X (compareOp op) r)(ha:PE X a ta)(hb:PE X b tb)(hm:behindInMarks op b=false):PT X (.Compare a [op] [b] pos) (FJ (kn r ta tb)):=by
 intro Tk s σ H Q I h;refine wpAny_isTrue_Compare1 (bg (ha Tk s σ H _ I h) λv s1 ⟨x,H1,I1,r1,q1⟩=>bg (hb Tk s1 σ H1 _ I1 q1) λu s2 ⟨y,H2,I2,r2,q2⟩=>
  bg (ho Tk s2 σ H2 x y v u _ I2 r1 r2 q2) λc s3 ⟨z,H3,I3,r3,k,e,q3⟩=>?_) hm
 subst e;cases r3;exact Z9 ⟨H3,I3,q3⟩
def Po (r r':R2)(ta tb tc:TE):TE:=λσ H Q=>ta σ H λx H1=>tb σ H1 λy H2=>r x y H2 λz H3=>∃ k,z=.bl k /\
 (if k=true then tc σ H3 λw' H4=>r' y w' H4 Q else Q (.bl false) H3)
theorem Pp{rQ:CmpOp}{r r':R2}(ho:dO X (compareOp op) r)(fZ:dO X (compareOp rQ) r')(ha:PE X a ta)(hb:PE X b tb)(hc:PE X c tc)
  (hm:lastMarks [op,rQ] [b,c]=false:=by with_unfolding_all rfl):PE X (.Compare a [op,rQ] [b,c] pos) (Po r r' ta tb tc):=by
 intro Tk s σ H Q I h;refine Compare_chain (bg (ha Tk s σ H _ I h) λv s1 ⟨x,H1,I1,r1,q1⟩=>chain_link (bg (hb Tk s1 σ H1 _ I1 q1) λu s2 ⟨y,H2,I2,r2,q2⟩=>
  bg (ho Tk s2 σ H2 x y v u _ I2 r1 r2 q2) λd s3 ⟨z,H3,I3,r3,k,e,q3⟩=>?_)) hm
 subst e;cases r3;refine Z9 ?_;cases k with
 | false=>exact ite_ff ⟨.bl false,H3,I3,rfl,q3⟩
 | true=>exact ite_tt (chain_last (bg (hc Tk s3 σ H3 _ I3 q3) λw' s4 ⟨z',H4,I4,r4,q4⟩=>fZ Tk s4 σ H4 y z' u w' Q I4 r2 r4 q4))
def FK (K:PySem.W.Frag)(x:V)(H:Hp)(k:Bool):Prop:=
 match x with
 | .bK=>k=false
 | .bl b=>k=b
 | .int i=>k=(i != 0)
 | .str y=>y.length<=sizeLine/\k=((y.length:Int) != 0)
 | .vG y=>y.size<=sizeLine/\k=((y.size:Int) != 0)
 | .ref p=>(∃ xs,cW K H p xs/\k = !xs.isEmpty)\/(∃ xs,cG K H p xs/\k = !xs.isEmpty)\/∃ au,H p=some (.dK au)/\k = !au.isEmpty
 | _=>False
theorem Pq{κ:Type}{au:List (κ×V)}{vs:List (κ×Value)}(r:KV au vs):(!vs.isEmpty) = !au.isEmpty:=by cases r<;>rfl
theorem FL{xs:List V}{aq:List Value}(r:bc xs aq):(!aq.toArray.isEmpty) = !xs.isEmpty:=by cases r<;>simp
theorem uk:(sizeLine:Nat)<2 ^ 63:=by rw[Jv];decide
theorem Pr:O_ X (λx H Q=>∃ k,FK X.K x H k/\Q k H):=by
 intro Tk s σ H x v Q I rx h;obtain⟨k,e,q⟩:=h;have hl:=uk;have hs:sizeLine=16777216:=Jv;cases x with
 | bK=>
  cases rx;have e':k=false:=e;subst e';exact truthy_none ⟨H,I,q⟩
 | bl b=>
  cases rx;have e':k=b:=e;subst e';exact Z9 ⟨H,I,q⟩
 | int i=>
  obtain⟨t,rfl⟩:=rx;have e':k=(i != 0):=e;subst e';exact PySem.P.truthy_int ⟨H,I,q⟩
 | str y=>
  obtain⟨t,rfl⟩:=rx;obtain⟨hy,e'⟩:y.length<=sizeLine/\k=((y.length:Int) != 0):=e;subst e';exact PySem.P.truthy_str (by omega) ⟨H,I.tok _,q⟩
 | vG y=>
  obtain⟨t,rfl⟩:=rx;obtain⟨hy,e'⟩:y.size<=sizeLine/\k=((y.size:Int) != 0):=e;subst e';exact W.truthy_bytes (by omega) ⟨H,I.tok _,q⟩
 | ref p=>
  cases rx;have e':(∃ xs,cW X.K H p xs/\k = !xs.isEmpty)\/(∃ xs,cG X.K H p xs/\k = !xs.isEmpty)\/∃ au,H p=some (.dK au)/\k = !au.isEmpty:=e;rcases e' with⟨xs,hx,e'⟩|⟨xs,hx,e'⟩|⟨au,hx,e'⟩
  ·subst e';obtain⟨aq,r,pl,hz⟩:=I.list hx;have hlen:=r.length;exact wpAny_truthy_list pl.isList (by simp only[Qo];omega) ⟨H,I.tok _,by rw[FL r];exact q⟩
  ·subst e';obtain⟨aq,r,pl,hz⟩:=I.tuple hx;have hlen:=r.length;exact truthy_tuple pl (by simp only[Qo];omega) ⟨H,I.tok _,by rw[FL r];exact q⟩
  ·subst e';obtain⟨hz,hS,vs,r,m⟩:au.length<=sizeLine/\(p==sysModules)=false/\∃ vs,KV au vs/\s.heap.DictOf (ig X.prog X.w) p vs:=I.aG p _ hx;have hlen:au.length=vs.length:=VB r;exact wpAny_truthy_dict hS m (by omega) ⟨H,I.tok _,by rw[Pq r];exact q⟩
 | _=>exact(show False from e).elim
theorem Pt(ha:PE X a ta)(he:∀ whole,isTrue a X.env whole=(do let v <- whole;standAt a.pos;holding [v] (truthy v))) :
  PT X a (λσ H Q=>ta σ H λx H'=>∃ k,FK X.K x H' k/\Q k H'):=by intro Tk s σ H Q I h;exact isTrue_plain (bg (ha Tk s σ H _ I h) λv s1 ⟨x,H1,I1,r1,q1⟩=>Pr Tk s1 σ H1 x v Q I1 r1 q1) (he _)
theorem mM{x:V}(r:bc [x] us):∃ u,us=[u]/\bP x u:=by
 cases r with
 | cons r1 r2=>cases r2;exact⟨_,rfl,r1⟩
theorem FN{x y:V}(r:bc [x,y] us):∃ u w',us=[u,w']/\bP x u/\bP y w':=by
 cases r with
 | cons r1 r2=>
  cases r2 with
  | cons r3 r4=>cases r4;exact⟨_,_,rfl,r1,r3⟩
theorem Pu(hc:X.calm=true):kO X (.builtin "max") (λxs H Q=>∃ i j,xs=[.int i,.int j]/\Q (.int (if j > i then j else i)) H):=by
 intro Tk s σ H xs us Q I r h;obtain⟨i,j,rfl,q⟩:=h;obtain⟨u,w',rfl,⟨t,rfl⟩,⟨t',rfl⟩⟩:=FN r;refine max_two_ints (I.ok.hd hc) λh' tk k=>⟨_,H,I.kept k,?_,q⟩;by_cases hj:j > i
 ·rw[Qi hj,Qi hj];exact⟨_,rfl⟩
 ·rw[Ql hj,Ql hj];exact⟨_,rfl⟩
end
structure rR (h:Heap) (x dx C:Addr) (mA:Str->Option Value):Prop where
 obj:h.get? x=some (W.instObj C dx)
 ns:h.Ns1 dx mA
 ne:dx≠x
theorem Pw(n:h.Ns1 dx mA):∃ od,h.get? dx=some od/\∀ name,W.lookIn name od=some (mA name):=by
 obtain⟨o,es,ep,ho,hd,hk,_,hm⟩:=n;refine⟨o,ho,λname=>?_⟩;have e:=hm name;unfold nsFind findBy at e;rw[<- Array.find?_toList]at e;unfold W.lookIn;rw[hd];dsimp only;split;next y q=>
  rw[q]at e;exact ZD some e
 next q=>
  rw[q]at e;have a:es.toList.any (·.refKey)=false:=by rw[List.any_eq_false];intro y hy;obtain⟨z,t,lG⟩:=hk y (YK.mp hy);simp[DictEntry.refKey,lG]
  have a':¬ es.toList.any (·.refKey)=true:=by rw[a];exact Zp
  rw[Ql a'];exact ZD some e
theorem rR.look{x:Addr}(I:rR h x dx C mA):∃ od,PySem.W.InstAt h x (W.instObj C dx) C (some od)/\∀ name,W.lookIn name od=some (mA name):=
 let ⟨od,ho,hl⟩:=Pw I.ns
 ⟨od,⟨I.obj,rfl,rfl,ho⟩,hl⟩
theorem lC.some_of{v:V}{o:Option Value}(r:lC (some v) o):∃ u,o=some u/\bP v u:=by
 cases o with
 | none=>exact(show False from r).elim
 | some u=>exact⟨u,rfl,r⟩
section
variable {P:Program}{w:World}{H H':Hp}{h h':Heap}{a C dx:Addr}{fs NW:List (Str×V)}
theorem um(aG:dQ P w H h)(e:H a=some (.ins C dx fs)):∃ mA,rR h a dx C mA/\(∀ f,lC (fs.lookup f) (mA f))/\PySem.Within mA (fs.map (·.1))/\fs.length<=1000/\H dx=some (.own a):=by obtain⟨d,z,ne,ob,mA,n,r,q⟩:=(show dA P w H h a (.ins C dx fs)from aG a _ e);exact⟨mA,⟨ob,n,ne⟩,r,q,z,d⟩
end
structure yW (K:PySem.W.Frag) (C:Addr):Prop where
 pg:W.plainGet K C Str.empty=true
 hd:W.hasDictIn K C=true
 po:W.plainOver K C=true
 sa:W.findIn K (.ref C) "__setattr__" = some (some (.builtin "object.__setattr__"))
theorem yW.get(c:yW K C)(f:Str):W.plainGet K C f=true:=c.pg
def Px (K:PySem.W.Frag)(C:Addr)(f:Str):Prop:=W.findIn K (.ref C) f=some none
section
variable {X:Cx}{Tk:List (Addr×Obj)}{σ:St}{H:Hp}{s:Shared}{A:Around}{E:Tl}{Q:Tl}{c:Value}{b:Bool}
inductive f9 (K:PySem.W.Frag) (H:Hp):V->Value->Prop where
 | bK:f9 K H .bK (.type "NoneType")
 | bl (x:Bool):f9 K H (.bl x) (.type "bool")
 | int (i:Int):f9 K H (.int i) (.type "int")
 | str (x:Str):f9 K H (.str x) (.type "str")
 | ue (x:UInt64):f9 K H (.ue x) (.type "float")
 | lst {a:Addr} {xs:List V} (e:H a=some (.lst xs)):f9 K H (.ref a) (.type "list")
 | ij {a:Addr} {o:Obj} {xs:List V} (e:H a=some (.ij o (.lst xs))):f9 K H (.ref a) (.type "list")
 | tup {a:Addr} {xs:List V} (e:H a=some (.tup xs)):f9 K H (.ref a) (.type "tuple")
 | dK {a:Addr} {au:List (Key×V)} (e:H a=some (.dK au)):f9 K H (.ref a) (.type "dict")
 | dT {a:Addr} {au:List (List Key×V)} (e:H a=some (.dT au)):f9 K H (.ref a) (.type "dict")
 | ins {a C dx:Addr} {fs:List (Str×V)} (e:H a=some (.ins C dx fs)) (cl:yW K C) (ha:W.findIn K (.ref C) "__class__" = some (some (.builtin "object.__class__")))
   (hn:W.specialIn K (.builtin "object.__class__") "__get__" = some (some (.builtin "getset_descriptor.__get__"))) (vT:W.takesIn K (.builtin "object.__class__")=some true)
   (hm:W.mroIn K C (.type "object")=some true):f9 K H (.ref a) (.ref C)
theorem ko{x:V}{t:Value}(I:Inv X Tk σ H s)(rx:bP x u)(ty:f9 X.K H x t)(e:W.kitOne X.K t c=some b)(h:∀ tk,Q (.bool b) { s with toks:=tk }) :
  wpAny (model X.prog X.w) A (call (.builtin "isinstance") [u,c]) Q E s:=by
 cases ty with
 | bK=>cases (show u=Value.none from rx);exact Zr W.kitx_none I.iA True.intro e (λz=>nomatch z) h
 | bl y=>cases (show u=Value.bool y from rx);exact Zr W.kitx_bool I.iA True.intro e (λz=>nomatch z) h
 | int i=>obtain⟨t,q⟩:=(show ∃ t,u=Value.int i t from rx);cases q;exact Zr W.kitx_int I.iA True.intro e (λz=>nomatch z) h
 | str y=>obtain⟨t,q⟩:=(show ∃ t,u=Value.str y t from rx);cases q;exact Zr W.kitx_str I.iA True.intro e (λz=>nomatch z) h
 | ue y=>obtain⟨t,q⟩:=(show ∃ t,u=Value.float y t from rx);cases q;exact Zr W.kitx_float I.iA True.intro e (λz=>nomatch z) h
 | @lst a xs ea=>
  cases (show u=Value.ref a from rx);obtain⟨_,_,n,_,h1⟩:=(show dA X.prog X.w H s.heap a (.lst xs)from I.aG a _ ea);exact Zr Vv I.iA ⟨_,h1,rfl⟩ e (λz=>nomatch z) h
 | @ij a ob xs ea=>
  cases (show u=Value.ref a from rx);obtain⟨_,_,_,n,_,h1⟩:=(show dA X.prog X.w H s.heap a (.ij ob (.lst xs))from I.aG a _ ea);exact Zr Vv I.iA ⟨_,h1,rfl⟩ e (λz=>nomatch z) h
 | @tup a xs ea=>
  cases (show u=Value.ref a from rx);obtain⟨_,_,_,p⟩:=(show dA X.prog X.w H s.heap a (.tup xs)from I.aG a _ ea);obtain⟨o,h1,h2,_⟩:=p;exact Zr W.kitx_tuple I.iA ⟨o,h1,h2⟩ e (λz=>nomatch z) h
 | @dK a au ea=>
  cases (show u=Value.ref a from rx);obtain⟨_,_,vs,_,p⟩:=(show dA X.prog X.w H s.heap a (.dK au)from I.aG a _ ea);obtain⟨o,es,ep,h1,h2,_⟩:=p;exact Zr W.kitx_dict I.iA ⟨o,h1,h2.1⟩ e (λz=>nomatch z) h
 | @dT a au ea=>
  cases (show u=Value.ref a from rx);obtain⟨_,_,xs,_,o,es,ep,h1,h2,_⟩:=(show dA X.prog X.w H s.heap a (.dT au)from I.aG a _ ea);exact Zr W.kitx_dict I.iA ⟨o,h1,h2.1⟩ e (λz=>nomatch z) h
 | @ins a C dx fs ea cl ha hn vT hm=>
  cases (show u=Value.ref a from rx);obtain⟨mA,O,_⟩:=um I.aG ea;obtain⟨od,J,_⟩:=O.look;exact Zr (W.kitx_own (cl.get _) cl.hd ha hn vT hm) I.iA J e (λz=>nomatch z) h
end
structure bA (k:Nat) (A:Around):Prop where
 hd:A.handled=none
 dp:A.depth+3*k+5<recursionLimit
 un:A.units+16*k+200<cLine
theorem bA.mono{k:Nat}(r:bA k A)(h:j<=k):bA j A:=⟨r.hd,by have:=r.dp;omega,by have:=r.un;omega⟩
theorem bA.deeper{k:Nat}(r:bA (k+1) A)(env:Env):bA k (A.deeper env):=
 ⟨r.hd,by have:=r.dp;show A.depth+1+3*k+5<_;omega,by have:=r.un;show A.units+3+16*k+200<_;omega⟩
theorem bA.depth{k:Nat}(r:bA k A):A.depth<recursionLimit:=by have:=r.dp;omega
theorem bA.units{k:Nat}(r:bA k A):A.units+64<cLine:=by have:=r.un;omega
def FO:TA:=λ_ H Q=>Q [] H
def FP (ta:TE)(tr:TA):TA:=λσ H Q=>ta σ H λx H1=>tr σ H1 λxs H2=>Q (x::xs) H2
section
variable {X:Cx}{e:Expr}{es:List Expr}{te:TE}{t:TA}{pos:Pos}
theorem mO:PA X [] FO:=λ_ _ _ _ H Q I h=>Calls.spliced_nil ⟨[],H,I,.nil,h⟩
theorem ma(ha:PE X e te)(hr:PA X es t)(hs:starEach (e::es) X.env=(false,eval e X.env)::starEach es X.env:=by rfl):PA X (e::es) (FP te t):=by intro pos Tk s σ H Q I h;rw[hs];show wpAny _ _ (spliced ((false,eval e X.env)::backTo pos (starEach es X.env))) _ _ s;refine Y9 (bg (ha Tk s σ H _ I h) λu s1 aj=>?_);obtain⟨x,H1,I1,r1,q1⟩:=aj;exact bg (hr pos Tk s1 σ H1 _ I1 q1) λus s2 ⟨xs,H2,I2,r2,q2⟩=>⟨x::xs,H2,I2,.cons r1 r2,q2⟩
def Py (t:TA):TE:=λσ H Q=>t σ H λxs H1=>xs.length<=sizeLine/\∀ p,H1 p=none->Q (.ref p) (upd H1 p (.tup xs))
def Pz (t:TA):TE:=λσ H Q=>t σ H λxs H1=>xs.length<=sizeLine/\∀ p,H1 p=none->Q (.ref p) (upd H1 p (.lst xs))
theorem PC{x1}(h:PA X es t):PE X (.Tuple es x1 pos) (Py t):=by intro Tk s σ H Q I hq;refine wpAny_Tuple_spliced (bg (h pos Tk s σ H _ I hq) λus s1 ⟨xs,H1,I1,r,z,q⟩=>⟨by rw[<- r.length];exact z,?_⟩);have hf:H1 s1.heap.objs.size=none:=I1.aG.fresh (Qj _);refine⟨.ref s1.heap.objs.size,upd H1 s1.heap.objs.size (.tup xs),I1.laid (t':=s1.toks) (λb u e=>Qd _ e) (Qj _) ?_,rfl,q _ hf⟩;exact⟨z,us,r,⟨_,Qp _ rfl,rfl,⟨_,rfl⟩,rfl⟩⟩
theorem PF(h:PA X es t):PE X (.List es pos) (Pz t):=by intro Tk s σ H Q I hq;refine wpAny_List_spliced (bg (h pos Tk s σ H _ I hq) λus s1 ⟨xs,H1,I1,r,z,q⟩=>⟨by rw[<- r.length];exact z,?_⟩);have hf:H1 s1.heap.objs.size=none:=I1.aG.fresh (Qj _);refine⟨.ref s1.heap.objs.size,upd H1 s1.heap.objs.size (.lst xs),I1.laid (t':=s1.toks) (λb u e=>Qd _ e) (Qj _) ?_,rfl,q _ hf⟩;exact⟨z,us,0,r,Qp _ rfl⟩
end
abbrev Sp:=List V->Hp->VK->XK->Prop
abbrev n_:=List Env->Hp->Shared->XK->Value->Shared->Prop
structure o7 (P:Program) (w:World) (K:PySem.W.Frag) (mg:Str->Option Value) (base:Heap) (A:Around) (outer:List Env) (s:Shared) (H:Hp):Prop where
 frames:A.frames=some outer
 mod:Mod K mg base
 bs:∀ b o,base.get? b=some o->s.heap.get? b=some o/\H b=none
 n4:base.objs.size<=s.heap.objs.size
 gO:s.heap.FunFrames base outer
 uh:∀ b∈jX outer,H b=none
 aG:dQ P w H s.heap
 bare:AllBare s.gens
def CE (outer:List Env)(P:Program)(w:World)(H:Hp)(s:Shared)(Q:VK)(u:Value)(s':Shared):Prop:=
 ∃ v H',s'.os=s.os/\AllBare s'.gens/\Un (jX outer) [] H H' s.heap s'.heap/\dQ P w H' s'.heap/\bP v u/\Q v H'
def CR (CX:n_)(outer:List Env)(P:Program)(w:World)(H:Hp)(s:Shared)(Q:VK)(E:XK)(r:Result)(s':Shared):Prop:=
 match r with
 | .ok (.ret u)=>CE outer P w H s Q u s'
 | .ok _=>False
 | .error e=>CX outer H s E e s'
structure eU (P:Program) (w:World) (K:PySem.W.Frag) (mg:Str->Option Value) (base:Heap) (CX:n_) (k:Nat) (f:Addr) (fd:FuncData) (ps:List Str) (sp:Sp):Prop where
 len:∀ vs H Q E,sp vs H Q E->vs.length=ps.length
 run:∀ (A:Around) (outer:List Env) (s:Shared) (H:Hp) (args:Args) (us:List Value) (vs:List V) (Q:VK) (E:XK),bA k A->o7 P w K mg base A outer s H->BindsTo s fd args (ps.zip us)->bc vs us->sp vs H Q E->
  codeAny (model P w) A (.call (.ref f) args) (CR CX outer P w H s Q E) s
section
variable {X:Cx}{Tk:List (Addr×Obj)}{σ:St}{H:Hp}{s s':Shared}
theorem Inv.BR(I:Inv X Tk σ H s):o7 X.prog X.w X.K X.mg X.base X.A X.stack s H:=
 ⟨I.ok.frames,I.ok.mod,I.bs,QJ I.ok.n4 I.sz,I.stack,I.kJ,I.aG,I.bare⟩
theorem Inv.after{Q:VK}(I:Inv X Tk σ H s)(h:CE X.stack X.prog X.w H s Q u s'):EP X Tk σ Q u s':=by obtain⟨v,H',os,bare,un,aG,r,q⟩:=h;obtain⟨hh,g,d,t,BS⟩:=s';obtain rfl:BS=s.os:=os;exact⟨v,H',I.call (h':=hh) (g':=g) (d':=d) (t':=t) (ch:=[]) un aG bare (λb z=>absurd z (by simp)),r,q⟩
end
def PH (sp:Sp)(qx:List V)(E:XK)(t:TA):TE:=λσ H Q=>t σ H λvs H1=>sp (vs++qx) H1 Q E
def qy (K:PySem.W.Frag)(fd:FuncData)(ps:List Str)(ds:List Value):Prop:=
 ∀ (s:Shared) (us:List Value),K.In s.heap->(us++ds).length=ps.length->BindsTo s fd ⟨us,[]⟩ (ps.zip (us++ds))
theorem qy.all{fd:FuncData}(h:∀ us:List Value,us.length=ps.length->bindArgs fd ⟨us,[]⟩=pure (ps.zip us)):qy K fd ps []:=λs us _ hl=>by rw[ZM]at hl ⊢;exact .of_eq (h us hl)
def yX (CX:n_)(X:Cx)(E:XK):Prop:=∀ (Tk:List (Addr×Obj)) (σ:St) (H:Hp) (s:Shared) (e:Value) (s':Shared),Inv X Tk σ H s->CX X.stack H s E e s'->X.xe e s'
section
variable {X:Cx}{CX:n_}{k:Nat}{f C:Addr}{fd:FuncData}{ps:List Str}{sp:Sp}{qx:List V}{ds:List Value}{E:XK}{x m:Str}{p pos apos:Pos}{e o:Expr}{es:List Expr}{ta:TE}{t:TA}
theorem PJ{σ:St}{H:Hp}{Q:VK}{vs:List V}(F:eU X.prog X.w X.K X.mg X.base CX k f fd ps sp)(hr:bA k X.A)(hb:qy X.K fd ps ds)(hd:bc qx ds)(hx:yX CX X E)
  (I:Inv X Tk σ H s) (r:bc vs us) (h:sp (vs++qx) H Q E):wpAny (model X.prog X.w) X.A (call (.ref f) us) (EP X Tk σ Q) X.xe s:=by
 have r2:bc (vs++qx) (us++ds):=r.append hd;have hl:(us++ds).length=ps.length:=by rw[<- r2.length];exact F.len _ _ _ _ h
 refine wpAny_call (Yn (F.run X.A X.stack s H ⟨us,[]⟩ (us++ds) (vs++qx) Q E hr I.BR (hb s us I.iA hl) r2 h) λr s' hq=>?_);cases r with
 | error e=>exact hx Tk σ H s e s' I hq
 | ok fl=>
  cases fl with
  | ret u=>exact I.after hq
  | next=>exact False.elim hq
  | brk=>exact False.elim hq
  | cont=>exact False.elim hq
theorem PK(F:eU X.prog X.w X.K X.mg X.base CX k f fd ps sp)(hr:bA k X.A)(hg:Gl X x)(hm:X.mg x=some (.ref f))(hk:W.keepIn X.K (.ref f)=true)(hb:qy X.K fd ps ds)(hd:bc qx ds)(hx:yX CX X E)
  (ha:PA X (e::es) t) (kq:(x==("__debug__":Str))=false:=by decide) (he:starEach (e::es) X.env=(false,eval e X.env)::starEach es X.env:=by rfl) (cA:(backTo pos (starEach es X.env)).any (·.1)=false:=by rfl) :
  PE X (.Call (.Name x p) (e::es) [] pos) (PH sp qx E t):=by intro Tk s σ H Q I h;refine Va (N6 I hg hm ?_ kq);refine W.callWith_K (h₀:=X.base) I.ok.mod.Bv hk (bg (ha pos Tk s σ H _ I h) λus s1 ⟨vs,H1,I1,r,q⟩=>⟨I1.iA,?_⟩) he cA;exact PJ F hr hb hd hx I1 r q
structure Mk (K:PySem.W.Frag) (C f:Addr):Prop where
 makes:W.makesIn K C=true
 init:W.findIn K (.ref C) "__init__" = some (some (.ref f))
 fn:W.isFn K (.ref f)=true
 kp:W.keepIn K (.ref C)=true
end
structure ag (N P:List Str) (sc:Scope):Prop where
 kind:sc.kind=.function
 co:sc.isCoroutine=false
 gen:sc.isGenerator=false
 nd:N.Nodup
 pre:N.take P.length=P
 par:∀ x∈P,sc.names.lookup x=some .local\/sc.names.lookup x=some .cell
 rS:∀ y∈sc.names,y.2 ≠ .free
theorem cH{P:List Str}(h:N.Nodup/\(∀ x∈P,sc.names.lookup x=some .local\/sc.names.lookup x=some .cell)/\∀ y∈sc.names,y.2 ≠ .free)(a:sc.kind=.function:=by rfl)(b:sc.isCoroutine=false:=by rfl)(c:sc.isGenerator=false:=by rfl)(d:N.take P.length=P:=by rfl):ag N P sc:=⟨a,b,c,h.1,d,h.2.1,h.2.2⟩
theorem FQ:∀ {binds:List (Str×Value)} {m:Str->Option Value},(∀ v,(x,v) ∉ binds)->bindL kindOf binds m x=m x
 | [],_,_=>rfl
 | (n,v)::r,m,h=>by
  unfold bindL;rw[FQ λw hw=>h w (Qf _ hw)];split
  ·have:x≠n:=by rintro rfl;exact h v Qh
   simp[this]
  ·rfl
theorem FR:∀ {binds:List (Str×Value)} {m:Str->Option Value},(∀ v,(x,v) ∉ binds)->bindC kindOf binds m x=m x
 | [],_,_=>rfl
 | (n,v)::r,m,h=>by
  unfold bindC;rw[FR λw hw=>h w (Qf _ hw)];split
  ·rfl
  ·have:x≠n:=by rintro rfl;exact h v Qh
   simp[this]
theorem FT:∀ {P:List Str} {vs:List Value} {i:Nat} {m:Str->Option Value},P.Nodup->P[i]? = some x->vs[i]? = some v->kindOf x=some .local->
  bindL kindOf (P.zip vs) m x=some v
 | [],_,_,_,_,h,_,_=>by simp at h
 | _::_,[],_,_,_,_,h,_=>by simp at h
 | p::P,w::vs,0,m,nd,h1,h2,hk=>by simp at h1 h2;subst h1;subst h2;show bindL kindOf ((p,w)::P.zip vs) m p=_;unfold bindL;rw[FQ λv hv=>(Q5.mp nd).1 (YR hv).1,Qi hk];simp
 | p::P,w::vs,i+1,m,nd,h1,h2,hk=>by show bindL kindOf ((p,w)::P.zip vs) m x=_;unfold bindL;exact FT (i:=i) (Q5.mp nd).2 (by simpa using h1) (by simpa using h2) hk
theorem FU:∀ {P:List Str} {vs:List Value} {i:Nat} {m:Str->Option Value},P.Nodup->P[i]? = some x->vs[i]? = some v->kindOf x≠some .local->
  bindC kindOf (P.zip vs) m x=some v
 | [],_,_,_,_,h,_,_=>by simp at h
 | _::_,[],_,_,_,_,h,_=>by simp at h
 | p::P,w::vs,0,m,nd,h1,h2,hk=>by simp at h1 h2;subst h1;subst h2;show bindC kindOf ((p,w)::P.zip vs) m p=_;unfold bindC;rw[FR λv hv=>(Q5.mp nd).1 (YR hv).1,Ql hk];simp
 | p::P,w::vs,i+1,m,nd,h1,h2,hk=>by show bindC kindOf ((p,w)::P.zip vs) m x=_;unfold bindC;exact FU (i:=i) (Q5.mp nd).2 (by simpa using h1) (by simpa using h2) hk
def start (N:List Str)(vs:List V):St:=vs.map some++replicate (N.length-vs.length) none
def mP (CX:n_)(P:Program)(w:World)(K:PySem.W.Frag)(mg:Str->Option Value)(base:Heap)(N:List Str)(qual:Str)(scope:Scope)(f:Addr)(cd:Value)(A:Around)(outer:List Env)(s:Shared)(H:Hp)(E:XK):Cx where
 prog:=P
 w:=w
 K:=K
 mg:=mg
 base:=base
 A:=A.deeper (envOfC qual scope s.heap.objs.size f cd)
 N:=N
 cF:=s
 iW:=H
 env:=envOfC qual scope s.heap.objs.size f cd
 outer:=outer
 stack:=envOfC qual scope s.heap.objs.size f cd::outer
 ex:=[]
 calm:=true
 fn:=λ_=>true
 pn:=[]
 xe:=λe s'=>wpAny (model P w) (A.deeper (envOfC qual scope s.heap.objs.size f cd)) (leaving (envOfC qual scope s.heap.objs.size f cd) e) (λ_ qz=>CX outer H s E e qz) (λe' qz=>CX outer H s E e' qz) s'
theorem FV(h:sc.names.lookup x=some .cell):∃ c,(cellsFrom n sc.names []).lookup x=some c:=by have q:=JI sc.names n [] (.inl h);exact Jz.mp q
theorem PL{CX:n_}{f:Addr}{cd:Value}{outer:List Env}{s1:Shared}{H:Hp}{E:XK}{vs:List V}
  (S:ag N ps scope) (hd:A.handled=none) (e0:o7 P w K mg base A outer s H) (hl:vs.length=ps.length) (r:bc vs us)
  (x:InCallC s s.heap.objs.size (bindL (envOfC qual scope s.heap.objs.size f cd).kindOf (ps.zip us) λ_=>none) (cellsFrom (s.heap.objs.size+1) scope.names []) (bindC (envOfC qual scope s.heap.objs.size f cd).kindOf (ps.zip us) λ_=>none) s1) :
  Inv (mP CX P w K mg base N qual scope f cd A outer s H E) [] (start N vs) H s1:=by
 have cA:ps.length<=N.length:=by have:=ZD List.length S.pre;rw[Zi]at this;omega
 obtain⟨h1,tk,rfl,hk⟩:=x.done;have vU:∀ b:Addr,b ∉ (mP CX P w K mg base N qual scope f cd A outer s H E).ex:=λb z=>absurd (show b∈([]:List Addr)from z) (by simp);refine⟨⟨e0.mod,S.kind,rfl,rfl,Qj _,λy z c h1 h2=>?_,λy hy=>?_,λy c _ h=>?_,λ_=>hd,Around.frames_deeper e0.frames,.inr ⟨rfl,rfl⟩,λb z=>absurd z (vU b),e0.bs,e0.n4,λb _ _=>vU b,λb z=>absurd z (vU b),e0.gO,e0.uh⟩,
  rfl,e0.bare,Un.kept hk,⟨_,x.toInCall.ns,λi y v h1 h2 h3=>?_⟩,λy c h=>⟨_,x.cell y c h⟩,e0.aG.fresh (Qj _),λy c h=>?_,λp hp=>absurd (show p∈([]:List (Addr×Obj))from hp) (by simp),e0.aG.kept hk,?_⟩
 ·exact name_of_addr x.apart (Q0 h1) (Q0 h2)
 ·have hy:scope.names.lookup y=some .cell\/scope.names.lookup y=some .free:=hy;rcases hy with hy|hy
  ·exact FV hy
  ·exact absurd rfl (S.rS _ (Q0 hy))
 ·exact Z6 (x.above y c (Q0 h))
 ·have hi:i<vs.length:=by
   unfold start at h2;by_cases hi:i<vs.length
   ·exact hi
   ·rw[Zs (by simpa using hi)]at h2;rw[Ja]at h2;split at h2<;>cases h2
  have ha:vs[i]? = some v:=by
   unfold start at h2;rw[Q1 (by simpa using hi),Qm]at h2;cases e:vs[i]? with
   | none=>rw[e]at h2;cases h2
   | some a=>rw[e]at h2;cases h2;rfl
  obtain⟨u,hu,rv⟩:=r.get ha;have hp:ps[i]? = some y:=by rw[<- S.pre,Z7 (by omega)];exact h1
  have FW:ps.Nodup:=by rw[<- S.pre];exact S.nd.sublist (List.take_sublist _ _)
  refine⟨u,rv,?_⟩;rcases S.par y (QK hp)with k|k
  ·exact .inl ⟨k,FT FW hp hu k⟩
  ·obtain⟨c,e⟩:=FV (n:=s.heap.objs.size+1) k;refine .inr ⟨.inl k,c,e,?_⟩;have q:=x.cell y c e;rw[FU FW hp hu (by show scope.names.lookup y≠_;rw[k];decide)]at q;exact q
 ·exact e0.aG.fresh (Z6 (x.above y c (Q0 h)))
 ·unfold start;show _=N.length;rw[Qn,Qc,ZK];omega
theorem PM{CX:n_}{k:Nat}{f:Addr}{name:Str}{params:Arguments}{dV kV doc pm cO ct oc:Value}{an od:Option Addr}
  {o8:Array (Option Value)}  {sp:Sp} (lk:K.lookup f=some ⟨oc,od,.func (W.fnOf name qual params body scope dV kV doc pm an cO ct),o8⟩) (i3:W.codeIn K cO qual=true) (S:ag N ps scope)
  (len:∀ vs H Q E,sp vs H Q E->vs.length=ps.length)
  (mQ:∀ (A:Around) (outer:List Env) (s:Shared) (H:Hp) (vs:List V) (Q:VK) (E:XK),bA k (A.deeper (envOfC qual scope s.heap.objs.size f cO))->sp vs H Q E->
    ∃ t,iY (mP CX P w K mg base N qual scope f cO A outer s H E) body t/\t { nx:=λ_ H'=>Q .bK H',rt:=Q } (start N vs) H) :
  eU P w K mg base CX (k+1) f (W.fnOf name qual params body scope dV kV doc pm an cO ct) ps sp:=by
 refine⟨len,λA outer s H args us vs Q E hr e0 hb r oe=>?_⟩;have hl:=len _ _ _ _ oe;have KX:K.In s.heap:=e0.mod.Bv.keeps λb o e=>(e0.bs b o e).1;have lim:s.heap.NoLimit:=e0.mod.nolimit.keeps λb o e=>(e0.bs b o e).1;have vV:∀ y∈ps.zip us,scope.names.lookup y.1=some .local\/(scope.names.lookup y.1=some .cell/\((cellsFrom (s.heap.objs.size+1) scope.names []).lookup y.1).isSome=true):=λ⟨n,v⟩ hy=>by
  rcases S.par n (YR hy).1 with q|q
  ·exact .inl q
  ·exact .inr ⟨q,JI _ _ _ (.inl q)⟩
 refine codeAny_call_function hr.depth (KX _ _ lk) rfl S.co S.gen rfl (W.codeRec_of KX i3) (hb _ _ _ _ ?_);refine wpAny_newFunctionEnv_cells S.kind vV λenv he s1 x=>?_;subst he;refine⟨lim.keeps x.toInCall.keep,codeAny_func ?_⟩;obtain⟨t,ht,hq⟩:=mQ A outer s H vs Q E (hr.deeper _) oe;have I:Inv (mP CX P w K mg base N qual scope f cO A outer s H E) [] (start N vs) H s1:=PL S hr.hd e0 hl r x;refine ZR (ht [] s1 (start N vs) H _ I hq) (λfl s' hs=>?_) λe s' hs=>hs;have fin:∀ {aO:St} {H':Hp} {v:V} {u:Value},Inv (mP CX P w K mg base N qual scope f cO A outer s H E) [] aO H' s'->bP v u->Q v H'->CE outer P w H s Q u s':=
  λ{aO H' v u} J rv q=>⟨v,H',J.os,J.bare,J.base,J.aG,rv,q⟩
 cases fl with
 | ret u=>
  obtain⟨v,aO,H',J,rv,q⟩:=hs;exact fin J rv q
 | next=>
  obtain⟨aO,H',J,q⟩:=hs;exact fin (v:=V.bK) (u:=Value.none) J rfl q
 | brk=>
  obtain⟨_,_,_,q⟩:=hs;exact False.elim q
 | cont=>
  obtain⟨_,_,_,q⟩:=hs;exact False.elim q
section
variable {X:Cx}{x:Str}{p pos:Pos}{e:Expr}{es:List Expr}{t:TA}{id T:String}{r:List V->Hp->VK->Prop}
def yY (r:List V->Hp->VK->Prop)(t:TA):TE:=λσ H Q=>t σ H λvs H1=>r vs H1 Q
theorem o9(hc:kO X (.builtin id) r)(hg:Gl X x)(hm:X.mg x=none)(hv:bootBuiltins x=some (.builtin id))(ha:PA X (e::es) t)(hn:x ≠ "__name__":=by decide)(kq:(x==("__debug__":Str))=false:=by decide)
  (he:starEach (e::es) X.env=(false,eval e X.env)::starEach es X.env:=by rfl) (cA:(backTo pos (starEach es X.env)).any (·.1)=false:=by rfl):PE X (.Call (.Name x p) (e::es) [] pos) (yY r t):=by intro Tk s σ H Q I h;refine Va (uj I hg hm hv ?_ hn kq);exact PyProof.Rows.callWith_builtin1 (bg (ha pos Tk s σ H _ I h) λus s1 ⟨vs,H1,I1,r1,q1⟩=>hc Tk s1 σ H1 vs us Q I1 r1 q1) he cA
theorem vW(hc:kO X (.type T) r)(hg:Gl X x)(hm:X.mg x=none)(hv:bootBuiltins x=some (.type T))(ha:PA X (e::es) t)(hn:x ≠ "__name__":=by decide)(kq:(x==("__debug__":Str))=false:=by decide)
  (he:starEach (e::es) X.env=(false,eval e X.env)::starEach es X.env:=by rfl) (cA:(backTo pos (starEach es X.env)).any (·.1)=false:=by rfl):PE X (.Call (.Name x p) (e::es) [] pos) (yY r t):=by intro Tk s σ H Q I h;refine Va (uj I hg hm hv ?_ hn kq);exact Ji (bg (ha pos Tk s σ H _ I h) λus s1 ⟨vs,H1,I1,r1,q1⟩=>hc Tk s1 σ H1 vs us Q I1 r1 q1) he cA
end
end L2
namespace HT
open PySem PyProof.Rows
variable {Q:Tl}{hi lo:Option Int}{sl:Addr}{vl vu:Value}
section
open PySem.SeqAt
open PySem.AutoSeq1 (wpAny_loadPart')
open PySem.MeetsSeq PySem.MeetsSeq2 PySem.MeetsSeq3
end
section
variable {prog:Program}{w:World}{A:Around}{E:Tl}{s:Shared}
theorem PN{t b:Addr}{vs ws:List Value}(ht:IsTup s.heap t vs.toArray)(hb:IsTup s.heap b ws.toArray)(hv:vs ≠ [])
  (h1:ws=[]->Q (.ref t) s) (h2:ws ≠ []->Q (.ref s.heap.objs.size) { s with heap:=s.heap.push { cls:=.type "tuple",data:=.seq (vs++ws).toArray } })
  (hsz:vs.length+ws.length<=sizeLine):wpAny (model prog w) A (binaryOp .Add (.ref t) (.ref b)) Q E s:=by
 obtain⟨⟨cls,dd,data,sl⟩,ho,hc,n,hd⟩:=id ht;obtain⟨⟨BU,yZ,data2,y6⟩,rT,og,n2,hd2⟩:=id hb;simp only at hc hd og hd2;subst hc hd og hd2;have e:vs.toArray++ws.toArray=(vs++ws).toArray:=by simp
 by_cases hw:ws=[]
 ·exact VQ ⟨_,ho,rfl⟩ ⟨_,rT,rfl⟩ VH seq_tuple_add Yo Yj (Yb _ _)
   (tuple_addW1 t b vs.toArray ws.toArray n n2 dd yZ sl y6 (by simpa using hv) (by simp[hw])) ⟨ho,rT,h1 hw⟩
 ·refine VQ ⟨_,ho,rfl⟩ ⟨_,rT,rfl⟩ VH seq_tuple_add Yo Yj (Yb _ _)
   (tuple_addW2 t b vs.toArray ws.toArray n n2 dd yZ sl y6 (by simpa using hv) (by simpa using hw) (by rw[Qo,Qo];exact hsz)) ⟨ho,rT,?_⟩
  rw[e];exact h2 hw
def bH (n d:Nat):Option Int->Nat
 | none=>d
 | some v=>if v<0 then(v+(n:Int)).toNat else min v.toNat n
theorem PR(n d:Nat)(hd:d<=n)(o:Option Int):bH n d o<=n:=by
 cases o with
 | none=>exact hd
 | some v=>
  show(if v<0 then(v+(n:Int)).toNat else min v.toNat n)<=n;by_cases hv:v<0
  ·rw[Qi hv];omega
  ·rw[Ql hv];exact Nat.min_le_right _ _
theorem FX(v:Int)(n d:Nat):(if v<0 then max (v+(n:Int)) 0 else min v (n:Int))=((bH n d (some v):Nat):Int):=by
 show(if v<0 then max (v+(n:Int)) 0 else min v (n:Int))=(((if v<0 then(v+(n:Int)).toNat else min v.toNat n):Nat):Int);by_cases hv:v<0
 ·simp only[Qi hv];omega
 ·simp only[Ql hv];omega
theorem PU(lo hi:Option Int)(n:Nat):Builtin.Slice.sliceAdjust lo hi 1 (n:Int)=(((bH n 0 lo:Nat):Int),((bH n n hi:Nat):Int)):=by
 have h1:¬ ((1:Int)<0):=by omega
 unfold Builtin.Slice.sliceAdjust;simp only[h1,Zf];refine Ue ?_ ?_
 ·cases lo with
  | none=>rfl
  | some v=>exact FX v n 0
 ·cases hi with
  | none=>rfl
  | some v=>exact FX v n n
theorem PV(i j:Nat):Builtin.Slice.slicePlaces (i:Int) (j:Int) 1=j-i:=by
 unfold Builtin.Slice.slicePlaces;have h1:(1:Int) > 0:=by omega
 simp only[h1,ZC,Int.ediv_one];split<;>omega
theorem FY{v:Value}{o:Option Int}{Q:Option Int->Shared->Prop}(p:IsPart v o)(h:Q o s):wpAny (model prog w) A (Builtin.Slice.slicePartIndex v) Q E s:=by
 cases p with
 | none=>exact slicePart_none h
 | int i t=>exact slicePart_int h
theorem FZ{n:Nat}{Q:Int×Int×Nat->Shared->Prop}(hs:s.heap.IsSliceOf sl vl vu .none)(pl:IsPart vl lo)(pu:IsPart vu hi)
  (h:Q (((bH n 0 lo:Nat):Int),1,bH n n hi-bH n 0 lo) s):wpAny (model prog w) A (Builtin.Slice.sliceApplied (.ref sl) (pure (n:Int))) Q E s:=by obtain⟨os,rV,y7,vX⟩:=id hs;unfold Builtin.Slice.sliceApplied Builtin.Slice.sliceFields;refine Qa (Qa (ZI rV vX (x:=vl) rfl (Qa (ZI rV vX (x:=vu) rfl (Qa (ZI rV vX (x:=.none) rfl (Qe ?_)))))));refine Qa (slicePart_none ?_);show wpAny _ _ (if((1:Int)==0)=true then _ else _) _ _ s;rw[Ql (by decide)];refine Qa (FY pl (Qa (FY pu (Qa (Qe ?_)))));show wpAny _ _ (match Builtin.Slice.sliceAdjust lo hi 1 (n:Int)with|(lo,hi)=>pure (lo,(1:Int),Builtin.Slice.slicePlaces lo hi 1)) _ _ s;rw[PU lo hi n];show wpAny _ _ (pure (((bH n 0 lo:Nat):Int),(1:Int),Builtin.Slice.slicePlaces ((bH n 0 lo:Nat):Int) ((bH n n hi:Nat):Int) 1)) _ _ s;rw[PV];exact Qe h
theorem PX(xs:Array Value)(i k:Nat):((range k).filterMap λ(m:Nat)=>xs[((i:Int)+(m:Int)*1).toNat]?).toArray=((xs.toList.drop i).take k).toArray:=by
 have e:(λ(m:Nat)=>xs[((i:Int)+(m:Int)*1).toNat]?)=λm=>xs[i+m]?:=by
  funext m;have:((i:Int)+(m:Int)*1).toNat=i+m:=by omega
  rw[this]
 rw[e];have:=pick_run xs i k;rw[List.filterMap_map]at this;have e2:((λx=>xs[x]?) ∘ λx=>i+x)=λm=>xs[i+m]?:=rfl;rw[e2]at this;rw[this]
theorem PY{t:Addr}{items:Array Value}(ht:IsTup s.heap t items)(hs:s.heap.IsSliceOf sl vl vu .none)(pl:IsPart vl lo)(pu:IsPart vu hi)
  (hw:¬ (bH items.size 0 lo=0/\bH items.size items.size hi=items.size))
  (h:Q (.ref s.heap.objs.size) { s with heap:=s.heap.push { cls:=.type "tuple",data:=.seq ((items.toList.drop (bH items.size 0 lo)).take (bH items.size items.size hi-bH items.size 0 lo)).toArray } })
  (hsz:items.size<=sizeLine):wpAny (model prog w) A (getItem (.ref t) (.ref sl)) Q E s:=by
 have kP:sizeOk (.seq ((items.toList.drop (bH items.size 0 lo)).take (bH items.size items.size hi-bH items.size 0 lo)).toArray):=by show((items.toList.drop (bH items.size 0 lo)).take (bH items.size items.size hi-bH items.size 0 lo)).toArray.size<=sizeLine;rw[Qo,Zi,Z1,QA];omega
 have hj:bH items.size items.size hi<=items.size:=PR _ _ (Qj _) hi;obtain⟨os,rV,y7,vX⟩:=id hs;have PZ:s.TypeIs (.ref sl) "slice":=⟨os,rV,y7⟩;unfold getItem
 try with_reducible refine Zc ?_
 first|refine Qa (Qe ?_)|skip
 refine Qa (wpAny_sequenceKey ht.typeIs (by decide) ?_);refine Qa (Za (name:=Str.ofString "__getitem__") ht.typeIs Zq
  (QY Zq ht.typeIs entry_tuple_getitem ?_ (args_tuple_getitem _ _)))
 show wpAny _ _ (Builtin.Tuple.tupleItemsOf (.ref t) >>= _) _ _ s;refine Qa (tupleItemsOf_ ht ?_);refine Qa (Yp PZ ?_);rw[Qi (by decide)];refine Qa (FZ hs pl pu ?_);have BV:¬ ((((bH items.size 0 lo:Nat):Int)==0&&(1:Int)==1&&(bH items.size items.size hi-bH items.size 0 lo)==items.size)=true):=by intro q;rw[ZF,ZF]at q;have q1:((bH items.size 0 lo:Nat):Int)=0:=eq_of_beq q.1.1;have q2:bH items.size items.size hi-bH items.size 0 lo=items.size:=eq_of_beq q.2;exact hw ⟨by omega,by omega⟩
 show wpAny _ _ (if(((bH items.size 0 lo:Nat):Int)==0&&(1:Int)==1&&(bH items.size items.size hi-bH items.size 0 lo)==items.size)=true then _ else _) _ _ s;rw[Ql BV,PX]
 first
  | exact Qa (m:=Builtin.Tuple.tupleExact _) (Q8 (Qe ⟨_,rfl,Qe h⟩) kP)
  | exact Qa (m:=Builtin.Tuple.tupleExact _) (Q8 (Qa (Qe (Qe ⟨_,rfl,Qe h⟩))) kP)
  | exact Qa (Qa (m:=Builtin.Tuple.tupleExact _) (Q8 (Qe (Qe ⟨_,rfl,Qe h⟩)) kP))
  | exact Qa (Qa (m:=Builtin.Tuple.tupleExact _) (Q8 (Qe ⟨_,rfl,Qe h⟩) kP))
end
end HT
namespace L2
open PySem PySem.Spec PyProof.Rows
variable {H:Hp}{i:Int}{n:Nat}{Tk:List (Addr×Obj)}{r:V->Option Int->Option Int->Hp->VK->Prop}{s:Shared}{us:List Value}{xs:List V}{σ:St}
abbrev TO:=St->Hp->(Option Int->Hp->Prop)->Prop
def PO (X:Cx)(e:Option Expr)(t:TO):Prop:=
 ∀ (Tk:List (Addr×Obj)) (s:Shared) (σ:St) (H:Hp) (Q:Option Int->Hp->Prop),Inv X Tk σ H s->t σ H Q->
  wpAny (model X.prog X.w) X.A (evalPart e X.env) (λu s'=>∃ o H',Inv X Tk σ H' s'/\IsPart u o/\Q o H') X.xe s
def P0:TO:=λ_ H Q=>Q none H
def P1 (t:TE):TO:=λσ H Q=>t σ H λx H1=>∃ i,x=.int i/\Q (some i) H1
section
variable {X:Cx}{e:Expr}{te:TE}{lo hi:Option Expr}{tl th:TO}{pos p2:Pos}
theorem P2:PO X none P0:=by intro Tk s σ H Q I h;rw[evalPart_none];exact Qe ⟨none,H,I,.none,h⟩
theorem P4(h:PE X e te):PO X (some e) (P1 te):=by intro Tk s σ H Q I hw;rw[evalPart_some];refine bg (h Tk s σ H _ I hw) λu s1 aj=>?_;obtain⟨x,H1,I1,r1,q1⟩:=aj;obtain⟨i,rfl,q⟩:=q1;obtain⟨t,rfl⟩:=r1;exact⟨some i,H1,I1,.int i t,q⟩
def qA (X:Cx)(r:V->Option Int->Option Int->Hp->VK->Prop):Prop:=
 ∀ (Tk:List (Addr×Obj)) (s:Shared) (σ:St) (H:Hp) (x:V) (v vl vu:Value) (lo hi:Option Int) (sl:Addr) (Q:VK),Inv X Tk σ H s->bP x v->s.heap.IsSliceOf sl vl vu .none->IsPart vl lo->IsPart vu hi->r x lo hi H Q->
  ∃ T id,typeLookup (.type T) "__getitem__" = pure (some (.builtin id))/\s.TypeIs v T/\wpAny (model X.prog X.w) X.A (getItem v (.ref sl)) (EP X Tk σ Q) X.xe s
theorem qA.or{r':V->Option Int->Option Int->Hp->VK->Prop}(h:qA X r)(h':qA X r'):qA X (λx lo hi H Q=>r x lo hi H Q\/r' x lo hi H Q):=by
 intro Tk s σ H x v vl vu lo hi sl Q I rx hs pl pu q;rcases q with q|q
 ·exact h Tk s σ H x v vl vu lo hi sl Q I rx hs pl pu q
 ·exact h' Tk s σ H x v vl vu lo hi sl Q I rx hs pl pu q
def P5 (r:V->Option Int->Option Int->Hp->VK->Prop)(te:TE)(tl th:TO):TE:=λσ H Q=>te σ H λx H1=>tl σ H1 λl H2=>th σ H2 λu H3=>r x l u H3 Q
theorem P6(hr:qA X r)(he:PE X e te)(hl:PO X lo tl)(hu:PO X hi th):PE X (.Subscript e (.Slice lo hi none p2) pos) (P5 r te tl th):=by intro Tk s σ H Q I h;refine Subscript_ (bg (he Tk s σ H _ I h) λv s1 aj=>?_);obtain⟨x,H1,I1,r1,q1⟩:=aj;refine wpAny_Slice (bg (hl Tk s1 σ H1 _ I1 q1) λvl s2 ⟨l,H2,I2,pl,q2⟩=>bg (hu Tk s2 σ H2 _ I2 q2) λvu s3 aj=>?_);obtain⟨u,H3,I3,pu,q3⟩:=aj;rw[evalPart_none];refine Qe ?_;have I4:Inv X Tk σ H3 { s3 with heap:=s3.heap.push { cls:=.type "slice",data:=.fields #[vl,vu,.none] } }:=I3.kept (t':=s3.toks) λb ob q=>Qd _ q;obtain⟨T,id,hT,ht,hg⟩:=hr Tk { s3 with heap:=s3.heap.push { cls:=.type "slice",data:=.fields #[vl,vu,.none] } } σ H3 x v vl vu l u s3.heap.objs.size Q I4 r1 (Heap.IsSliceOf.new ..) pl pu q3;show wpAny (model X.prog X.w) X.A (subscriptTail e (.Slice lo hi none p2) v (.ref s3.heap.objs.size)) (EP X Tk σ Q) X.xe { s3 with heap:=s3.heap.push { cls:=.type "slice",data:=.fields #[vl,vu,.none] } };exact tail_any (ops:=[.ref s3.heap.objs.size,v]) ht hT hg (by with_unfolding_all rfl)
def qB (xs:List V)(lo hi:Option Int):List V:=(xs.drop (HT.bH xs.length 0 lo)).take (HT.bH xs.length xs.length hi-HT.bH xs.length 0 lo)
theorem F4(xs:List V)(lo hi:Option Int):(qB xs lo hi).length<=xs.length:=by unfold qB;rw[Zi,Z1];omega
def P7 (K:PySem.W.Frag):V->Option Int->Option Int->Hp->VK->Prop:=λx lo hi H Q=>∃ a xs,x=.ref a/\cG K H a xs /\
 ¬ (HT.bH xs.length 0 lo=0/\HT.bH xs.length xs.length hi=xs.length)/\∀ p,H p=none->Q (.ref p) (upd H p (.tup (qB xs lo hi)))
theorem P8:qA X (P7 X.K):=by
 intro Tk s σ H x v vl vu lo hi sl Q I rx hs pl pu h;obtain⟨a,xs,rfl,hx,hw,q⟩:=h;cases rx;obtain⟨aq,r,ht,hz⟩:=I.tuple hx;have hlen:aq.toArray.size=xs.length:=by rw[Qo];exact r.length.symm
 refine⟨"tuple",_,Zq.lookup,ht.typeIs,?_⟩;refine HT.PY ht hs pl pu (by rw[hlen];exact hw) ?_ (by rw[hlen];exact hz);rw[hlen];refine⟨.ref s.heap.objs.size,_,I.laid (t':=s.toks) (o:=.tup (qB xs lo hi)) (λb ob q=>Qd _ q) (Qj _) ?_,rfl,q _ (I.aG.fresh (Qj _))⟩;exact⟨QJ (F4 xs lo hi) hz,_,(r.drop (HT.bH xs.length 0 lo)).take (HT.bH xs.length xs.length hi-HT.bH xs.length 0 lo),lD.new _ _⟩
def P9 (K:PySem.W.Frag):R2:=λx y H Q=>∃ a b xs ys,x=.ref a/\y=.ref b/\cG K H a xs/\cG K H b ys/\xs ≠ []/\xs.length+ys.length<=sizeLine /\
 (ys=[]->Q (.ref a) H)/\(ys ≠ []->∀ p,H p=none->Q (.ref p) (upd H p (.tup (xs++ys))))
theorem bc.i5(r:bc xs us):us=[] ↔ xs=[]:=by
 cases r with
 | nil=>simp
 | cons _ _=>simp
theorem P_:dO X (binaryOp .Add) (P9 X.K):=by intro Tk s σ H x y v u Q I rx ry h;obtain⟨a,b,xs,ys,rfl,rfl,ha,hb,hx,hz,q1,q2⟩:=h;cases rx;cases ry;obtain⟨aq,r1,p1,_⟩:=I.tuple ha;obtain⟨iC,r2,p2,_⟩:=I.tuple hb;refine HT.PN p1 p2 (λz=>hx (r1.i5.mp z)) (λz=>⟨.ref a,H,I,rfl,q1 (r2.i5.mp z)⟩) (λz=>?_) (by rw[<- r1.length,<- r2.length];exact hz);refine⟨.ref s.heap.objs.size,_,I.laid (t':=s.toks) (o:=.tup (xs++ys)) (λb ob q=>Qd _ q) (Qj _) ?_,rfl,q2 (λw=>z (r2.i5.mpr w)) _ (I.aG.fresh (Qj _))⟩;exact⟨by rw[Qn];exact hz,_,r1.append r2,lD.new _ _⟩
end
def kr (n:Nat)(i:Int):Option Nat:=if 0<=i then(if i<n then some i.toNat else none)else if -(n:Int)<=i then some (i+n).toNat else none
def eR {α:Type}(xs:List α)(i:Int):Option α:=(kr xs.length i).bind λj=>xs[j]?
theorem y8{j:Nat}(h:kr n i=some j):seqIndex? i n=some j/\j<n /\ -(n:Int)<=i/\i<n:=by
 unfold kr at h;by_cases h0:0<=i
 ·rw[Qi h0]at h;by_cases h1:i<n
  ·rw[Qi h1]at h;have e:i.toNat=j:=QL h;exact⟨by rw[seqIndex_of h0 h1,e],by omega,by omega,h1⟩
  ·rw[Ql h1]at h;cases h
 ·rw[Ql h0]at h;by_cases h1:-(n:Int)<=i
  ·rw[Qi h1]at h;have e:(i+n).toNat=j:=QL h;exact⟨by rw[seqIndex_neg (by omega) h1,e],by omega,h1,by omega⟩
  ·rw[Ql h1]at h;cases h
theorem BW{α:Type}{xs:List α}{v:α}(h:eR xs i=some v):∃ j,seqIndex? i xs.length=some j/\xs[j]? = some v/\j<xs.length /\ -(xs.length:Int)<=i/\i<xs.length:=by
 unfold eR at h;cases e:kr xs.length i with
 | none=>rw[e]at h;cases h
 | some j=>
  rw[e]at h;obtain⟨h1,h2,h3,h4⟩:=y8 e;exact⟨j,h1,h,h2,h3,h4⟩
def uq (b:Expr):Prop:=∀ o i,subscripted b false o i=operate [o,i] (getItem o i)
def o_ (X:Cx)(r:R2):Prop:=
 ∀ (value slice:Expr) (Tk:List (Addr×Obj)) (s:Shared) (σ:St) (H:Hp) (x y:V) (v u:Value) (Q:VK),Inv X Tk σ H s->bP x v->bP y u->r x y H Q->
  subscripted slice false v u=operate [v,u] (getItem v u)->wpAny (model X.prog X.w) X.A (subscriptTail value slice v u) (EP X Tk σ Q) X.xe s
def F5 (X:Cx)(id:String)(r:V->List V->Hp->VK->Prop):Prop:=
 ∀ (Tk:List (Addr×Obj)) (s:Shared) (σ:St) (H:Hp) (x:V) (xs:List V) (v:Value) (us:List Value) (Q:VK),Inv X Tk σ H s->bP x v->bc xs us->r x xs H Q->
  wpAny (model X.prog X.w) X.A (call (.builtin id) (v::us)) (EP X Tk σ Q) X.xe s
section
variable {X:Cx}{a b:Expr}{ta tb:TE}{pos:Pos}
theorem o_.or{r r':R2}(h:o_ X r)(h':o_ X r'):o_ X (λx y H Q=>r x y H Q\/r' x y H Q):=by
 intro value slice Tk s σ H x y v u Q I rx ry q hs;rcases q with q|q
 ·exact h value slice Tk s σ H x y v u Q I rx ry q hs
 ·exact h' value slice Tk s σ H x y v u Q I rx ry q hs
theorem vY{r:R2}(hr:o_ X r)(ha:PE X a ta)(hb:PE X b tb)(hs:uq b):PE X (.Subscript a b pos) (kn r ta tb):=by intro Tk s σ H Q I h;exact Subscript_ (BN ha hb I h λv u s2 x y H2 I2 rx ry q=>hr a b Tk s2 σ H2 x y v u Q I2 rx ry q (hs _ _))
def F7 (K:PySem.W.Frag):R2:=λx y H Q=>∃ p xs i v,x=.ref p/\y=.int i/\cW K H p xs/\eR xs i=some v/\Q v H
def F8 (K:PySem.W.Frag):R2:=λx y H Q=>∃ p xs i v,x=.ref p/\y=.int i/\cG K H p xs/\eR xs i=some v/\Q v H
def F9:R2:=λx y H Q=>∃ z i c,x=.str z/\y=.int i/\z.length<=sizeLine/\eR z.cps.toList i=some c/\Q (.str ⟨#[c]⟩) H
theorem Q_:o_ X (F7 X.K):=by
 intro value slice Tk s σ H x y v u Q I rx ry h hs;obtain⟨p,xs,i,z,rfl,rfl,hq,he,q⟩:=h;cases rx;obtain⟨t,rfl⟩:=ry;obtain⟨aq,r,pl,hz⟩:=I.list hq;obtain⟨j,h1,h2,h3,h4,h5⟩:=BW he;obtain⟨w,ew,lH⟩:=r.get h2;have hl:=r.length;have hn:=uk;have fin:EP X Tk σ Q w s:=⟨z,H,I,lH,q⟩;by_cases h0:0<=i
 ·have hj:i.toNat=j:=by rw[seqIndex_of h0 h5]at h1;exact QL h1
  exact item_listR pl.isList h0 (by omega) (by rw[hj];simpa using ew) fin hs
 ·have hj:(i+(aq.toArray.size:Int)).toNat=j:=by rw[seqIndex_neg (by omega) h4]at h1;rw[Qo,<- hl];exact QL h1
  exact subscriptTail_builtinR (x:=w) pl.isList.typeIs Vw.lookup
   (wpAny_getItem_list_neg (Q:=λr s'=>r=w/\EP X Tk σ Q r s') pl.isList (by omega) (by rw[Qo]<;>omega) (by omega) (by rw[hj];simpa using ew) ⟨rfl,fin⟩) hs
theorem Ra:o_ X (F8 X.K):=by
 intro value slice Tk s σ H x y v u Q I rx ry h hs;obtain⟨p,xs,i,z,rfl,rfl,hq,he,q⟩:=h;cases rx;obtain⟨t,rfl⟩:=ry;obtain⟨aq,r,pl,hz⟩:=I.tuple hq;obtain⟨j,h1,h2,h3,h4,h5⟩:=BW he;obtain⟨w,ew,lH⟩:=r.get h2;have hl:=r.length;have hn:=uk;have fin:EP X Tk σ Q w s:=⟨z,H,I,lH,q⟩;exact subscriptTail_builtinR (x:=w) pl.typeIs slot_tuple_getitem.lookup
  (getItem_tuple (j:=j) (Q:=λr s'=>r=w/\EP X Tk σ Q r s') pl (by omega) (by omega) (by rw[Qo,<- hl];exact h1) (by simpa using ew) ⟨rfl,fin⟩) hs
theorem Rb:o_ X F9:=by
 intro value slice Tk s σ H x y v u Q I rx ry h hs;obtain⟨z,i,c,rfl,rfl,hz,he,q⟩:=h;obtain⟨t,rfl⟩:=rx;obtain⟨t',rfl⟩:=ry;obtain⟨j,h1,h2,h3,h4,h5⟩:=BW he;have hl:z.cps.toList.length=z.length:=by simp[Str.length]
 rw[hl]at h1 h4 h5;have hn:=uk;exact tail_any (typeIs_str s z t) slot_str_getitem.lookup (getItem_str (c:=c) (by have e1:decide (i < -(2 ^ 63:Int))=false:=Qy (by omega);have e2:decide (i ≥ 2 ^ 63)=false:=Qy (by omega);rw[e1,e2,Bool.or_false]) (by rw[h1];simpa using h2) ⟨.str ⟨#[c]⟩,H,I.tok _,⟨_,rfl⟩,q⟩) hs
def Rc (K:PySem.W.Frag):R2:=λx y H Q=>F7 K x y H Q\/F8 K x y H Q\/F9 x y H Q
theorem vZ:o_ X (Rc X.K):=Q_.or (Ra.or Rb)
theorem Rf(aq:List Value)(n j:Nat)(u:Value):Obj.mapSeq (·.setIfInBounds j u) { cls:=.type "list",data:=.seq aq.toArray n }={ cls:=.type "list",data:=.seq (aq.set j u).toArray n }:=by simp[Obj.mapSeq]
theorem Inv.lst{Tk:List (Addr×Obj)}{σ:St}{H:Hp}{s:Shared}{p:Addr}{xs:List V}(I:Inv X Tk σ H s)(h:H p=some (.lst xs)) :
  ∃ (aq:List Value) (n:Nat),bc xs aq/\s.heap.get? p=some { cls:=.type "list",data:=.seq aq.toArray n }/\xs.length<=sizeLine:=by obtain⟨z,aq,n,r,e⟩:=I.aG p _ h;exact⟨aq,n,r,e,z⟩
theorem Inv.rW{p:Addr}{xs ys:List V}{aq its':List Value}{n n':Nat}{f:Obj->Obj}(I:Inv X Tk σ H s)(h:H p=some (.lst xs))
  (ho:s.heap.get? p=some { cls:=.type "list",data:=.seq aq.toArray n }) (hf:f { cls:=.type "list",data:=.seq aq.toArray n }={ cls:=.type "list",data:=.seq its'.toArray n' }) (r:bc ys its') (hz:ys.length<=sizeLine) (t:Nat) :
  Inv X Tk σ (upd H p (.lst ys)) { s with heap:=s.heap.update p f,toks:=t }:=by
 have e:(s.heap.update p f).get? p=some { cls:=.type "list",data:=.seq its'.toArray n' }:=by rw[Z0 f ho (by rw[hf]<;>rfl),hf]
 refine I.write (x:=p) (e:=p) (by rw[h];trivial) (.inl rfl) (λb u hb q=>(ZS _ _ (Zm hb)).trans q) ⟨_,e⟩ ?_;exact⟨hz,its',n',r,e⟩
def Rg:V->V->V->Hp->(Hp->Prop)->Prop:=λo i v H Q=>∃ p xs k j,o=.ref p/\i=.int k/\H p=some (.lst xs)/\kr xs.length k=some j/\Q (upd H p (.lst (xs.set j v)))
theorem Rh:FC X Rg:=by
 intro Tk s σ H o i v ov iv u Q I ro ri rv h;obtain⟨p,xs,k,j,rfl,rfl,hp,hj,q⟩:=h;cases ro;obtain⟨t,rfl⟩:=ri;obtain⟨aq,n,r,ho,hz⟩:=I.lst hp;obtain⟨h1,h2,h3,h4⟩:=y8 hj;have hl:=r.length;have hn:=uk;have I':Inv X Tk σ (upd H p (.lst (xs.set j v))) { s with heap:=s.heap.update p (Obj.mapSeq (·.setIfInBounds j u)) }:=
  I.rW hp ho (Rf aq n j u) (r.set rv j) (by rw[Zj];exact hz) s.toks
 by_cases h0:0<=k
 ·have hk:k.toNat=j:=by rw[seqIndex_of h0 h4]at h1;exact QL h1
  exact W.ki_setAt ho h0 (by omega) (by rw[Qo,<- hl];exact h4) (by rw[hk];exact⟨_,I',q⟩)
 ·have hk:(k+(aq.toArray.size:Int)).toNat=j:=by rw[seqIndex_neg (by omega) h3]at h1;rw[Qo,<- hl];exact QL h1
  exact W.ki_setBack ho (by omega) (by rw[Qo,<- hl];exact h3) (by omega) (by rw[hk];exact⟨_,I',q⟩)
theorem Ri(lo hi:Option Int)(n:Nat):(sliceBounds lo hi none n).1=((HT.bH n 0 lo:Nat):Int)/\(sliceBounds lo hi none n).2.1=((HT.bH n n hi:Nat):Int)/\(sliceBounds lo hi none n).2.2=1:=by
 refine⟨?_,?_,rfl⟩
 ·cases lo with
  | none=>simp[sliceBounds,HT.bH]
  | some i=>
   simp only[sliceBounds,HT.bH,Option.getD_none,show(1:Int) > 0 by decide,ZC];by_cases h:i<0
   ·simp only[h,ZC]<;>omega
   ·simp only[h,Zf]<;>omega
 ·cases hi with
  | none=>simp[sliceBounds,HT.bH]
  | some i=>
   simp only[sliceBounds,HT.bH,Option.getD_none,show(1:Int) > 0 by decide,ZC];by_cases h:i<0
   ·simp only[h,ZC]<;>omega
   ·simp only[h,Zf]<;>omega
theorem Rj(aq:List Value)(lo hi:Option Int):slicePick aq.toArray lo hi none=((aq.drop (HT.bH aq.length 0 lo)).take (HT.bH aq.length aq.length hi-HT.bH aq.length 0 lo)).toArray:=by obtain⟨h1,h2,h3⟩:=Ri lo hi aq.toArray.size;unfold slicePick;rw[h1,h2,h3];simp only[sliceRange_one,pick_run,Qo]<;>rfl
def Rk (K:PySem.W.Frag):V->Option Int->Option Int->Hp->VK->Prop:=λx lo hi H Q=>∃ a xs,x=.ref a/\cW K H a xs/\∀ p,H p=none->Q (.ref p) (upd H p (.lst (qB xs lo hi)))
theorem k0r:qA X (Rk X.K):=by intro Tk s σ H x v vl vu lo hi sl Q I rx hs pl pu h;obtain⟨a,xs,rfl,hx,q⟩:=h;cases rx;obtain⟨aq,r,ht,hz⟩:=I.list hx;have hlen:=r.length;refine⟨"list",_,Vw.lookup,ht.isList.typeIs,?_⟩;refine wpAny_getItem_list_slice ht.isList hs pl pu .none (by simp) ?_ (by rw[Qo]<;>omega);rw[Rj,<- hlen];refine⟨.ref s.heap.objs.size,_,I.laid (t':=s.toks) (o:=.lst (qB xs lo hi)) (λb ob q=>Qd _ q) (Qj _) ?_,rfl,q _ (I.aG.fresh (Qj _))⟩;exact⟨QJ (F4 xs lo hi) hz,_,0,(r.drop (HT.bH xs.length 0 lo)).take (HT.bH xs.length xs.length hi-HT.bH xs.length 0 lo),Qp _ rfl⟩
theorem BX:kO X (.builtin "len") (λxs H Q=>∃ p ys,xs=[.ref p]/\(cW X.K H p ys\/cG X.K H p ys)/\Q (.int ys.length) H):=by
 intro Tk s σ H xs us Q I r h;obtain⟨p,ys,rfl,hq,q⟩:=h;obtain⟨u,rfl,rx⟩:=mM r;cases rx;have hn:=uk;rcases hq with hq|hq
 ·obtain⟨aq,r',pl,hz⟩:=I.list hq;have hlen:=r'.length;exact Calls.call_len_list pl.isList (by simp only[Qo]<;>omega) ⟨.int ys.length,H,I.tok _,⟨s.toks+1,by rw[Qo,hlen]⟩,q⟩
 ·obtain⟨aq,r',pl,hz⟩:=I.tuple hq;have hlen:=r'.length;exact len_tuple pl (by simp only[Qo]<;>omega) ⟨.int ys.length,H,I.tok _,⟨s.toks+1,by rw[Qo,hlen]⟩,q⟩
theorem Rl:kO X (.type "list") (λxs H Q=>∃ p ys,xs=[.ref p]/\(cW X.K H p ys\/cG X.K H p ys)/\∀ l,H l=none->Q (.ref l) (upd H l (.lst ys))):=by
 intro Tk s σ H xs us Q I r h;obtain⟨p,ys,rfl,hq,q⟩:=h;obtain⟨u,rfl,rx⟩:=mM r;cases rx;have fin:∀ (aq:List Value),bc ys aq->ys.length<=sizeLine->∀ (h':Heap) (c':Nat),(∀ b o',s.heap.get? b=some o'->h'.get? b=some o')->
   h'.get? s.heap.objs.size=some { cls:=.type "list",dict:=none,data:=.seq aq.toArray c',slots:=#[] }->EP X Tk σ Q (.ref s.heap.objs.size) { s with heap:=h' }:=λaq r' hz h' c' kp e=>
  ⟨.ref s.heap.objs.size,_,I.laid (t':=s.toks) kp (Qj _) (show dA X.prog X.w _ h' _ (.lst ys)from⟨hz,aq,c',r',e⟩),rfl,q _ (I.aG.fresh (Qj _))⟩
 rcases hq with hq|hq
 ·obtain⟨aq,r',pl,hz⟩:=I.list hq;have hlen:=r'.length;obtain⟨o,ho,hc,n,hd⟩:=pl.isList;exact call_list_seq p (.inl rfl) ho hc hd (λh' c' kp e=>fin aq r' hz h' c' kp e) (by simp only[Qo]<;>omega)
 ·obtain⟨aq,r',pl,hz⟩:=I.tuple hq;have hlen:=r'.length;obtain⟨o,ho,hc,n,hd⟩:=pl;exact call_list_seq p (.inr rfl) ho hc hd (λh' c' kp e=>fin aq r' hz h' c' kp e) (by simp only[Qo]<;>omega)
theorem Rm:kO X (.type "tuple") (λxs H Q=>∃ p ys,xs=[.ref p]/\((cW X.K H p ys/\∀ l,H l=none->Q (.ref l) (upd H l (.tup ys)))\/(cG X.K H p ys/\Q (.ref p) H))):=by
 intro Tk s σ H xs us Q I r h;obtain⟨p,ys,rfl,h⟩:=h;obtain⟨u,rfl,rx⟩:=mM r;cases rx;rcases h with⟨hq,q⟩|⟨hq,q⟩
 ·obtain⟨aq,r',pl,hz⟩:=I.list hq;have hlen:=r'.length;refine call_tuple_list pl.isList (λh' kp=>?_) (by simp only[Qo]<;>omega);have I1:Inv X Tk σ H { s with heap:=h' }:=I.kept (t':=s.toks) kp;have I2:Inv X Tk σ (upd H h'.objs.size (.tup ys)) { s with heap:=h'.push { cls:=.type "tuple",data:=.seq aq.toArray } }:=
   I1.laid (t':=s.toks) (λb o e=>Qd _ e) (Qj _) (show dA X.prog X.w _ _ _ (.tup ys)from⟨hz,aq,r',lD.new _ _⟩)
  exact⟨.ref h'.objs.size,_,I2,rfl,q _ (I1.aG.fresh (Qj _))⟩
 ·obtain⟨aq,r',pl,hz⟩:=I.tuple hq;exact call_tuple_same pl ⟨.ref p,H,I,rfl,q⟩
def F_ (K:PySem.W.Frag)(T:String)(x:V)(H:Hp):Prop:=match x with
 | .str _=>T = "str"
 | .int _=>T = "int"
 | .ref p=>(T = "list" /\ ∃ xs,cW K H p xs)\/(T = "tuple" /\ ((∃ o,K.lookup p=some o/\o.cls=.type "tuple" /\ o.dict=none)\/∃ xs,H p=some (.tup xs))) \/
   (T = "dict" /\ ((∃ au,H p=some (.dK au))\/∃ au,H p=some (.dT au)))\/(T = "set" /\ ∃ S n,H p=some (.set S n))
 | _=>False
theorem Rn{T:String}{x:V}{v:Value}(I:Inv X Tk σ H s)(r:bP x v)(ty:F_ X.K T x H) :
  s.TypeIs v T/\∀ a,v=.ref a->∃ ob,s.heap.get? a=some ob/\ob.dict=none:=by
 cases x with
 | str z=>
  obtain⟨t,rfl⟩:=r;cases (show T = "str" from ty);exact⟨typeIs_str s z t,λ_ e=>nomatch e⟩
 | int i=>
  obtain⟨t,rfl⟩:=r;cases (show T = "int" from ty);exact⟨VR s i t,λ_ e=>nomatch e⟩
 | ref p=>
  cases r;rcases ty with⟨rfl,xs,hq⟩|⟨rfl,⟨o,hk,hc,hd⟩|⟨xs,hk⟩⟩|⟨rfl,hk⟩|⟨rfl,S,n,hk⟩
  ·obtain⟨aq,_,pl,_⟩:=I.list hq;refine⟨pl.isList.typeIs,λa e=>?_⟩;cases e;obtain⟨o,n,e,c,hd,_⟩:=pl;exact⟨o,e,hd⟩
  ·refine⟨⟨o,I.iA p o hk,hc⟩,λa e=>?_⟩;cases e;exact⟨o,I.iA _ o hk,hd⟩
  ·obtain⟨_,aq,_,o,e,c,_,hd⟩:=(show dA X.prog X.w H s.heap p (.tup xs)from I.aG p _ hk);refine⟨⟨o,e,c⟩,λa e2=>?_⟩;cases e2;exact⟨o,e,hd⟩
  ·have z:∃ o,s.heap.get? p=some o/\o.ExactDict:=by
    rcases hk with⟨au,hk⟩|⟨au,hk⟩
    ·obtain⟨_,_,_,_,o,_,_,e,ex,_⟩:=I.aG p _ hk;exact⟨o,e,ex⟩
    ·obtain⟨_,_,_,_,o,_,_,e,ex,_⟩:=I.aG p _ hk;exact⟨o,e,ex⟩
   obtain⟨o,e,ex⟩:=z;refine⟨⟨o,e,ex.1⟩,λa e2=>?_⟩;cases e2;exact⟨o,e,ex.2.1⟩
  ·obtain⟨o,_,_,_,e,ex,_⟩:=I.aG p _ hk;refine⟨⟨o,e,ex.1⟩,λa e2=>?_⟩;cases e2;exact⟨o,e,ex.2.1⟩
 | _=>exact False.elim ty
def Ro (K:PySem.W.Frag)(T:String)(r:V->List V->Hp->VK->Prop)(to:TE)(t:TA):TE:=λσ H Q=>to σ H λx H1=>F_ K T x H1/\t σ H1 λxs H2=>r x xs H2 Q
variable {o e:Expr}{es:List Expr}{to:TE}{t:TA}{name:Str}{apos aC:Pos}{T id:String}{r:V->List V->Hp->VK->Prop}
theorem y9(pa:PlainAttrs T)(slot:Slot T name id)(v5:typeOf (.builtin id)=pure (.type "method_descriptor"))(hm:F5 X id r)(ho:PE X o to)(ha:PA X (e::es) t)
  (cw:attributeBase o name X.env (eval o X.env)=eval o X.env:=by rfl)
  (fF:((backTo aC (starEach (e::es) X.env)).all (λx=>!x.1)&&(backToKw aC (keywordEach [] X.env)).all (λx=>x.1.isSome)
    && decide ((e::es).length+([]:List Keyword).length+(if([]:List Keyword).isEmpty then 0 else 1)<30))=true:=by rfl)
  (cy:(apos.endLine==aC.line)=true:=by rfl) (hs:starEach (e::es) X.env=(false,eval e X.env)::starEach es X.env:=by rfl) (dB:(backTo aC (starEach es X.env)).any (·.1)=false:=by rfl) :
  PE X (.Call (.Attribute o name apos) (e::es) [] aC) (Ro X.K T r to t):=by intro Tk s σ H Q I h;refine wpAny_Call_method_late cw fF cy rfl (bg (ho Tk s σ H _ I h) λv s1 aj=>?_);obtain⟨x,H1,I1,r1,ty,q1⟩:=aj;obtain⟨h1,h2⟩:=Rn I1 r1 ty;refine⟨T,id,pa,slot,v5,h1,h2,?_⟩;have hA:=ha aC Tk s1 σ H1 _ I1 q1;rw[hs]at hA ⊢;refine Calls.callWith_builtin (by show(false||(backTo aC (starEach es X.env)).any (·.1))=false;rw[dB]<;>rfl) (Calls.evalArgs_plain ?_);exact bg hA λus s2 ⟨vs,H2,I2,r2,q2⟩=>hm Tk s2 σ H2 x vs v us Q I2 r1 r2 q2
end
def BY (X:Cx)(id:String)(r:V->List V->Hp->VK->Prop):Prop:=
 ∀ (Tk:List (Addr×Obj)) (s:Shared) (σ:St) (H:Hp) (x:V) (xs:List V) (v:Value) (us:List Value) (Q:VK),Inv X Tk σ H s->bP x v->bc xs us->r x xs H Q->
  wpAny (model X.prog X.w) X.A (call (.builtin id) (v::us)) (EP X Tk σ Q) X.xe s
theorem bc.one:∀ {x:V} {us:List Value},bc [x] us->∃ u,us=[u]/\bP x u
 | _,_,.cons r .nil=>⟨_,rfl,r⟩
theorem bc.eraseIdx:∀ {xs:List V} {us:List Value} (i:Nat),bc xs us->bc (xs.eraseIdx i) (us.eraseIdx i)
 | _,_,_,.nil=>.nil
 | _,_,0,.cons _ t=>t
 | _,_,i+1,.cons r t=>.cons r (bc.eraseIdx i t)
theorem bc.reverse(h:bc xs us):bc xs.reverse us.reverse:=by
 induction h with
 | nil=>exact .nil
 | cons r t ih=>rw[Yq,Yq];exact bc.append ih (.cons r .nil)
theorem bc.rep(h:bc xs us):∀ k:Nat,bc (replicate k xs).flatten (replicate k us).flatten
 | 0=>.nil
 | k+1=>by rw[ZW,ZW,Jw,Jw];exact bc.append h (bc.rep h k)
theorem Ga{α:Type}:∀ (l:List α) (i:Nat),(l.eraseIdx i).length<=l.length
 | [],_=>Qj _
 | _::_,0=>Yk _
 | _::r,i+1=>VI (Ga r i)
theorem BZ(aq:List Value):∀ (k:Nat) (acc:List Value),
  List.foldl (λx1 x2=>x1++x2) acc.toArray (replicate k aq.toArray)=(acc++(replicate k aq).flatten).toArray
 | 0,acc=>by simp
 | k+1,acc=>by
  have e:acc.toArray++aq.toArray=(acc++aq).toArray:=by simp
  have e2:(acc++aq)++(replicate k aq).flatten=acc++(replicate (k+1) aq).flatten:=by rw[ZW,Jw,Jb]
  rw[<- e2,<- BZ aq k (acc++aq),<- e,ZW,List.foldl_cons]
section
variable {X:Cx}{Tk:List (Addr×Obj)}{σ:St}{H:Hp}{s:Shared}{l b:Addr}{xs ys zs:List V}
theorem Inv.rX{aq its':List Value}{n:Nat}{f:Array Value->Array Value}{t':Nat}(I:Inv X Tk σ H s)(hH:H l=some (.lst xs))
  (e:s.heap.get? l=some { cls:=.type "list",data:=.seq aq.toArray n }) (hf:f aq.toArray=its'.toArray) (hv:bc ys its') (hz:ys.length<=sizeLine) :
  Inv X Tk σ (upd H l (.lst ys)) { s with heap:=s.heap.update l (Obj.mapSeq f),toks:=t' }:=by have q:=PySem.IsL.update e f;rw[hf]at q;refine I.write (x:=l) (e:=l) (by rw[hH];exact trivial) (.inl rfl) (λb' u hb hu=>(ZS s.heap (Obj.mapSeq f) (Zm hb)).trans hu) ⟨_,q⟩ ?_;exact⟨hz,its',_,hv,q⟩
theorem Inv.v7{aq:List Value}{t':Nat}(I:Inv X Tk σ H s)(hv:bc ys aq)(hz:ys.length<=sizeLine) :
  Inv X Tk σ (upd H s.heap.objs.size (.lst ys)) { s with heap:=s.heap.push { cls:=.type "list",data:=.seq aq.toArray },toks:=t' }:=
 I.laid (λ_ _ q=>Qd _ q) (Qj _) ⟨hz,aq,0,hv,Qp _ rfl⟩
theorem Inv.fresh(I:Inv X Tk σ H s):H s.heap.objs.size=none:=I.aG.fresh (Qj _)
theorem Inv.mR(I:Inv X Tk σ H s)(hH:H l=some (.lst xs)):xs.length<=sizeLine/\∃ (aq:List Value) (n:Nat),bc xs aq/\xs.length=aq.length/\s.heap.get? l=some { cls:=.type "list",data:=.seq aq.toArray n }:=by obtain⟨z,aq,n,r,e⟩:=I.aG l _ hH;exact⟨z,aq,n,r,r.length,e⟩
theorem Gb(h:n<=sizeLine):Builtin.List.listTooLong n=false:=by unfold Builtin.List.listTooLong;exact Qy (by omega)
end
section
variable {X:Cx}
def Rp:V->List V->Hp->VK->Prop:=λx vs H Q=>∃ l xs y,x=.ref l/\vs=[y]/\H l=some (.lst xs)/\xs.length<sizeLine/\Q .bK (upd H l (.lst (xs++[y])))
theorem Rq:BY X "list.append" Rp:=by intro Tk s σ H x vs v us Q I rx rv h;obtain⟨l,xs,y,rfl,rfl,hH,hz,q⟩:=h;cases rx;obtain⟨u,rfl,ru⟩:=rv.one;obtain⟨z,aq,n,r,hl,e⟩:=I.mR hH;refine J4 F.slot_list_append ⟨_,e,rfl⟩ F.entry_list_append (F.args_list_append_2 _ _) (PySem.list_append l aq.toArray n u (by rw[Qo];omega)) ⟨e,?_⟩;refine⟨.bK,_,I.rX (its':=aq++[u]) hH e (by simp) (r.append (.cons ru .nil)) ?_,rfl,q⟩;rw[Qn,List.length_singleton];omega
def Rr:V->List V->Hp->VK->Prop:=λx vs H Q=>∃ l b xs zs,x=.ref l/\vs=[.ref b]/\H l=some (.lst xs)/\H b=some (.lst zs)/\xs.length+zs.length<=sizeLine/\Q .bK (upd H l (.lst (xs++zs)))
theorem Rt:BY X "list.extend" Rr:=by
 intro Tk s σ H x vs v us Q I rx rv h;obtain⟨l,b,xs,zs,rfl,rfl,hH,hB,hz,q⟩:=h;cases rx;obtain⟨u,rfl,ru⟩:=rv.one;cases ru;obtain⟨z,aq,n,r,hl,e⟩:=I.mR hH;obtain⟨z2,iC,n2,r2,hl2,e2⟩:=I.mR hB;have hsz:aq.toArray.size+iC.toArray.size<=sizeLine:=by rw[Qo,Qo];omega
 have mU:¬ (!aq.toArray.isEmpty&&Builtin.List.listTooLong (aq.toArray.size+iC.toArray.size))=true:=by rw[Gb hsz,Vb];exact Zp
 refine J4 F.slot_list_extend ⟨_,e,rfl⟩ F.entry_list_extend (F.args_list_extend_2 _ _)
  (AutoSeq1.list_extend_list_list_0 l aq.toArray n b iC.toArray n2 mU (by rw[Qo];omega) (by omega)) ⟨e,e2,?_⟩
 refine⟨.bK,_,I.rX (its':=aq++iC) hH e (by simp) (r.append r2) ?_,rfl,q⟩;rw[Qn];omega
def Ru:V->List V->Hp->VK->Prop:=λx vs H Q=>∃ l xs i k y,x=.ref l/\vs=[.int i]/\H l=some (.lst xs) /\ -(2 ^ 63)<=i/\i<2 ^ 63/\seqIndex? i xs.length=some k/\xs[k]? = some y/\Q y (upd H l (.lst (xs.eraseIdx k)))
theorem Rv:BY X "list.pop" Ru:=by
 intro Tk s σ H x vs v us Q I rx rv h;obtain⟨l,xs,i,k,y,rfl,rfl,hH,h1,h2,hk,hy,q⟩:=h;cases rx;obtain⟨u,rfl,ru⟩:=rv.one;obtain⟨t,rfl⟩:=ru;obtain⟨z,aq,n,r,hl,e⟩:=I.mR hH;obtain⟨w,hw,lH⟩:=r.get hy;refine J4 F.slot_list_pop ⟨_,e,rfl⟩ F.entry_list_pop (F.args_list_pop_2 _ _)
  (MeetsSeq.list_pop_at l aq.toArray n i t k w (fitsIndex_both h1 h2) (by rw[Qo,<- hl];exact hk) (by rw[<- Zd];exact hw) (by rw[Qo];omega)) ⟨e,?_⟩
 refine⟨y,_,I.rX (its':=aq.eraseIdx k) hH e ?_ (r.eraseIdx k) ?_,lH,q⟩
 ·show aq.toArray.eraseIdxIfInBounds k=(aq.eraseIdx k).toArray;rw[List.eraseIdxIfInBounds_toArray]
 ·have:=Ga xs k;omega
def Rw:R2:=λx y H Q=>∃ l k xs,x=.ref l/\y=.int k/\H l=some (.lst xs) /\ -(2 ^ 63)<=k/\k<2 ^ 63/\xs.length*k.toNat<=sizeLine /\
 ∀ p,H p=none->Q (.ref p) (upd H p (.lst (replicate k.toNat xs).flatten))
theorem B1{α:Type}(xs:List α)(k:Nat):(replicate k xs).flatten.length=k*xs.length:=by
 induction k with
 | zero=>simp
 | succ k ih=>rw[ZW,Jw,Qn,ih,Y3,Nat.add_comm]
theorem Rx:dO X (binaryOp .Mult) Rw:=by
 intro Tk s σ H x y v u Q I rx ry h;obtain⟨l,k,xs,rfl,rfl,hH,h1,h2,hz,q⟩:=h;cases rx;obtain⟨t,rfl⟩:=ry;obtain⟨z,aq,n,r,hl,e⟩:=I.mR hH;have hlen:aq.toArray.size*k.toNat<=sizeLine:=by rw[Qo,<- hl];exact hz
 have B2:¬ aq.toArray.size*k.toNat > (2 ^ 63-1) / 8:=by
  have:(sizeLine:Nat)<=(2 ^ 63-1) / 8:=by decide
  omega
 have B3:¬ (!Builtin.List.listFitsIndex k)=true:=by rw[fitsIndex_both h1 h2];exact Zp
 have mU:¬ Builtin.List.listTooLong (aq.toArray.size*k.toNat)=true:=by rw[Gb hlen];exact Zp
 have B4:List.foldl (λx1 x2=>x1++x2) #[] (replicate (if aq.toArray.isEmpty=true then 0 else k.toNat) aq.toArray)=(replicate k.toNat aq).flatten.toArray:=by
  have f0:∀ m:Nat,List.foldl (λx1 x2=>x1++x2) #[] (replicate m aq.toArray)=(replicate m aq).flatten.toArray:=λm=>by have:=BZ aq m [];rw[List.nil_append]at this;exact this
  rw[f0];cases aq with
  | nil=>simp
  | cons a r'=>rw[Ql (by simp)]
 refine Vo (T:="list") (U:="int") (by decide) ⟨_,e,rfl⟩ (λs'=>VR s' k t) noFill_list_mul F.fills_int_mul YS repeat_list F.slot_int_index.lookup
  (J4 YS (VR s k t) F.entry_int_rmul (F.args_int_rmul_2 _ _) (int___rmul___int_list k t l aq.toArray n)
    ⟨e,rfl,⟨_,e,rfl⟩,J4 F.slot_list_mul ⟨_,e,rfl⟩ F.entry_list_mul (F.args_list_mul_2 _ _) (AutoListH.list___mul___list_int_3 l aq.toArray n k t B3 B2 mU) ⟨e,?_⟩⟩)
 rw[B4];exact⟨.ref _,_,I.v7 (t':=s.toks) (r.rep k.toNat) (by rw[B1,VS];exact hz),rfl,q _ I.fresh⟩
end
end L2
namespace Gc
open PySem PySem.W PySem.Calls PyProof.Rows
variable {P:Params}{h:Heap}{l:OpenLaw}{n:Nat}
theorem Ry:∀ (ns:List Int) (vs:List Value),WellAll P h vs (ns.map WData.int)->IntsAre vs ns:=by
 intro ns;induction ns with
 | nil=>
  intro vs w;rw[Ux]at w;cases w;exact .nil
 | cons n ns ih=>
  intro vs w;rw[Qx]at w;cases w with
  | cons a b=>
   cases a;exact .cons _ _ (ih _ b)
theorem Rz(hn:l.most=some n){args:List WData}{vals:List Value}
  (pd:l.row.toRowW.claim.pre args=true) (B5:WellAll P h vals args) :
  ∃ a vs ns,vals=[Value.ref a]/\args=[WData.list (ns.map WData.int)]/\h.get? a=some { cls:=.type "list",data:=.seq vs.toArray }/\IntsAre vs ns/\ns.length<=n:=by
 have me:WShape.hasAll [] args [.list .int]=true:=(pre_splitW pd).1;have hc:l.pre.holds [] { args:=args }=true:=(pre_splitW pd).2;obtain⟨d,r,rfl,h1,h2⟩:=hasAllW_cons me;obtain rfl:=hasAllW_nil h2;obtain⟨xs,rfl,h3⟩:=hasW_list h1;obtain⟨ns,rfl⟩:=items_int h3;have hlen:ns.length<=n:=by
  unfold OpenLaw.pre at hc;have h4:(WTm.not (.lt (.lit (.int (n:Int))) (.len (.arg 0)))).holds [] { args:=[.list (ns.map .int)] }=true:=by have h4:=(holds_andW hc).1;rw[hn]at h4;exact h4
  have h5:=condW_of h4 (w_not (w_lt w_lit (w_len_list (w_arg rfl))));rw[Qc]at h5;refine Nat.le_of_not_lt λq=>?_;have q':(n:Int)<((ns.length:Nat):Int):=by omega
  first
   | (rw[Qr q']at h5;exact absurd h5 (by decide))
   | (simp at h5;omega)
 cases B5 with
 | cons w1 w2=>
  cases w2;cases w1 with
  | list ho eF=>exact⟨_,_,ns,rfl,rfl,ho,Ry ns _ eF,hlen⟩
theorem RA(l:OpenLaw)(args:List WData):l.row.toRowW.claim.post args (.bool true) args=true:=
 postW_of (r:=l.row.toRowW) (X:=(true==true))
  (show WShape.has [] (.bool true) .bool=true by first|rfl|decide|simp[WShape.has,WShape.arms,WShape.armsAll])
  (show(WTm.eq .res (.lit (.bool true))).value [] { args:=args,res:=some (.bool true),after:=args }=some (.bool (true==true))from w_eq_bool (w_res rfl) w_lit) rfl
theorem RB{q:Program}{loose:List Str}{XP:(Str->Option Value)->Heap->Prop}{YP:World->Heap->Prop}{d:DefRec}
  (hn:l.most=some n) (v8:d.params.defaults=[])
  (call:∀ (w:World) (cF aV:Shared) (mg mb:Str->Option Value) (fa:Addr) (o:Obj) (pm cd doc:Value) (a:Addr) (vs:List Value) (ns:List Int),
    Ground q loose [] XP w cF mg mb aV.heap->YP w aV.heap->
    aV.heap.get? fa=some o->o.data=.func (docDef d.name d.params d.body d.scope pm cd doc)->aV.heap.CodeRec cd d.name->mg d.name=some (.ref fa)->
    aV.heap.get? a=some { cls:=.type "list",data:=.seq vs.toArray }->IntsAre vs ns->ns.length<=n->aV.gens = #[]->
    codeAny (model l.prog w) callerA (.call (.ref fa) ⟨[.ref a],[]⟩) (λr s'=>r=.ok (.ret (.bool true))/\OldK aV.heap s'.heap/\s'.os=aV.os/\AllBare s'.gens) aV) :
  WalkO q loose XP YP l.row.toRowW d [] (λf vs=>PySem.call f vs):=by intro w cF aV mg mb G Y fa o pm cd doc dV kV ho hd i3 hD hmg hg args vals as pd RC hrd B5 hlo;obtain rfl:dV=.none:=Dflts.none hD v8;obtain rfl:kV=.none:=Dflts.noKw hD;obtain⟨a,vs,ns,rfl,rfl,rY,hints,hlen⟩:=Rz hn pd B5;refine enter_call (Yn (call w cF aV mg mb fa o pm cd doc a vs ns G Y ho (fd_plain hd) i3 hmg rY hints hlen hg) λr s' hq=>?_);obtain⟨rfl,h2,h3,h4⟩:=hq;exact⟨.inl ⟨.bool true,.bool true,[],rfl,λ_=>rfl,.bool true,RA l _,λ_=>⟨List.Pairwise.nil,λ_ hm=>(nomatch hm)⟩⟩,h2,h3,h4⟩
end Gc
namespace L2
open PySem PySem.Spec PyProof.Rows
theorem y_:∀ {vs:List Value} {ns:List Int},IntsAre vs ns->bc (ns.map V.int) vs
 | _,_,.nil=>.nil
 | _,_,.cons n t h=>.cons ⟨t,rfl⟩ (y_ h)
def B6 (H:Hp):Prop:=∀ b,H b=none\/∃ o xs,H b=some (.ij o (.lst xs))
theorem RD{P:Program}{w:World}{K:PySem.W.Frag}{mg mb:Str->Option Value}{CX:n_}{k:Nat}{fa a:Addr}{fd:FuncData}{x:Str}{sp:Sp}{aV:Shared}{vs:List Value}{ns:List Int}
  (KX:K.In aV.heap) (oh:aV.heap.Ns mainGlobals mg) (hb:aV.heap.Ns builtinsNs mb) (RE:∀ x:Str,x ≠ "__name__"->mb x=bootBuiltins x) (B7:aV.heap.NoLimit) (hg:aV.gens = #[])
  (ha:aV.heap.get? a=some { cls:=.type "list",data:=.seq vs.toArray }) (hi:IntsAre vs ns) (hl:ns.length<=sizeLine) (hr:bA k callerA)
  (F:∀ base:Heap,K.In base->base.Ns mainGlobals mg->eU P w K mg base CX k fa fd [x] sp) (v_:∀ (s:Shared) (u:Value),BindsTo s fd ⟨[u],[]⟩ [(x,u)])
  (oe:∀ H:Hp,B6 H->cW K H a (ns.map V.int)->sp [.ref a] H (λv _=>v=.bl true) λ_ _ _=>False)
  (RF:∀ H e s',CX [] H aV (λ_ _ _=>False) e s'->False) :
  codeAny (model P w) callerA (.call (.ref fa) ⟨[.ref a],[]⟩) (λr s'=>r=.ok (.ret (.bool true))/\OldK aV.heap s'.heap/\s'.os=aV.os/\AllBare s'.gens) aV:=by
 have rv:=y_ hi;have B8:=hi.length;have core:∀ H:Hp,B6 H->cW K H a (ns.map V.int)->dQ P w H aV.heap->(∀ b,H b≠none->b=a)->(H a≠none->K.lookup a=none)->
   codeAny (model P w) callerA (.call (.ref fa) ⟨[.ref a],[]⟩) (λr s'=>r=.ok (.ret (.bool true))/\OldK aV.heap s'.heap/\s'.os=aV.os/\AllBare s'.gens) aV:=by
  intro H hO hS aG hA hK;have kQ:∀ {b:Addr} {o:Obj},aV.heap.get? b=some o->H b=none->(oX aV.heap H).get? b=some o:=λe n=>NY e n;have vU:∀ {b:Addr} {o:Obj} {es:Array DictEntry} {ep:Nat},aV.heap.get? b=some o->o.data=.dict es ep->H b=none:=λ{b o es ep} e d=>by
   cases q:H b with
   | none=>rfl
   | some u=>
    have e':b=a:=hA b (by rw[q];simp);subst e';rw[ha]at e;cases e;have d':Data.seq vs.toArray _=Data.dict es ep:=d;cases d'
  have za:∀ {b:Addr} {m:Str->Option Value},aV.heap.Ns b m->(oX aV.heap H).Ns b m:=λ{b m} ⟨o,es,ep,e,d,r⟩=>⟨o,es,ep,kQ e (vU e d),d,r⟩;have Gd:K.In (oX aV.heap H):=λb o e=>kQ (KX b o e) (by
   cases q:H b with
   | none=>rfl
   | some u=>
    have e':b=a:=hA b (by rw[q];simp);subst e';rw[hK (by rw[q];simp)]at e;cases e)
  have hM:Mod K mg (oX aV.heap H):=⟨Gd,za oh,⟨mb,za hb,RE⟩,let ⟨mc,h1,h2⟩:=B7;⟨mc,za h1,h2⟩⟩;have e0:o7 P w K mg (oX aV.heap H) callerA [] aV H:=⟨rfl,hM,λb o e=>NZ e,Nat.le_of_eq (NX _ _),trivial,λb hb=>absurd (show b∈([]:List Addr)from hb) (by simp),aG,.of_eq hg⟩;refine Yn ((F _ Gd (za oh)).run callerA [] aV H ⟨[.ref a],[]⟩ [.ref a] [.ref a] _ _ hr e0 (v_ aV (.ref a)) (.cons rfl .nil) (oe H hO hS)) λr s' h=>?_;cases r with
  | error e=>exact(RF H e s' h).elim
  | ok fl=>
   cases fl with
   | next=>exact False.elim h
   | brk=>exact False.elim h
   | cont=>exact False.elim h
   | ret u=>
    obtain⟨v,H',os,bare,un,B9,r',q⟩:=h;have q':v=.bl true:=q;subst q';obtain rfl:u=Value.bool true:=r';refine⟨rfl,OldK.of_keep λb o e=>?_,os,bare⟩;cases q:H b with
    | none=>exact un.keep b o e q (by intro z;exact absurd (show b∈([]:List Addr)from z) (by simp)) (by simp)
    | some u=>
     rcases hO b with z|⟨ob,xs,z⟩
     ·rw[q]at z;cases z
     ·have z2:=un.gN b ob _ z;obtain⟨e1,_⟩:=aG b _ z;obtain⟨e2,_⟩:=B9 b _ z2;rw[e]at e1;cases e1;exact e2
 cases hk:K.lookup a with
 | some o=>
  have e:=KX a o hk;rw[ha]at e;cases e;refine core (λ_=>none) (λ_=>.inl rfl) (.inr ⟨_,vs.toArray,_,hk,rfl,rfl,rfl,by rw[Qo,B8];exact hl,by simpa using rv⟩) (λb u z=>by have z':(none:Option HO)=some u:=z;cases z') (λb z=>absurd rfl z) λz=>absurd rfl z
 | none=>
  refine core (λb=>if b=a then some (.ij { cls:=.type "list",data:=.seq vs.toArray } (.lst (ns.map V.int)))else none) (λb=>?_) (.inl (.inr ⟨{ cls:=.type "list",data:=.seq vs.toArray },Qi rfl⟩)) (λb u z=>?_) (λb z=>?_) λ_=>hk
  ·by_cases hb:b=a
   ·exact .inr ⟨_,_,Qi hb⟩
   ·exact .inl (Ql hb)
  ·by_cases hb:b=a
   ·have z':=(Qi hb).symm.trans z;cases z';subst hb;exact⟨ha,by rw[Qc];exact hl,vs,_,rv,ha⟩
   ·have z':=(Ql hb).symm.trans z;cases z'
  ·by_cases hb:b=a
   ·exact hb
   ·exact absurd (Ql hb) z
end L2
namespace L2
open PySem PySem.Spec PyProof.Rows
end L2
namespace L2
open PySem PySem.Spec PyProof.Rows
variable {A:Around}{C a b c f:Addr}{H H':Hp}{N' ps:List Str}{P prog:Program}{Q:Tl}{X:Cx}{cells:List (Str×Addr)}{elt iter:Expr}{env:Env}{fd:FuncData}{h h':Heap}{i lo n:Nat}{ifs:List Expr}{au:List (List Key×V)}{o:Option V}{Tk:List (Addr×Obj)}{pos:Pos}{qual x y:Str}{s:Shared}{scope:Scope}{st:Stmt}{qC:List (TE×TE)}{u:Value}{v:V}{w:World}{xs:List (List Key×Addr×Value)}{σ:St}
def qD (s:Stmt):Arguments:=match s with
 | .FunctionDef _ a _ _ _ _ _ _ _ _=>a
 | _=>{ posonlyargs:=[],args:=[],vararg:=none,kwonlyargs:=[],kw_defaults:=[],kwarg:=none,defaults:=[] }
def kR (s:Stmt):List Stmt:=match s with
 | .FunctionDef _ _ b _ _ _ _ _ _ _=>b
 | _=>[]
def bB (s:Stmt):Scope:=match s with
 | .FunctionDef _ _ _ _ _ _ sc _ _ _=>sc
 | _=>{ kind:=.function,names:=[],isGenerator:=false,isCoroutine:=false }
abbrev jZ:n_:=λ_ _ _ _ _ _=>False
abbrev E0:XK:=λ_ _ _=>False
theorem RG:yX jZ X E0:=λ_ _ _ _ _ _ _ h=>h.elim
structure mV (K:PySem.W.Frag) (x qual:Str) (st:Stmt) (f:Addr) (fd:FuncData):Prop where
 ex:∃ (oc:Value) (od:Option Addr) (kV doc pm:Value) (an:Option Addr) (cO ct:Value) (o8:Array (Option Value)),
  fd=W.fnOf x qual (qD st) (kR st) (bB st) .none kV doc pm an cO ct/\K.lookup f=some ⟨oc,od,.func fd,o8⟩/\W.codeIn K cO qual=true
 kp:W.keepIn K (.ref f)=true
section
variable {P:Program}{w:World}{K:PySem.W.Frag}{mg:Str->Option Value}{base:Heap}
theorem mV.ok{N:List Str}{k:Nat}{sp:Sp}(F:mV K x qual st f fd)(S:ag N ps (bB st))(len:∀ vs H Q E,sp vs H Q E->vs.length=ps.length)
  (mQ:∀ (cO:Value) (A:Around) (outer:List Env) (s:Shared) (H:Hp) (vs:List V) (Q:VK) (E:XK),bA k (A.deeper (envOfC qual (bB st) s.heap.objs.size f cO))->sp vs H Q E->
    ∃ t,iY (mP jZ P w K mg base N qual (bB st) f cO A outer s H E).n8 (kR st) t/\t { nx:=λ_ H'=>Q .bK H',rt:=Q } (start N vs) H):eU P w K mg base jZ (k+1) f fd ps sp:=by obtain⟨oc,od,kV,doc,pm,an,cO,ct,o8,rfl,lk,i3⟩:=F.ex;refine PM lk i3 S len λA outer s H vs Q E hr oe=>?_;obtain⟨t,h,q⟩:=mQ cO A outer s H vs Q E hr oe;exact⟨t,h.n8,q⟩
theorem mV.binds(F:mV K x qual st f fd)
  (h:∀ (kV doc pm:Value) (an:Option Addr) (cO ct:Value) (us:List Value),us.length=ps.length->bindArgs (W.fnOf x qual (qD st) (kR st) (bB st) .none kV doc pm an cO ct) ⟨us,[]⟩=pure (ps.zip us)):qy K fd ps []:=by obtain⟨oc,od,kV,doc,pm,an,cO,ct,o8,rfl,lk,i3⟩:=F.ex;exact .all (h kV doc pm an cO ct)
theorem Ge{oc:Value}{od an:Option Addr}{o8:Array (Option Value)}{kV doc pm cO ct:Value}(l:K.lookup f=some ⟨oc,od,.func (W.fnOf x qual (qD st) (kR st) (bB st) .none kV doc pm an cO ct),o8⟩)
  (c:W.codeIn K cO qual=true) (k:W.keepIn K (.ref f)=true):mV K x qual st f (W.fnOf x qual (qD st) (kR st) (bB st) .none kV doc pm an cO ct):=⟨⟨oc,od,kV,doc,pm,an,cO,ct,o8,rfl,l,c⟩,k⟩
end
theorem zb{k:Nat}(hr:bA k A):A.units+1<cLine:=Z2 (Nat.add_le_add_left (by decide:1<=64) _) hr.units
theorem pf(h:n<=1000):n<sizeLine:=Z2 h (by decide)
section
variable {X:Cx}
theorem pv(i:Nat){pos:Pos}(hN:X.N[i]? = some x:=by rfl)(hv:ug X.env.scope x:=by first|exact Or.inl rfl|exact Or.inr (Or.inl rfl)|exact Or.inr (Or.inr rfl))(hd:(x==("__debug__":Str))=false:=by decide)
  (i3:(x==("__classdict__":Str))=false:=by decide):PE X (.Name x pos) (iZ i):=N3 hN hv hd i3
end
section
variable {κ:Type}[DecidableEq κ]
def jq (au:List (κ×V))(k:κ):Option V:=(au.find? λkv=>decide (kv.1=k)).map (·.2)
def i6 (au:List (κ×V))(k:κ)(v:V):List (κ×V):=
 if(au.any λkv=>decide (kv.1=k))=true then au.map (λkv=>if kv.1=k then(kv.1,v)else kv)else au++[(k,v)]
theorem wa{p:κ×V}{r:List (κ×V)}{k:κ}(e:p.1=k):jq (p::r) k=some p.2:=by simp[jq,JU,e]
theorem wb{p:κ×V}{r:List (κ×V)}{k:κ}(e:¬ p.1=k):jq (p::r) k=jq r k:=by simp[jq,JU,e]
theorem Gf(k:κ):∀ au:List (κ×V),(au.any λkv=>decide (kv.1=k))=(jq au k).isSome
 | []=>rfl
 | p::r=>by
  rw[YI];by_cases e:p.1=k
  ·simp only[wa e,Qr e,Bool.true_or,Option.isSome_some]
  ·rw[wb e,Qy e,Bool.false_or];exact Gf k r
theorem B_(au:List (κ×V))(k:κ)(v:V):(i6 au k v).length<=au.length+1:=by
 unfold i6;split
 ·rw[Qc];omega
 ·rw[Qn,Qz,Jr];omega
theorem lC.lI{u:Option Value}(r:lC o u):o.isSome=u.isSome:=by
 cases o with
 | none=>cases u with
  | none=>rfl
  | some _=>exact(show False from r).elim
 | some _=>cases u with
  | none=>exact(show False from r).elim
  | some _=>rfl
theorem lC.getD{u:Option Value}{d:V}{d':Value}(r:lC o u)(rd:bP d d'):bP (o.getD d) (u.getD d'):=by
 cases o with
 | none=>cases u with
  | none=>exact rd
  | some _=>exact(show False from r).elim
 | some _=>cases u with
  | none=>exact(show False from r).elim
  | some _=>exact r
theorem KV.val{au:List (κ×V)}{vs:List (κ×Value)}(r:KV au vs)(k:κ):lC (jq au k) (valueAt vs k):=by
 unfold KV at r;induction r with
 | nil=>exact True.intro
 | @cons p q ps qs h t ih=>
  obtain⟨h1,h2⟩:=h;by_cases e:p.1=k
  ·have e':q.1=k:=h1.symm.trans e;have b:valueAt (q::qs) k=some q.2:=by simp[valueAt,JU,e']
   rw[wa e,b];exact h2
  ·have e':¬ q.1=k:=λz=>e (h1.trans z);have b:valueAt (q::qs) k=valueAt qs k:=by simp[valueAt,JU,e']
   rw[wb e,b];exact ih
theorem KV.any{au:List (κ×V)}{vs:List (κ×Value)}(r:KV au vs)(k:κ):(au.any λkv=>decide (kv.1=k))=vs.any λkv=>decide (kv.1=k):=by
 unfold KV at r;induction r with
 | nil=>rfl
 | cons h t ih=>rw[YI,YI,ih,h.1]
theorem KV.rZ{au:List (κ×V)}{vs:List (κ×Value)}(r:KV au vs)(k:κ){y:V}(ry:bP y u) :
  KV (au.map λkv=>if kv.1=k then(kv.1,y)else kv) (vs.map λkv=>if kv.1=k then(kv.1,u)else kv):=by
 unfold KV at r ⊢;induction r with
 | nil=>exact .nil
 | @cons p q ps qs h t ih=>
  rw[Qx,Qx];refine .cons ?_ ih;obtain⟨h1,h2⟩:=h;by_cases e:p.1=k
  ·rw[Qi e,Qi (h1.symm.trans e)];exact⟨h1,ry⟩
  ·rw[Ql e,Ql (λz=>e (h1.trans z))];exact⟨h1,h2⟩
theorem KV.put{au:List (κ×V)}{vs:List (κ×Value)}(r:KV au vs)(k:κ){y:V}(ry:bP y u):KV (i6 au k y) (stored vs k u):=by
 unfold i6 stored;rw[r.any k];by_cases e:(vs.any λkv=>decide (kv.1=k))=true
 ·rw[Qi e,Qi e];exact r.rZ k ry
 ·rw[Ql e,Ql e];exact Paired.snoc r ⟨rfl,ry⟩
theorem KV.length{au:List (κ×V)}{vs:List (κ×Value)}(r:KV au vs):au.length=vs.length:=VB r
end
theorem wc{k:Key}(r:bP (kV k) u):(ig P w).is k u=true:=by
 cases k with
 | inl i=>obtain⟨t,e⟩:=(show ∃ t,u=Value.int i t from r);subst e;exact NS P w i t
 | inr x=>obtain⟨t,e⟩:=(show ∃ t,u=Value.str x t from r);subst e;exact NT P w x t
theorem Gg:∀ {ks:List Key} {us:List Value},bc (ks.map kV) us->ItemsAre (ig P w) ks us
 | [],_,r=>by rw[Ux]at r;cases r;exact .nil
 | k::ks,_,r=>by
  rw[Qx]at r;cases r with
  | cons h t=>exact .cons (wc h) (Gg t)
abbrev KT (H:Hp):List (List Key×V)->List (List Key×Addr×Value)->Prop:=Paired λp q=>p.1=q.1/\H q.2.1=some (.tup (p.1.map kV))/\bP p.2 q.2.2
theorem KT.val(r:KT H au xs)(k:List Key):lC (jq au k) ((atKey xs k).map (·.2)):=by
 induction r with
 | nil=>exact True.intro
 | @cons p q ps qs h t ih=>
  obtain⟨h1,_,h2⟩:=h;by_cases e:p.1=k
  ·have e':q.1=k:=h1.symm.trans e;have b:atKey (q::qs) k=some q.2:=by simp[atKey,JU,e']
   rw[wa e,b];exact h2
  ·have e':¬ q.1=k:=λz=>e (h1.trans z);have b:atKey (q::qs) k=atKey qs k:=by simp[atKey,JU,e']
   rw[wb e,b];exact ih
theorem KT.rZ(r:KT H au xs)(k:List Key){y:V}(ry:bP y u) :
  KT H (au.map λkv=>if kv.1=k then(kv.1,y)else kv) (xs.map (putAt k u)):=by
 induction r with
 | nil=>exact .nil
 | @cons p q ps qs h t ih=>
  rw[Qx,Qx];refine .cons ?_ ih;obtain⟨h1,h2,h3⟩:=h;unfold putAt;by_cases e:p.1=k
  ·rw[Qi e,Qi (h1.symm.trans e)];exact⟨h1,h2,ry⟩
  ·rw[Ql e,Ql (λz=>e (h1.trans z))];exact⟨h1,h2,h3⟩
theorem KT.put(r:KT H au xs)(k:List Key){y:V}(hb:H b=some (.tup (k.map kV)))(ry:bP y u) :
  KT H (i6 au k y) (storedH xs k b u):=by
 have e:(au.any λkv=>decide (kv.1=k))=(atKey xs k).isSome:=by rw[Gf,(r.val k).lI,Option.isSome_map]
 unfold i6 storedH;rw[e];by_cases q:(atKey xs k).isSome=true
 ·rw[Qi q,Qi q];exact r.rZ k ry
 ·rw[Ql q,Ql q];exact Paired.snoc r ⟨rfl,hb,ry⟩
theorem KT.keeps(r:KT H au xs)(ht:∀ b ys,H b=some (.tup ys)->H' b=some (.tup ys)):KT H' au xs:=
 Paired.rK r λ_ _ z=>⟨z.1,ht _ _ z.2.1,z.2.2⟩
section
variable {P:Program}{w:World}{H:Hp}{h:Heap}{a:Addr}
theorem Gh{u:HO}(ok:dQ P w H h)(e:Rd H a u):dA P w H h a u:=e.ok ok
theorem we{au:List (Key×V)}(ok:dQ P w H h)(e:Rd H a (.dK au)):au.length<=sizeLine/\(a==sysModules)=false/\∃ vs,KV au vs/\h.DictOf (ig P w) a vs:=
 show dA P w H h a (.dK au)from Gh ok e
theorem zc{au:List (Key×V)}(ok:dQ P w H h)(e:H a=some (.dK au)):au.length<=sizeLine/\(a==sysModules)=false/\∃ vs,KV au vs/\h.DictOf (ig P w) a vs:=we ok (.inl e)
theorem zd{ks:List Key}(ok:dQ P w H h)(e:H a=some (.tup (ks.map kV))):(tupleKind (ig P w)).is h ks a:=by obtain⟨_,aq,r,o,h1,h2,⟨n,h3⟩,_⟩:=(show dA P w H h a (.tup (ks.map kV))from ok a _ e);exact⟨o,aq.toArray,n,h1,h2,h3,by simpa using Gg r⟩
theorem wg(ok:dQ P w H h)(e:Rd H a (.dT au)):au.length<=sizeLine/\(a==sysModules)=false /\
  ∃ xs,KT H au xs/\h.DictOfH (tupleKind (ig P w)) a xs:=by
 obtain⟨z,y,xs,r,o,es,ep,h1,h2,h3,h4,h5⟩:=(show dA P w H h a (.dT au)from Gh ok e);refine⟨z,y,xs,r,o,es,ep,h1,h2,h3,h4,λx hx=>?_,h5⟩;have all:∀ {l:List (List Key×V)} {m:List (List Key×Addr×Value)},KT H l m->∀ x∈m,(tupleKind (ig P w)).is h x.1 x.2.1:=by
  intro l m q;induction q with
  | nil=>intro x hx;exact nomatch hx
  | @cons p q ps qs hq t ih=>
   intro x hx;rcases Qs.mp hx with e|hx
   ·subst e;exact zd ok (by rw[<- hq.1];exact hq.2.1)
   ·exact ih x hx
 exact all r x hx
theorem Gi(ok:dQ P w H h)(e:H a=some (.dT au)):au.length<=sizeLine/\(a==sysModules)=false /\
  ∃ xs,KT H au xs/\h.DictOfH (tupleKind (ig P w)) a xs:=wg ok (.inl e)
end
def lJ (H:Hp)(a:Addr)(y:V)(r:Option V):Prop:=
 (∃ au k,Rd H a (.dK au)/\y=kV k/\r=jq au k)\/∃ au k b,Rd H a (.dT au)/\y=.ref b/\H b=some (.tup (k.map kV))/\r=jq au k
def ph (H:Hp)(a:Addr)(y v:V)(H':Hp):Prop:=
 (∃ au k,H a=some (.dK au)/\y=kV k/\au.length<sizeLine/\H'=upd H a (.dK (i6 au k v))) \/
 ∃ au k b,H a=some (.dT au)/\y=.ref b/\H b=some (.tup (k.map kV))/\au.length<sizeLine/\H'=upd H a (.dT (i6 au k v))
theorem lJ.k{au:List (Key×V)}{k:Key}(e:H a=some (.dK au)):lJ H a (kV k) (jq au k):=.inl ⟨au,k,.inl e,rfl,rfl⟩
theorem lJ.t{k:List Key}(e:H a=some (.dT au))(eb:H b=some (.tup (k.map kV))):lJ H a (.ref b) (jq au k):=.inr ⟨au,k,b,.inl e,rfl,eb,rfl⟩
theorem ph.k{au:List (Key×V)}{k:Key}(e:H a=some (.dK au))(hl:au.length<sizeLine):ph H a (kV k) v (upd H a (.dK (i6 au k v))):=.inl ⟨au,k,e,rfl,hl,rfl⟩
theorem ph.t{k:List Key}(e:H a=some (.dT au))(eb:H b=some (.tup (k.map kV)))(hl:au.length<sizeLine) :
  ph H a (.ref b) v (upd H a (.dT (i6 au k v))):=.inr ⟨au,k,b,e,rfl,eb,hl,rfl⟩
section
variable {X:Cx}{Tk:List (Addr×Obj)}{σ:St}{H:Hp}{s:Shared}{a:Addr}{y v:V}{u r:Value}{o:Option V}{A:Around}{E:Tl}
theorem Inv.r_(I:Inv X Tk σ H s):sysModules<s.heap.objs.size:=by have h:mainGlobals<s.heap.objs.size:=(I.mod.glob.keeps I.bk).lt;exact JJ (by decide) h
theorem RH(hu:A.units+1<cLine)(I:Inv X Tk σ H s)(g:lJ H a y (some v))(ry:bP y u)(h:∀ w' s',Inv X Tk σ H s'->bP v w'->Q w' s') :
  wpAny (model X.prog X.w) A (getItem (.ref a) u) Q E s:=by
 rcases g with⟨au,k,e,ey,l⟩|⟨au,k,b,e,ey,eb,l⟩
 ·subst ey;obtain⟨z,hd,vs,rel,dd⟩:=we I.aG e;obtain⟨w',hw,lH⟩:=lC.some_of (v:=v) (o:=valueAt vs k) (by rw[l];exact rel.val k);exact wpAny_getItem_of (wc ry) dd.mapOf hw (h w' _ (I.tok _) lH)
 ·subst ey;cases (show u=Value.ref b from ry);obtain⟨z,hd,xs,rel,dd⟩:=wg I.aG e;obtain⟨w',hw,lH⟩:=lC.some_of (v:=v) (o:=(atKey xs k).map (·.2)) (by rw[l];exact rel.val k);obtain⟨p,hp,RI⟩:=QC.mp hw;refine wpAny_getItem_heap (Vc hu) (zd I.aG eb) dd hp ?_;rw[RI];exact h w' _ (I.tok _) lH
theorem Ca{t':Nat}{ob:HO}(I:Inv X Tk σ H s)(mu:vH (H a))(hs:Heap.SameBut a s.heap h')(he:∃ q,h'.get? a=some q)(new:dA X.prog X.w (upd H a ob) h' a ob) :
  Inv X Tk σ (upd H a ob) { s with heap:=h',toks:=t' }:=
 I.write (x:=a) (e:=a) mu (.inl rfl) (λb q hb z=>(hs.2 b hb).trans z) he new
theorem Gj{au:List (Key×V)}{vs:List (Key×Value)}(z:au.length<=sizeLine)(hd:(a==sysModules)=false)(rel:KV au vs)(dd:h'.DictOf (ig P w) a vs) :
  dA P w H' h' a (.dK au):=⟨z,hd,vs,rel,dd⟩
theorem RJ{Q:Unit->Shared->Prop}(hu:A.units+1<cLine)(I:Inv X Tk σ H s)(g:ph H a y v H')(ry:bP y u)(rv:bP v r)(h:∀ s',Inv X Tk σ H' s'->Q () s') :
  wpAny (model X.prog X.w) A (setItem (.ref a) u r) Q E s:=by
 rcases g with⟨au,k,e,ey,l,eH⟩|⟨au,k,b,e,ey,eb,l,eH⟩
 ·subst ey eH;obtain⟨z,hd,vs,rel,dd⟩:=zc I.aG e;have hz:vs.length<=sizeLine:=by rw[<- rel.length];exact z
  have hl:(i6 au k v).length<=sizeLine:=by have:=B_ au k v;omega
  refine wpAny_setItem_pairs (hsz:=hz) (wc ry) dd λh' se hs=>h _ ?_;have he:∃ q,h'.get? a=some q:=let ⟨q,_,_,hq,_⟩:=se;⟨q,hq⟩
  exact Ca I (by rw[e];exact True.intro) hs he (Gj hl hd (rel.put k rv) se)
 ·subst ey eH;cases (show u=Value.ref b from ry);obtain⟨z,hd,xs,rel,dd⟩:=Gi I.aG e;have hz:xs.length<=sizeLine:=by rw[<- VB rel];exact z
  have hl:(i6 au k v).length<=sizeLine:=by have:=B_ au k v;omega
  refine wpAny_setItem_heap (hsz:=hz) (Vc hu) (zd I.aG eb) dd λh' se hs=>h _ ?_;obtain⟨q,es,ep,hq,h2,h3,h4,_,h5⟩:=se;refine Ca I (by rw[e];exact True.intro) hs ⟨q,hq⟩ ⟨hl,hd,_,(rel.put k eb rv).keeps λc ys ec=>?_,q,es,ep,hq,h2,h3,h4,h5⟩;rw[a_ (NV ec e (λz=>nomatch z))];exact ec
end
def Cb (i:Expr):Prop:=∀ ov iv,subscripted i false ov iv=operate [ov,iv] (getItem ov iv)
theorem RK{E:Tl}{value slice:Expr}{T id:String}
  (hl:typeLookup (.type T) "__getitem__" = pure (some (.builtin id))) (hs:Cb slice)
  (h:wpAny (model prog w) A (eval value env) (λo aV=>wpAny (model prog w) A (eval slice env) (λi i4=>i4.TypeIs o T/\wpAny (model prog w) A (getItem o i) Q E i4) E aV) E s) :
  wpAny (model prog w) A (eval (.Subscript value slice pos) env) Q E s:=by
 refine Subscript_ (ZR h (λo aV pj=>ZR pj (λi i4 mW=>?_) λ_ _ x=>x) λ_ _ x=>x);obtain⟨hT,mW⟩:=mW;unfold subscriptTail;refine Qa ?_;rw[getitemInPython_of_ne hT.not_modules];refine Qa (JV hT hl ?_);have fin:wpAny (model prog w) A (subscripted slice false o i) (λr jE=>wpAny (model prog w) A (letTemporaryGo value o r >>= λ_=>pure r) Q E jE) E i4:=by rw[hs o i];exact wpAny_operating (ZR mW (λr jE pq=>Qa (wpAny_letTemporaryGo (Qe pq))) λ_ _ x=>x)
 first
  | exact Qe (Qa fin)
  | exact Qa (Qe (Qa fin))
  | exact Qa fin
theorem RL{y:V}(I:Inv X Tk σ H s)(g:lJ H a y o):s.TypeIs (.ref a) "dict":=by
 rcases g with⟨au,k,e,_,_⟩|⟨au,k,b,e,_,_,_⟩
 ·obtain⟨_,_,vs,_,dd⟩:=we I.aG e;exact dd.typeIs
 ·obtain⟨_,_,xs,_,dd⟩:=wg I.aG e;exact dd.typeIs
def RM (td ty:TE):TE:=λσ H Q=>td σ H λx H1=>ty σ H1 λy H2=>∃ a v,x=.ref a/\lJ H2 a y (some v)/\Q v H2
def RN (td ty tv:TE):TS:=λD σ H=>tv σ H λv H1=>td σ H1 λx H2=>ty σ H2 λy H3=>∃ a H4,x=.ref a/\ph H3 a y v H4/\D.nx σ H4
section
variable {X:Cx}{o i e value:Expr}{pos pos' RO:Pos}{td ty tv:TE}
theorem RP(hu:X.A.units+1<cLine)(ho:PE X o td)(hi:PE X i ty)(hs:Cb i):PE X (.Subscript o i pos) (RM td ty):=by intro Tk s σ H Q I h;refine RK PySem.F.slot_dict_getitem.lookup hs (bg (ho Tk s σ H _ I h) λu s1 ⟨x,H1,I1,rx,q1⟩=>bg (hi Tk s1 σ H1 _ I1 q1) λiv s2 aj=>?_);obtain⟨y,H2,I2,ry,a,v,ex,g,q2⟩:=aj;subst ex;obtain rfl:u=Value.ref a:=rx;exact⟨RL I2 g,RH hu I2 g ry λw' s3 I3 lH=>⟨v,H2,I3,lH,q2⟩⟩
theorem RQ(hu:X.A.units+1<cLine)(ho:PE X o td)(hi:PE X i ty)(hv:PE X value tv)(hs:swapsWith value (some (.Subscript o i pos')) pos.line X.env=pure false) :
  PS X (.Assign [.Subscript o i pos'] value pos) (RN td ty tv):=by intro Tk s σ H D I h;refine wpAny_Assign_Subscript (bg (hv Tk s σ H _ I h) λr s1 ⟨v,H1,I1,rv,q1⟩=>bg (ho Tk s1 σ H1 _ I1 q1) λu s2 ⟨x,H2,I2,rx,q2⟩=>bg (hi Tk s2 σ H2 _ I2 q2) λiv s3 ⟨y,H3,I3,ry,a,H4,ex,g,q3⟩=>?_) hs;subst ex;obtain rfl:u=Value.ref a:=rx;exact RJ hu I3 g ry rv λs4 I4=>⟨σ,H4,I4,q3⟩
end
theorem Gk(h:Heap)(hb:sysModules<h.objs.size):dA P w H (h.push { cls:=.type "dict",data:=.dict #[] }) h.objs.size (.dK []):=
 ⟨Q6 _,ZV.mpr (Zm (Q4 hb)),[],.nil,Heap.DictOf.new h⟩
theorem RS(h:Heap)(hb:sysModules<h.objs.size):dA P w H (h.push { cls:=.type "dict",data:=.dict #[] }) h.objs.size (.dT []):=
 ⟨Q6 _,ZV.mpr (Zm (Q4 hb)),[],.nil,_,#[],0,Qp _ rfl,⟨rfl,rfl,rfl⟩,rfl,rfl,JE⟩
def RT:TE:=λ_ H Q=>∀ p,H p=none->Q (.ref p) (upd H p (.dK []))
def RU:TE:=λ_ H Q=>∀ p,H p=none->Q (.ref p) (upd H p (.dT []))
section
variable {X:Cx}{pos:Pos}
theorem RV:PE X (.Dict [] [] pos) RT:=λTk s σ H Q I h=>
 wpAny_Dict_empty ⟨.ref s.heap.objs.size,_,I.laid (a:=s.heap.objs.size) (o:=.dK []) (t':=s.toks) (λ_ _ q=>Qd _ q) (Qj _) (Gk s.heap I.r_),rfl,h _ (I.aG.fresh (Qj _))⟩
theorem RW:PE X (.Dict [] [] pos) RU:=λTk s σ H Q I h=>
 wpAny_Dict_empty ⟨.ref s.heap.objs.size,_,I.laid (a:=s.heap.objs.size) (o:=.dT []) (t':=s.toks) (λ_ _ q=>Qd _ q) (Qj _) (RS s.heap I.r_),rfl,h _ (I.aG.fresh (Qj _))⟩
end
def Cc:List (TE×TE)->St->Hp->(List (V×V)->Hp->Prop)->Prop
 | [],_,H,Q=>Q [] H
 | (tk,tv)::r,σ,H,Q=>tk σ H λx H1=>tv σ H1 λy H2=>Cc r σ H2 λps H3=>Q ((x,y)::ps) H3
abbrev VV:List (V×V)->List (Value×Value)->Prop:=Paired λp q=>bP p.1 q.1/\bP p.2 q.2
def zf (X:Cx)(pos:Pos)(keys:List (Option Expr))(values:List Expr)(qC:List (TE×TE)):Prop:=
 ∀ (Tk:List (Addr×Obj)) (s:Shared) (σ:St) (H:Hp) (Q:List (V×V)->Hp->Prop),Inv X Tk σ H s->Cc qC σ H Q->
  wpAny (model X.prog X.w) X.A (evalPairs (pairTrees keys values X.env pos)) (λvs s'=>∃ ps H',Inv X Tk σ H' s'/\VV ps vs/\Q ps H') X.xe s
theorem RX:zf X pos [] [] []:=λTk s σ H Q I h=>pairTrees_nil_walk ⟨[],H,I,.nil,h⟩
theorem Gm{k v:Expr}{ks:List (Option Expr)}{vs:List Expr}{tk tv:TE}(hk:PE X k tk)(hv:PE X v tv)(hr:zf X pos ks vs qC) :
  zf X pos (some k::ks) (v::vs) ((tk,tv)::qC):=λTk s σ H Q I h=>
 pairTrees_cons_walk (bg (hk Tk s σ H _ I h) λu s1 ⟨x,H1,I1,rx,q1⟩=>bg (hv Tk s1 σ H1 _ I1 q1) λw2 s2 ⟨y,H2,I2,ry,q2⟩=>
  bg (hr Tk s2 σ H2 _ I2 q2) λws s3 ⟨ps,H3,I3,rel,q3⟩=>⟨(x,y)::ps,H3,I3,.cons ⟨rx,ry⟩ rel,q3⟩)
def sf (au more:List (Key×V)):List (Key×V):=more.foldl (λacc kv=>i6 acc kv.1 kv.2) au
theorem KV.merge:∀ {more:List (Key×V)} {rs:List (Key×Value)} {au:List (Key×V)} {vs:List (Key×Value)},KV more rs->KV au vs->KV (sf au more) (merged vs rs):=by
 intro more rs au vs r;unfold KV at r;induction r generalizing au vs with
 | nil=>intro q;exact q
 | @cons p q ps qs h t ih=>
  intro r0;have e:KV (i6 au p.1 p.2) (stored vs q.1 q.2):=by have:=r0.put p.1 h.2;rw[<- h.1];exact this
  exact ih e
theorem Gn:∀ (more au:List (Key×V)),(sf au more).length<=au.length+more.length
 | [],au=>by show au.length<=au.length+0;omega
 | p::r,au=>by have h1:=Gn r (i6 au p.1 p.2);have h2:=B_ au p.1 p.2;show(sf (i6 au p.1 p.2) r).length<=_;rw[Qz];omega
theorem Gp{P:Program}{w:World}:∀ {au:List (Key×V)} {ws:List (Value×Value)},VV (au.map λkv=>(kV kv.1,kv.2)) ws->∃ rs,Carries (ig P w) ws rs/\KV au rs
 | [],_,r=>by rw[Ux]at r;cases r;exact⟨[],True.intro,.nil⟩
 | p::au,_,r=>by
  rw[Qx]at r;cases r with
  | @cons a b as bs h t=>
   obtain⟨rs,c,q⟩:=Gp (P:=P) (w:=w) t;obtain⟨b1,b2⟩:=b;exact⟨(p.1,b2)::rs,⟨wc h.1,rfl,c⟩,.cons ⟨rfl,h.2⟩ q⟩
def RY (qC:List (TE×TE)):TE:=λσ H Q=>∀ p,H p=none->Cc qC σ (upd H p (.dK [])) λps H2=>H2 p=some (.dK [])/\∃ au:List (Key×V),ps=au.map (λkv=>(kV kv.1,kv.2))/\au.length<=15/\Q (.ref p) (upd H2 p (.dK (sf [] au)))
theorem RZ{keys:List (Option Expr)}{values:List Expr}(h:zf X pos keys values qC)(eF:keys.all (·.isSome)=true)(hl:keys.length=values.length)(h0:keys ≠ [])
  (R0:keys.length<=15):PE X (.Dict keys values pos) (RY qC):=by
 intro Tk s σ H Q I q;have hn:=I.aG.fresh (Qj s.heap.objs.size);have I1:=I.laid (a:=s.heap.objs.size) (o:=.dK []) (h':=s.heap.push { cls:=.type "dict",data:=.dict #[] }) (t':=s.toks) (λ_ _ q=>Qd _ q) (Qj _) (Gk s.heap I.r_);refine wpAny_Dict_walk (knd:=ig X.prog X.w) eF hl h0 R0 (bg (h Tk _ σ _ _ I1 (q _ hn)) λws s2 aj=>?_);obtain⟨ps,H2,I2,rel,e,au,ep,lk,q2⟩:=aj;subst ep;obtain⟨rs,c,rk⟩:=Gp (P:=X.prog) (w:=X.w) rel;obtain⟨z,hd,R3,r0,dd⟩:=zc I2.aG e;cases r0;refine⟨rs,c,dd,λh' se hs=>⟨.ref s.heap.objs.size,_,?_,rfl,q2⟩⟩;have hz:(sf [] au).length<=sizeLine:=by have h1:=Gn au [];rw[Jr]at h1;rw[Jv];omega
 have he:∃ q,h'.get? s.heap.objs.size=some q:=let ⟨q,_,_,hq,_⟩:=se;⟨q,hq⟩
 exact Ca I2 (by rw[e];exact True.intro) hs he (Gj hz hd (rk.merge .nil) se)
structure M2 (X:Cx) (o:Expr) (m:Str) (apos:Pos) (e f:Expr) (aC:Pos):Prop where
 base:attributeBase o m X.env (eval o X.env)=eval o X.env
 iE:((backTo aC (starEach [e,f] X.env)).all (λx=>!x.1)&&(backToKw aC (keywordEach [] X.env)).all (λx=>x.1.isSome)
  && decide (([e,f]:List Expr).length+([]:List Keyword).length+(if([]:List Keyword).isEmpty then 0 else 1)<30))=true
 line:(apos.endLine==aC.line)=true
 trees:backTo aC (starEach [e,f] X.env)=[(false,eval e X.env),(false,eval f X.env)]
def zg (H:Hp)(a:Addr):Prop:=(∃ au,Rd H a (.dK au))\/∃ au,Rd H a (.dT au)
theorem R4(I:Inv X Tk σ H s)(d:zg H a) :
  s.TypeIs (.ref a) "dict" /\ (∀ b,Value.ref a=.ref b->∃ ob,s.heap.get? b=some ob/\ob.dict=none)/\(a==sysModules)=false:=by
 rcases d with⟨au,e⟩|⟨au,e⟩
 ·obtain⟨_,hd,vs,_,dd⟩:=we I.aG e;refine⟨dd.typeIs,λb q=>?_,hd⟩;cases q;obtain⟨ob,_,_,h1,h2,_⟩:=dd;exact⟨ob,h1,h2.2.1⟩
 ·obtain⟨_,hd,xs,_,dd⟩:=wg I.aG e;refine⟨dd.typeIs,λb q=>?_,hd⟩;cases q;obtain⟨ob,_,_,h1,h2,_⟩:=dd;exact⟨ob,h1,h2.2.1⟩
section
variable {X:Cx}{Tk:List (Addr×Obj)}{σ:St}{H:Hp}{s:Shared}{a:Addr}{y d:V}{u r:Value}{o:Option V}{A:Around}{E:Tl}
theorem R5(hu:A.units+1<cLine)(I:Inv X Tk σ H s)(g:lJ H a y o)(ry:bP y u)(rd:bP d r)(h:∀ w' s',Inv X Tk σ H s'->bP (o.getD d) w'->Q w' s') :
  wpAny (model X.prog X.w) A (call (.builtin "dict.get") [.ref a,u,r]) Q E s:=by
 rcases g with⟨au,k,e,ey,l⟩|⟨au,k,b,e,ey,eb,l⟩
 ·subst ey;obtain⟨z,hd,vs,rel,dd⟩:=we I.aG e;refine call_meetsIn YD dd.typeIs VT (VJ _ _ _) (meets_dict_get_default (ig X.prog X.w) a (wc ry) hd r) ⟨_,dd.mapOf,h _ _ (I.tok _) ?_⟩;rw[l];exact(rel.val k).getD rd
 ·subst ey;cases (show u=Value.ref b from ry);obtain⟨z,hd,xs,rel,dd⟩:=wg I.aG e;refine call_meetsIn YD dd.typeIs VT (VJ _ _ _) (meetsH_dict_get_default (tupleKind (ig X.prog X.w)) a b hd r) ⟨Vc hu,k,xs,zd I.aG eb,dd,h _ _ (I.tok _) ?_⟩;rw[l];exact(rel.val k).getD rd
end
def R6 (td ty tx:TE):TE:=λσ H Q=>td σ H λx H1=>∃ a,x=.ref a/\zg H1 a/\ty σ H1 λy H2=>tx σ H2 λz H3=>∃ o,lJ H3 a y o/\Q (o.getD z) H3
section
variable {X:Cx}{o e f:Expr}{apos aC:Pos}{td ty tx:TE}
theorem Gq(hu:X.A.units+1<cLine)(ho:PE X o td)(he:PE X e ty)(hf:PE X f tx)(m:M2 X o "get" apos e f aC):PE X (.Call (.Attribute o "get" apos) [e,f] [] aC) (R6 td ty tx):=by
 intro Tk s σ H Q I h;refine wpAny_Call_method m.base m.iE m.line VL YD PySem.F.type_dict_get (bg (ho Tk s σ H _ I h) λu s1 aj=>?_);obtain⟨x,H1,I1,rx,a,ex,d,q1⟩:=aj;subst ex;obtain rfl:u=Value.ref a:=rx;obtain⟨t1,t2,_⟩:=R4 I1 d;refine⟨t1,t2,?_⟩;rw[m.trees];refine Calls.callWith_builtin rfl (Calls.evalArgs_plain (Y9 (bg (he Tk s1 σ H1 _ I1 q1) λiv s2 ⟨y,H2,I2,ry,q2⟩=>
  Y9 (bg (hf Tk s2 σ H2 _ I2 q2) λfv s3 ⟨z,H3,I3,rz,ov,g,q3⟩=>Calls.spliced_nil ?_))))
 exact R5 hu I3 g ry rz λw' s4 I4 lH=>⟨_,H3,I4,lH,q3⟩
end
theorem R9{R:Result->Shared->Prop}{target:Expr}{it acc:Value}(I:Nat->Shared->Prop)
  (turn:∀ n s,I n s->wpAny (model prog w) A (pyNext it) (λr aV=>match r with
    | none=>R (.ok .next) aV
    | some v=>wpAny (model prog w) A (letOwnedTupleGo target it v) (λ_ qE=>wpAny (model prog w) A (assign target env v) (λ_ i4=>
      wpAny (model prog w) A (forIn ifs true λc r=>if r=true then do let ok <- isTrue c env (eval c env);pure (ForInStep.yield ok)else pure (ForInStep.yield r)) (λok jE=>
       if ok=true then wpAny (model prog w) A (eval elt env) (λx pw=>
        wpAny (model prog w) A (call (.builtin "list.append") [acc,x]) (λ_ wj=>∃ m,m<n/\I m wj) (λ_ _=>False) pw) (λ_ _=>False) jE
       else ∃ m,m<n/\I m jE) (λ_ _=>False) i4) (λ_ _=>False) qE) (λ_ _=>False) aV) (λ_ _=>False) s)
  (n:Nat) (h:I n s):codeAny (model prog w) A (.compLoop (.ListComp elt [⟨target,iter,ifs,0⟩] scope pos) 0 it acc env) R s:=by
 refine codeAny_loop rfl I (λn s hI=>?_) n h;show wpAny _ A ((compTurn (.ListComp elt [⟨target,iter,ifs,0⟩] scope pos) 0 it acc env).onRaise (λx=>do noteFrame x env;theTreesLotGoes x)) _ _ s;refine wpAny_noted ?_;rw[compTurn_list];refine Qa (wpAny_standAt (Qa (ZR (turn n s hI) (λr aV pj=>?_) λ_ _ h'=>h'.elim)));cases r with
 | none=>exact Qe pj
 | some v=>
  refine Qa (ZR pj (λ_ qE wm=>?_) λ_ _ h'=>h'.elim);refine Qa (ZR wm (λ_ i4 mW=>Qa (ZR mW (λok jE pq=>?_) λ_ _ h'=>h'.elim)) λ_ _ h'=>h'.elim);cases ok with
  | false=>exact Qe ⟨rfl,pq⟩
  | true=>
   exact Qa (Qa (ZR pq (λx pw Cd=>Qa (ZR Cd (λ_ wj Ce=>Qe (Qe ⟨rfl,Ce⟩)) λ_ _ h'=>h'.elim)) λ_ _ h'=>h'.elim))
theorem R_{M:Model}{A:Around}{E:Tl}{globals:Addr}{cl:List (Str×Addr)}{outer:Env}{Q:Env->Shared->Prop}
  (hQ:Q (newEnv scope s.heap.objs.size globals (cellsFrom (s.heap.objs.size+1) scope.names cl) qual none .none (some outer) builtinsNs)
    { s with heap:=pushCells (s.heap.push { cls:=.type "dict",data:=.dict #[] }) scope.names }) :
  wpAny M A (newFunctionEnv scope globals cl [] qual none .none (some outer)) Q E s:=by simp only[newFunctionEnv,Option.isSome_some,ZC];refine Qa (wpAny_alloc ?_);refine Qa (wpAny_layCells _ (λname kind cells=>by cases Sa:kind==NameKind.cell<;>simp[Sa]) _ _ _ _ ?_);rw[show({ s with heap:=s.heap.push { cls:=.type "dict",data:=.dict #[] } }:Shared).heap.objs.size=s.heap.objs.size+1 from Zt ..];refine Qa ?_;rw[Uf];exact Qe (Qe hQ)
def iQ (cells:List (Str×Addr)):List (Str×NameKind)->List (Str×Addr)->List (Str×Addr)
 | [],acc=>acc
 | (n,k)::r,acc=>if k == .free then(match cells.lookup n with
   | some c=>iQ cells r ((n,c)::acc)
   | none=>iQ cells r acc)else iQ cells r acc
theorem Gr(h:∀ y∈scope.names,y.2=.free->∃ c,env.cells.lookup y.1=some c):closureFor scope env=pure (iQ env.cells scope.names []):=by
 unfold closureFor;have key:∀ (names:List (Str×NameKind)) (acc:List (Str×Addr)),(∀ y∈names,y.2=.free->∃ c,env.cells.lookup y.1=some c)->
   (forIn names acc (λ(x:Str×NameKind) (r:List (Str×Addr))=>(match x with
     | (name,kind)=>if(kind==NameKind.free)=true then do
       let c <- cellOf env name
       pure (ForInStep.yield ((name,c)::r))
      else pure (ForInStep.yield r):Sem (ForInStep (List (Str×Addr))))))=(pure (iQ env.cells names acc):Sem (List (Str×Addr))):=by
  intro names;induction names with
  | nil=>intro acc _;rfl
  | cons y r ih=>
   intro acc hh;obtain⟨n,kd⟩:=y;rw[V3];unfold iQ;by_cases hk:(kd==NameKind.free)=true
   ·obtain⟨c,hc⟩:=hh (n,kd) Qh (by simpa using hk);have kL:env.cells.lookup n=some c:=hc;simp only[hk,ZC,kL];have e:cellOf env n=pure c:=by unfold cellOf;rw[kL]
    rw[e];exact ih ((n,c)::acc) λz hz=>hh z (Qf _ hz)
   ·simp only[hk];exact ih acc λz hz=>hh z (Qf _ hz)
 exact(ZD (λm=>m >>= λcs=>(pure cs:Sem (List (Str×Addr)))) (key scope.names [] h)).trans rfl
theorem zh:∀ {names:List (Str×NameKind)} {acc:List (Str×Addr)},(∀ y c,(y,c)∈acc->cells.lookup y=some c)->∀ y c,(y,c)∈iQ cells names acc->cells.lookup y=some c
 | [],_,h,y,c,m=>h y c m
 | (n,k)::r,acc,h,y,c,m=>by
  unfold iQ at m;split at m
  ·split at m;next c' e=>
    refine zh (acc:=(n,c')::acc) (λz d hz=>?_) y c m;rcases Qs.mp hz with q|q
    ·cases q;exact e
    ·exact h z d q
   ·exact zh h y c m
  ·exact zh h y c m
theorem zi:∀ {names:List (Str×NameKind)} {acc:List (Str×Addr)} {y:Str},(acc.lookup y).isSome=true->((iQ cells names acc).lookup y).isSome=true
 | [],_,_,h=>h
 | (n,k)::r,acc,y,h=>by
  unfold iQ;split
  ·split
   ·refine zi ?_;rw[Zu];split
    ·rfl
    ·exact h
   ·exact zi h
  ·exact zi h
theorem wo(hc:cells.lookup y=some c):∀ {names:List (Str×NameKind)} {acc:List (Str×Addr)},(y,NameKind.free)∈names->((iQ cells names acc).lookup y).isSome=true
 | (n,k)::r,acc,h=>by
  unfold iQ;rcases Qs.mp h with q|q
  ·cases q;simp only[hc];rw[Qi (by rfl)];refine zi ?_;rw[Zu,Zy];rfl
  ·split
   ·split
    ·exact wo hc q
    ·exact wo hc q
   ·exact wo hc q
theorem Cf:∀ {names:List (Str×NameKind)} {h:Heap} {acc:List (Str×Addr)} {y:Str} {c:Addr},(y,c)∈cellsFrom h.objs.size names acc->(y,c)∈acc\/(h.objs.size<=c/\(pushCells h names).IsCell c none)
 | [],_,_,_,_,m=>.inl m
 | (n,k)::r,h,acc,y,c,m=>by
  unfold cellsFrom at m;unfold pushCells;split at m;next hk=>
   rw[Qi hk];have m':(y,c)∈cellsFrom (h.push { cls:=.type "cell",data:=.cell none }).objs.size r ((n,h.objs.size)::acc):=by rw[Zt];exact m
   rcases Cf m' with q|⟨q1,q2⟩
   ·rcases Qs.mp q with e|q
    ·cases e;refine .inr ⟨Qj _,_,Yf _ _ _ _ (Qp _ rfl),rfl⟩
    ·exact .inl q
   ·rw[Zt]at q1;exact .inr ⟨by omega,q2⟩
  next hk=>
   rw[Ql hk];exact Cf m
theorem Cg:∀ {names:List (Str×NameKind)} {n:Nat} {acc:List (Str×Addr)},(∀ y c,(y,c)∈acc->c<n)->(∀ x y c,(x,c)∈acc->(y,c)∈acc->x=y)->∀ x y c,(x,c)∈cellsFrom n names acc->(y,c)∈cellsFrom n names acc->x=y
 | [],_,_,_,h=>h
 | (nm,k)::r,n,acc,dR,h=>by
  unfold cellsFrom;split
  ·refine Cg (n:=n+1) (acc:=(nm,n)::acc) (λy c m=>?_) (λx y c m1 m2=>?_)
   ·rcases Qs.mp m with e|m
    ·cases e;exact ZG _
    ·exact ZJ (dR y c m)
   ·rcases Qs.mp m1 with e1|m1<;>rcases Qs.mp m2 with e2|m2
    ·cases e1;cases e2;rfl
    ·cases e1;exact absurd (dR y _ m2) (QT _)
    ·cases e2;exact absurd (dR x _ m1) (QT _)
    ·exact h x y c m1 m2
  ·exact Cg dR h
theorem Ci:∀ {names:List (Str×NameKind)} {n:Nat} {acc:List (Str×Addr)},lo<=n->(∀ c,acc.lookup y=some c->lo<=c)->∀ c,(cellsFrom n names acc).lookup y=some c->lo<=c
 | [],_,_,_,h=>h
 | (nm,k)::r,n,acc,hn,h=>by
  unfold cellsFrom;split
  ·refine Ci (n:=n+1) (by omega) λc e=>?_;rw[Zu]at e;split at e
   ·cases e;exact hn
   ·exact h c e
  ·exact Ci hn h
theorem Cj:∀ {names:List (Str×NameKind)} {n:Nat} {acc:List (Str×Addr)},lo<=n->(y,NameKind.cell)∈names->∀ c,(cellsFrom n names acc).lookup y=some c->lo<=c
 | (nm,k)::r,n,acc,hn,h=>by
  unfold cellsFrom;rcases Qs.mp h with q|q
  ·cases q;rw[Qi (by rfl)];refine Ci (n:=n+1) (by omega) λc e=>?_;rw[Zu,Zy]at e;cases e;exact hn
  ·split
   ·exact Cj (n:=n+1) (by omega) q
   ·exact Cj hn q
theorem Ck:∀ {names:List (Str×NameKind)} {n:Nat} {acc:List (Str×Addr)},(y,NameKind.cell) ∉ names->(cellsFrom n names acc).lookup y=acc.lookup y
 | [],_,_,_=>rfl
 | (nm,k)::r,n,acc,h=>by
  unfold cellsFrom;split;next hk=>
   rw[Ck (λz=>h (Qf _ z)),Zu];have il:(y==nm)=false:=by
    cases e:y==nm with
    | false=>rfl
    | true=>
     have e1:y=nm:=J5.mp e;have e2:k=NameKind.cell:=by simpa using hk
     exact absurd (by rw[e1,<- e2];exact Qh) h
   rw[il]
  ·exact Ck λz=>h (Qf _ z)
def qF (env:Env)(y:Str)(k:NameKind):NameKind:=if(k==NameKind.free&&env.scope.kind == .function&&env.kindOf y==some .cell)then .cell else k
theorem Cm{env:Env}{y:Str}:∀ (names:List (Str×NameKind)),(names.map λ(n,k)=>if(k==NameKind.free&&env.scope.kind == .function&&env.kindOf n==some .cell)then(n,NameKind.cell)else(n,k)).lookup y=(names.lookup y).map (qF env y)
 | []=>rfl
 | (n,k)::r=>by
  have ih:=Cm (env:=env) (y:=y) r;show List.lookup y ((if(k==NameKind.free&&env.scope.kind == .function&&env.kindOf n==some .cell)=true then(n,NameKind.cell)else(n,k))::_)=_;cases hx:y==n with
  | true=>
   have e:=J5.mp hx;subst e;rw[Zu,Zu];by_cases hc:(k==NameKind.free&&env.scope.kind == .function&&env.kindOf y==some .cell)=true
   ·simp only[qF,hc,ZC,Zy,ZZ]
   ·simp only[qF,hc,Zy,ZZ];simp
  | false=>
   by_cases hc:(k==NameKind.free&&env.scope.kind == .function&&env.kindOf n==some .cell)=true
   ·rw[Qi hc,Zu,Zu];simp only[hx];exact ih
   ·rw[Ql hc,Zu,Zu];simp only[hx];exact ih
theorem Gs{l:List (Str×NameKind)}(hn:(l.map (·.1)).Nodup){k:NameKind}(h:(y,k)∈l):l.lookup y=some k:=by
 induction l with
 | nil=>cases h
 | cons p r ih=>
  rw[Zu];rcases Qs.mp h with e|h
  ·rw[<- e,Zy]
  ·have il:y≠p.1:=λe=>by have:=(Q5.mp hn).1;exact this (by show p.1∈_;rw[<- e];exact Qk.mpr ⟨(y,k),h,rfl⟩)
   have:(y==p.1)=false:=by simpa using il
   rw[this];exact ih (Q5.mp hn).2 h
def Gu (scope:Scope)(env:Env)(C:Addr):Env:=
 { newEnv scope C env.globals (cellsFrom (C+1) scope.names (iQ env.cells scope.names [])) env.qual none .none (some env) builtinsNs with scope:=relabel scope env }
def gQ (X:Cx)(N':List Str)(scope:Scope)(C:Addr)(s:Shared)(H:Hp)(fp:List Addr):Cx where
 prog:=X.prog
 w:=X.w
 K:=X.K
 mg:=X.mg
 base:=X.base
 A:=X.A
 N:=N'
 cF:=s
 iW:=H
 env:=Gu scope X.env C
 outer:=X.stack
 stack:=X.stack
 ex:=fp
 fn:=λy=>scope.names.lookup y==some .cell
 calm:=X.calm
 pn:=[]
 xe:=λ_ _=>False
structure cB (X:Cx) (k:Nat) (N':List Str) (scope:Scope):Prop where
 kind:scope.kind=.function
 names:(scope.names.map (·.1)).Nodup
 len:N'.length=X.N.length+k
 frees:(scope.names.all λy=>y.2 != .free||X.env.kindOf y.1==some .cell||X.env.kindOf y.1==some .free)=true
 outs:((N'.zip X.N).all λp=>(p.1==p.2&&scope.names.lookup p.1==some .free)||scope.names.lookup p.1==none||scope.names.lookup p.1==some .globalImplicit)=true
theorem cB.free{k:Nat}(S:cB X k N' scope)(h:(y,NameKind.free)∈scope.names):X.env.kindOf y=some .cell\/X.env.kindOf y=some .free:=by
 have:=Z3.mp S.frees (y,NameKind.free) h;simp only[Bool.or_eq_true,bne_iff_ne,ne_eq,J5]at this;rcases this with(h1|h1)|h1
 ·exact absurd trivial h1
 ·exact .inl h1
 ·exact .inr h1
theorem cB.out{k:Nat}(S:cB X k N' scope)(bS:i<X.N.length)(h:N'[i]? = some y)(hv:ug (relabel scope X.env) y):X.N[i]? = some y/\scope.names.lookup y=some .free:=by
 have e2:X.N[i]? = some X.N[i]:=by simp[bS]
 have m:(y,X.N[i])∈N'.zip X.N:=QK (i:=i) (by rw[Vq];exact⟨h,e2⟩);have:=Z3.mp S.outs _ m;simp only[Bool.or_eq_true,ZF,J5]at this;have hl:(relabel scope X.env).names.lookup y=(scope.names.lookup y).map (qF X.env y):=Cm _;rcases this with(⟨h1,h2⟩|h1)|h1
 ·exact⟨by rw[e2,<- h1],h2⟩
 ·rw[h1]at hl;rcases hv with z|z|z<;>(rw[hl]at z;cases z)
 ·rw[h1]at hl;have hr:qF X.env y .globalImplicit=.globalImplicit:=rfl;rw[ZZ,hr]at hl;rcases hv with z|z|z<;>(rw[hl]at z;cases z)
theorem Un.sg{fs ex:List Addr}{D:Addr}{o:HO}(u:Un fs ex H H' h h')(aG:dQ P w H h)(hD:h.objs.size<=D):Un fs ex H (upd H' D o) h h':=by
 have ne:∀ b ob,h.get? b=some ob->b≠D:=λb ob e z=>absurd (QB (Qq e) hD) (by rw[z];exact QT _);have ne':∀ b x,H b=some x->b≠D:=λb x e z=>absurd (QB (aG.lt e) hD) (by rw[z];exact QT _);refine⟨u.keep,u.slot,λb ob e n hx=>?_,u.there,λb xs e=>?_,λb ob x e=>?_,λb ps e=>?_⟩
 ·rw[a_ (ne b ob e)];exact u.free b ob e n hx
 ·rw[a_ (ne' b _ e)];exact u.iy b xs e
 ·rw[a_ (ne' b _ e)];exact u.gN b ob x e
 ·rw[a_ (ne' b _ e)];exact u.iz b ps e
theorem dQ.add{D:Addr}{o:HO}(x:dQ P w H h)(hn:H D=none)(new:dA P w (upd H D o) h D o):dQ P w (upd H D o) h:=λb u e=>by
 by_cases hb:b=D
 ·subst hb;rw[fD]at e;cases e;exact new
 ·rw[a_ hb]at e;exact(x b u e).ix (λc v _ q=>q) (λc q=>by rw[a_ (gC q hn)];exact q) λc xs q=>by rw[a_ (gC q hn)];exact q
def ur (X:Cx)(ifs:List Expr)(t:TT):Prop:=
 ∀ (Tk:List (Addr×Obj)) (s:Shared) (σ:St) (H:Hp) (Q:Bool->Hp->Prop),Inv X Tk σ H s->t σ H Q->
  wpAny (model X.prog X.w) X.A (forIn ifs true λc r=>if r=true then do let ok <- isTrue c X.env (eval c X.env);pure (ForInStep.yield ok)else pure (ForInStep.yield r)) (TP X Tk σ Q) X.xe s
def Sb:TT:=λ_ H Q=>Q true H
theorem Sd:ur X [] Sb:=λTk s σ H Q I h=>wpAny_tests_nil ⟨H,I,h⟩
theorem Se{c:Expr}{t:TT}(h:PT X c t):ur X [c] t:=λTk s σ H Q I q=>wpAny_tests_one (h Tk s σ H Q I q)
def Gv (k:Nat)(g:TG)(tt:TT)(te:TE)(σ:St)(J:It)(H:Hp)(Fin:List V->Hp->Prop):Prop:=
 ∃ W:Nat->Nat->List V->Hp->Prop,(∃ m,W 0 m [] H)/\∀ i m ys H2,W i m ys H2->ys.length<=sizeLine /\
  ((J.stop i H2/\Fin ys H2)\/(J.go i H2/\ys.length<sizeLine/\∀ x H3,J.rO i H2 x H3->g x (σ++replicate k none) H3 λuu H4=>(∃ τ,uu=σ++τ/\τ.length=k) /\
    tt uu H4 λb H5=>if b=true then te uu H5 λv H6=>∃ m',m'<m/\W (i+1) m' (ys++[v]) H6 else ∃ m',m'<m/\W (i+1) m' ys H5))
def zj (k:Nat)(wi:TI)(g:TG)(tt:TT)(te:TE):TE:=λσ H Q=>wi σ H λJ H1=>Gv k g tt te σ J H1 λys H2=>∀ p,H2 p=none->Q (.ref p) (upd H2 p (.lst ys))
def iF (us:List Value)(n:Nat):Obj:={ cls:=.type "list",data:=.seq us.toArray n }
theorem Gw{τ:St}(I:Inv X Tk (σ++τ) H s):Inv X Tk (σ++replicate τ.length none) H s:=
 I.weak (by simp) λi v e=>by
  by_cases hi:i<σ.length
  ·rw[Q1 hi]at e ⊢;exact e
  ·rw[Zs (by omega),Ja]at e;split at e<;>cases e
section
variable {X:Cx}{k:Nat}{N':List Str}{scope:Scope}{Tk:List (Addr×Obj)}{σ:St}{H2:Hp}{s2:Shared}{fp:List Addr}
abbrev wq (scope:Scope)(s2:Shared):Heap:=pushCells ((s2.heap.push (iF [] 0)).push { cls:=.type "dict",data:=.dict #[] }) scope.names
theorem Sf(S:cB X k N' scope)(I2:Inv X Tk σ H2 s2)(f2:∀ b∈fp,mH X Tk H2 b)(si:∀ b∈fp,b<s2.heap.objs.size) :
  Inv (gQ X N' scope (s2.heap.objs.size+1) s2 H2 fp) [(s2.heap.objs.size,iF [] 0)] (σ++replicate k none) H2 { s2 with heap:=wq scope s2 }:=by
 have e1:(s2.heap.push (iF [] 0)).objs.size=s2.heap.objs.size+1:=Zt ..;have e2:((s2.heap.push (iF [] 0)).push { cls:=.type "dict",data:=.dict #[] }).objs.size=s2.heap.objs.size+1+1:=by rw[Zt,e1]
 have keep:∀ b o,s2.heap.get? b=some o->(wq scope s2).get? b=some o:=λb o e=>Yf _ _ b o (Qd _ (Qd _ e));have eV:∀ y c,(y,c)∈iQ X.env.cells scope.names []->X.env.cells.lookup y=some c:=zh (λ_ _ m=>nomatch m);have sj:∀ y c,(y,c)∈cellsFrom (s2.heap.objs.size+1+1) scope.names (iQ X.env.cells scope.names [])->X.env.cells.lookup y=some c\/(s2.heap.objs.size+1+1<=c/\(wq scope s2).IsCell c none):=λy c m=>by
  have m':(y,c)∈cellsFrom ((s2.heap.push (iF [] 0)).push { cls:=.type "dict",data:=.dict #[] }).objs.size scope.names (iQ X.env.cells scope.names []):=by rw[e2];exact m
  rcases Cf m' with q|⟨q1,q2⟩
  ·exact .inl (eV y c q)
  ·rw[e2]at q1;exact .inr ⟨q1,q2⟩
 have Sg:∀ y c,X.env.cells.lookup y=some c->c<s2.heap.objs.size:=λy c e=>by obtain⟨v,z⟩:=I2.cell y c e;exact z.lt
 have hl:∀ y,(relabel scope X.env).names.lookup y=(scope.names.lookup y).map (qF X.env y):=λy=>Cm _;have ok:(gQ X N' scope (s2.heap.objs.size+1) s2 H2 fp).Ok:=by
  refine⟨I2.ok.mod,S.kind,I2.ok.glob,I2.ok.blt,Yk _,λx y c h1 h2=>?_,λx hx=>?_,λx c hf h=>?_,I2.ok.hd,I2.ok.frames,.inl rfl,λb hb=>⟨?_,λx c h z=>?_⟩,I2.bs,QJ I2.ok.n4 I2.sz,λb o e hb=>?_,λb hb z=>?_,I2.stack,I2.kJ⟩
  ·refine Cg (n:=s2.heap.objs.size+1+1) (names:=scope.names) (acc:=iQ X.env.cells scope.names []) (λy c m=>?_) (λx y c m1 m2=>?_) x y c (Q0 h1) (Q0 h2)
   ·exact QB (Sg y c (eV y c m)) (by omega)
   ·exact I2.ok.inj x y c (eV x c m1) (eV y c m2)
  ·have fG:(relabel scope X.env).names.lookup x=some .cell\/(relabel scope X.env).names.lookup x=some .free:=hx;rw[hl x]at fG;have:scope.names.lookup x=some .cell\/scope.names.lookup x=some .free:=by
    cases e:scope.names.lookup x with
    | none=>rw[e]at fG;rcases fG with z|z<;>cases z
    | some kd=>
     rw[e,ZZ]at fG;cases kd<;>first
      | exact .inl rfl
      | exact .inr rfl
      | (rcases fG with z|z<;>(have z':=QL z;unfold qF at z';simp at z'))
   rcases this with q|q
   ·exact Jz.mp (JI scope.names (s2.heap.objs.size+1+1) _ (.inl q))
   ·have qm:=Q0 q;have hk:=S.free qm;obtain⟨c,hc⟩:=I2.ok.has x hk;exact Jz.mp (JI scope.names (s2.heap.objs.size+1+1) _ (.inr (wo hc qm)))
  ·have Si:(scope.names.lookup x==some .cell)=true:=hf;have:=Cj (lo:=s2.heap.objs.size) (n:=s2.heap.objs.size+1+1) (acc:=iQ X.env.cells scope.names []) (by omega) (Q0 (J5.mp Si)) c h;exact this
  ·have:=si b hb;show b≠s2.heap.objs.size+1;exact Q4 (QB this (Yk _))
  ·have q:=si b hb;rcases sj x c (Q0 h)with w|⟨w,_⟩
   ·exact(f2 b hb).2.2.2.2.1 x c w z
   ·subst z;exact absurd (QB q (QJ (by omega) w)) (QT _)
  ·rcases(f2 b hb).2.2.2.1 with z|z
   ·exact I2.ok.mD b o e z
   ·have:=Qq e;have:=I2.ok.n4;exact absurd (QB (Qq e) (QJ I2.ok.n4 z)) (QT _)
  ·rcases Qs.mp (I2.iX b z)with q|q
   ·exact(f2 b hb).2.1 q
   ·exact(f2 b hb).2.2.1 q
 obtain⟨m,hn,Cn⟩:=id I2.loc;refine⟨ok,rfl,I2.bare,Un.kept keep,⟨λ_=>none,?_,λi y v h1 h2 h3=>?_⟩,λy c h=>?_,I2.aG.fresh (Yk _),λy c h=>?_,λp hp=>?_,I2.aG.kept keep,?_⟩
 ·have:=(Heap.Ns.new (s2.heap.push (iF [] 0)) (.type "dict")).keeps (Yf scope.names _);rw[e1]at this;exact this
 ·by_cases hi:i<σ.length
  ·have Sj:ug (relabel scope X.env) y:=h3;obtain⟨o1,o2⟩:=S.out (by rw[<- I2.len];exact hi) h1 Sj;have hk:=S.free (Q0 o2);have hs:σ[i]? = some (some v):=by rw[Q1 hi]at h2;exact h2
   obtain⟨u,r,l⟩:=Cn i y v o1 hs (.inr hk);refine⟨u,r,?_⟩;rcases l with⟨l,_⟩|⟨_,c,hc,kM⟩
   ·rcases hk with z|z<;>(rw[l]at z;cases z)
   ·refine .inr ⟨?_,c,?_,kM.keeps keep⟩
    ·show(relabel scope X.env).names.lookup y=some .cell\/(relabel scope X.env).names.lookup y=some .free;rw[hl y,o2,ZZ];unfold qF;split
     ·exact .inl rfl
     ·exact .inr rfl
    ·show(cellsFrom (s2.heap.objs.size+1+1) scope.names (iQ X.env.cells scope.names [])).lookup y=some c;rw[Ck (λz=>by have:=Gs S.names z;rw[o2]at this;cases this)];obtain⟨c',kL⟩:=Jz.mp (wo (acc:=[]) hc (Q0 o2));have:=eV y c' (Q0 kL);rw[hc]at this;cases this;exact kL
  ·rw[Zs (by omega),Ja]at h2;split at h2<;>cases h2
 ·rcases sj y c (Q0 h)with w|⟨_,w⟩
  ·obtain⟨v,z⟩:=I2.cell y c w;exact⟨v,z.keeps keep⟩
  ·exact⟨_,w⟩
 ·rcases sj y c (Q0 h)with w|⟨w,_⟩
  ·exact I2.dU y c w
  ·exact I2.aG.fresh (by omega)
 ·have e:p=(s2.heap.objs.size,iF [] 0):=by have:p ∈ [(s2.heap.objs.size,iF [] 0)]:=hp;simpa using this
  subst e;refine⟨Yf _ _ _ _ (Qd _ (Qp _ rfl)),I2.aG.fresh (Qj _),?_,λz=>?_,λv z=>nomatch z⟩
  ·show s2.heap.objs.size≠s2.heap.objs.size+1;omega
  ·have z':s2.heap.objs.size∈jX X.stack:=z;rcases Qs.mp (I2.iX _ z')with q|q
   ·exact absurd I2.lt (by rw[<- q];exact QT _)
   ·exact I2.vM (Qj _) q
 ·rw[Qn,ZK,I2.len];exact S.len.symm
theorem Sk{us:List Value}{ys:List V}{s':Shared}{aO:St}(I2:Inv X Tk σ H2 s2)(f2:∀ b∈fp,mH X Tk H2 b)
  (I3:Inv (gQ X N' scope C s2 H2 fp) [(s2.heap.objs.size,iF us n)] aO H' s') (r:bc ys us) (hz:ys.length<=sizeLine):Inv X Tk σ (upd H' s2.heap.objs.size (.lst ys)) s':=by obtain⟨e,hn,_⟩:=I3.pin (s2.heap.objs.size,iF us n) (Qu _ (QF.mpr rfl));have u:Un (jX X.stack) fp H2 H' s2.heap s'.heap:=I3.base;exact I2.vQ (ch:=fp) I3.os (u.sg I2.aG (Qj _)) (I3.aG.add hn ⟨hz,us,n,r,e⟩) I3.bare λb hb=>⟨(f2 b hb).2.2.2.1,(f2 b hb).2.1,(f2 b hb).2.2.2.2⟩
end
theorem Gx{k:Nat}{H2:Hp}{s2:Shared}{fp:List Addr}{tg:Expr}{it:Addr}{tn:Nat->Heap->Prop}{J:It}{g:TG}{tt:TT}{te:TE}{Fin:List V->Hp->Prop}{E:Tl}{RR:Value->Addr->Result->Shared->Prop}
  (hc:X.calm=true) (S:cB X k N' scope) (hg:∀ C s H fp,PG (gQ X N' scope C s H fp) tg g) (ht:∀ C s H fp,ur (gQ X N' scope C s H fp) ifs tt) (he:∀ C s H fp,PE (gQ X N' scope C s H fp) elt te)
  (I2:Inv X Tk σ H2 s2) (T:Turn X.prog X.w X.K tg J fp it tn) (qu:tn 0 s2.heap) (f2:∀ b∈fp,mH X Tk H2 b) (R:Gv k g tt te σ J H2 Fin)
  (Sl:∀ C ys H' s' m',Inv X Tk σ (upd H' s2.heap.objs.size (.lst ys)) s'->s'.heap.Ns C m'->H' s2.heap.objs.size=none->upd H' s2.heap.objs.size (.lst ys) C=none->C≠X.env.locals->X.cF.heap.objs.size<=C->s2.heap.objs.size<C->
    Fin ys H'->RR (.ref s2.heap.objs.size) C (.ok .next) s') :
  wpAny (model X.prog X.w) X.A (newList []) (λacc jE=>wpAny (model X.prog X.w) X.A (newFunctionEnv scope X.env.globals (iQ X.env.cells scope.names []) [] X.env.qual none .none (some X.env)) (λwu pw=>
   codeAny (model X.prog X.w) X.A (.compStart (.ListComp elt [⟨tg,iter,ifs,0⟩] scope pos) 0 (.ref it) acc { wu with scope:=relabel scope X.env }) (RR acc wu.locals) pw) E jE) E s2:=by
 refine Q8 (R_ ?_);have e1:(s2.heap.push (iF [] 0)).objs.size=s2.heap.objs.size+1:=Zt ..;have si:∀ b∈fp,b<s2.heap.objs.size:=λb hb=>by obtain⟨o,e,_⟩:=T.obj _ _ qu b hb;exact Qq e
 obtain⟨W,⟨m0,w0⟩,turn⟩:=R;have I3:=Sf S I2 f2 si;have vR:tn 0 (wq scope s2):=T.keep _ _ _ qu λb hb o e=>Yf _ _ b o (Qd _ (Qd _ e));have Sq:s2.heap.objs.size≠s2.heap.objs.size+1:=by omega
 have km:∀ {H':Hp} {us:List Value} {n:Nat},(∀ b∈fp,H' b=none)->∀ b∈fp,mH (gQ X N' scope (s2.heap.objs.size+1) s2 H2 fp) [(s2.heap.objs.size,iF us n)] H' b:=λ{H' us n} hn b hb=>by
  have q:=I3.ok.Bw b hb;refine⟨hn b hb,q.1,I3.ok.mE b hb,.inl hb,q.2,λp hp z=>?_⟩;have mf:p ∈ [(s2.heap.objs.size,iF us n)]:=hp;have e:p=(s2.heap.objs.size,iF us n):=by simpa using mf
  subst e;have:=si b hb;have z':s2.heap.objs.size=b:=z;exact absurd this (by rw[z'];exact QT _)
 have loop:∀ Gy,Gy=Value.ref it->codeAny (model X.prog X.w) X.A (.compLoop (.ListComp elt [⟨tg,iter,ifs,0⟩] scope pos) 0 Gy (.ref s2.heap.objs.size) (Gu scope X.env (s2.heap.objs.size+1))) (RR (.ref s2.heap.objs.size) (s2.heap.objs.size+1)) { s2 with heap:=wq scope s2 }:=by
  rintro _ rfl;refine R9 (λn s'=>∃ i ys us cnt H',Inv (gQ X N' scope (s2.heap.objs.size+1) s2 H2 fp) [(s2.heap.objs.size,iF us cnt)] (σ++replicate k none) H' s'/\tn i s'.heap/\(∀ b∈fp,H' b=none)/\bc ys us/\W i n ys H') ?_ m0
   ⟨0,[],[],0,H2,I3,vR,λb hb=>(f2 b hb).1,.nil,w0⟩
  rintro n s3 ⟨i,ys,us,cnt,H3,J3,st,fr,r3,w3⟩;obtain⟨hz,hw⟩:=turn i n ys H3 w3;rcases hw with⟨stop,fin⟩|⟨go,dR,step⟩
  ·refine bg (T.done (gQ X N' scope (s2.heap.objs.size+1) s2 H2 fp) rfl rfl rfl hc i _ s3 _ H3 _ J3 (km fr) st stop) λrr s4 ⟨hr,I4⟩=>?_;subst hr;obtain⟨m',Bz,_⟩:=id I4.loc;obtain⟨eD,nD,_⟩:=I4.pin (s2.heap.objs.size,iF us cnt) (Qu _ (QF.mpr rfl));refine Sl (s2.heap.objs.size+1) ys H3 s4 m' (Sk I2 f2 I4 r3 hz) Bz nD ?_ ?_ ?_ (ZG _) fin
   ·rw[a_ (Zm Sq)];exact I4.free
   ·exact Zm (Q4 (QB I2.lt (Yk _)))
   ·have:=I2.sz;omega
  ·refine bg (T.item (gQ X N' scope (s2.heap.objs.size+1) s2 H2 fp) rfl rfl rfl hc i _ s3 _ H3 _ J3 (km fr) st go) λrr s4 ⟨u,hr,h4⟩=>?_;subst hr;refine bg h4 λ_ s5 aj=>?_;obtain⟨x,H5,I5,r5,y5,rP,BK⟩:=aj;have BL:=I5.pinned (km BK) (T.obj _ _ rP);refine bg (hg _ _ _ _ _ s5 _ H5 x u _ BL r5 (step x H5 y5)) λ_ s6 ⟨FG,H6,I6,⟨τ,e6,l6⟩,q6⟩=>?_;subst e6;refine bg (ht _ _ _ _ _ s6 _ H6 _ I6 q6) λok s7 aj=>?_;obtain⟨H7,I7,q7⟩:=aj;have kept:∀ {s':Shared} {H':Hp} {aO:St},Inv (gQ X N' scope (s2.heap.objs.size+1) s2 H2 fp) ([(s2.heap.objs.size,iF us cnt)]++qt fp s5.heap) aO H' s'->tn (i+1) s'.heap/\∀ b∈fp,H' b=none:=λ{s' H' aO} I'=>by refine⟨T.keep _ _ _ rP λb hb o e=>(I'.pin (b,o) (Qu _ (Qu _ (yV hb e)))).1,λb hb=>?_⟩;obtain⟨o,e,d⟩:=T.obj _ _ rP b hb;exact(I'.pin (b,o) (Qu _ (Qu _ (yV hb e)))).2.1
   cases ok with
   | false=>
    rw[Ql (by decide)]at q7 ⊢;obtain⟨m',hm,w7⟩:=q7;have:=Gw I7.eT;rw[l6]at this;exact⟨m',hm,i+1,ys,us,cnt,H7,this,(kept I7).1,(kept I7).2,r3,w7⟩
   | true=>
    rw[Qi rfl]at q7 ⊢;refine bg (he _ _ _ _ _ s7 _ H7 _ I7 q7) λu8 s8 aj=>?_;obtain⟨v,H8,I8,r8,m',hm,w8⟩:=aj;obtain⟨eD,nD,Gz,Sr,dD⟩:=I8.pin (s2.heap.objs.size,iF us cnt) (Qu _ (Q2 _ (QF.mpr rfl)));refine append_at eD (λh9 GA Ss=>?_) (hsz:=by rw[Qo,<- r3.length];exact Z6 dR);have Ia:=I8.gD (pins':=qt fp s5.heap) λp hp=>I8.pin p (Qu _ (Qu _ hp));have Su:∀ p∈qt fp s5.heap,p.1≠s2.heap.objs.size:=λp hp z=>by have:=si p.1 (FE hp).1;exact absurd this (by rw[z];exact QT _)
    have Ib:=Ia.turned (h':=h9) (t':=s8.toks) (it:=s2.heap.objs.size) (λb o hb e=>GA.extBut b o hb e) nD Gz (.inr (Qj _)) (λy c h z=>by
      obtain⟨vv,o,ho,hd⟩:=I8.cell y c h;rw[z,eD]at ho;cases ho;cases hd) (λp hp=>Su p (by have mf:p ∈ []++qt fp s5.heap:=hp;simpa using mf))
    have Ic:=Ib.gD (pins':=[(s2.heap.objs.size,iF (us++[u8]) (cnt+1))]) λp hp=>by
     have e:p=(s2.heap.objs.size,iF (us++[u8]) (cnt+1)):=by simpa using hp
     subst e;refine⟨?_,nD,Gz,Sr,λv z=>nomatch z⟩;show h9.get? s2.heap.objs.size=_;rw[Ss];unfold iF;simp
    have Id:=Gw Ic;rw[l6]at Id;have kp:=kept I8;refine⟨m',hm,i+1,ys++[v],us++[u8],cnt+1,H8,Id,T.keep _ _ _ kp.1 λb hb o e=>GA.extBut b o (λz=>by have:=si b hb;have z':b=s2.heap.objs.size:=z;exact absurd this (by rw[z'];exact QT _)) e,kp.2,bc.append r3 (.cons r8 .nil),w8⟩
 have hC:(s2.heap.push { cls:=.type "list",dict:=none,data:=.seq ([]:List Value).toArray }).objs.size=s2.heap.objs.size+1:=Zt ..;have fin:=codeAny_compStart_list (loop _ rfl) (T.self X.A 0 _ _ _ vR (loop _ rfl));dsimp only at fin ⊢;rw[hC];exact fin
theorem cB.locs{k:Nat}(S:cB X k N' scope):∀ y∈scope.names,y.2=.local->scope.names.lookup y.1=some .local:=λy hy e=>by obtain⟨n,kd⟩:=y;have e':kd=.local:=e;subst e';exact Gs S.names hy
theorem Co{m:Str->Option Value}{v:Option Value}(hn:h.Ns C m)(hc:h.IsCell c v):c≠C:=λz=>by obtain⟨o,es,ep,ho,hd,_⟩:=hn;obtain⟨o',fZ,gP⟩:=hc;rw[z,ho]at fZ;cases fZ;rw[hd]at gP;cases gP
section
variable {X:Cx}{k:Nat}{N':List Str}{scope:Scope}{elt tg iter:Expr}{ifs:List Expr}{pos:Pos}{wi:TI}{g:TG}{tt:TT}{te:TE}
theorem Sv(hc:X.calm=true)(S:cB X k N' scope)(hi:PI X tg iter wi)(hg:∀ C s H fp,PG (gQ X N' scope C s H fp) tg g)(ht:∀ C s H fp,ur (gQ X N' scope C s H fp) ifs tt)(he:∀ C s H fp,PE (gQ X N' scope C s H fp) elt te)
  (hs:∀ x,foldedSetIterable iter X.env x=pure x:=by intro _;rfl):PE X (.ListComp elt [⟨tg,iter,ifs,0⟩] scope pos) (zj k wi g tt te):=by
 intro Tk s σ H Q I h;rw[eval_ListComp];refine wpAny_comprehension_free (use:=none) rfl hs (Gr λy hy e=>?_) S.kind S.locs (bg (hi Tk s σ H _ I h) λv s1 h1=>bg h1 λyT s2 h2=>?_)
 ·obtain⟨n,kd⟩:=y;have e':kd=.free:=e;subst e';exact I.ok.has n (S.free hy)
 ·obtain⟨it,fp,tn,J,H2,e,I2,T,qu,f2,R⟩:=h2;subst e;refine Gx hc S hg ht he I2 T qu f2 R ?_;intro C ys H' s' m' I' hn hD Cp zk Cq Cr fin;refine⟨m',hn,λh' sk=>⟨.ref s2.heap.objs.size,_,I'.turned (h':=h') (t':=s'.toks) (it:=C) (λb o hb e=>sk.extBut b o hb e) Cp zk (.inr Cq) (λx c h=>?_) (λp hp z=>?_),rfl,fin _ hD⟩⟩
  ·obtain⟨v,q⟩:=I'.cell x c h;exact Co hn q
  ·have:=Qq (I2.pin p hp).1;exact absurd (JJ this Cr) (by rw[z];exact QT _)
theorem Sw{py mX:Pos}(hN:X.N.Nodup)(hy:X.N[i]? = some y)(hx:Loc X.env.scope y)(Cs:swapsWith (.ListComp elt [⟨tg,iter,ifs,0⟩] scope pos) (some (.Name y py)) mX.line X.env=pure true)
  (hc:X.calm=true) (S:cB X k N' scope) (hi:PI X tg iter wi) (hg:∀ C s H fp,PG (gQ X N' scope C s H fp) tg g) (ht:∀ C s H fp,ur (gQ X N' scope C s H fp) ifs tt) (he:∀ C s H fp,PE (gQ X N' scope C s H fp) elt te)
  (hs:∀ x,foldedSetIterable iter X.env x=pure x:=by intro _;rfl) (hf:X.fn y=true\/X.env.scope.names.lookup y=some .local:=by first|exact .inl rfl|exact .inr rfl|assumption) :
  PS X (.Assign [.Name y py] (.ListComp elt [⟨tg,iter,ifs,0⟩] scope pos) mX) (BG (zj k wi g tt te) (BF i)):=by
 intro Tk s σ H D I h;rw[exec_Assign_Name_used _ _ _ _ Cs];refine Qa (wpAny_standAt (Qa ?_));show wpAny _ X.A (do let _ <- comprehension (.ListComp elt [⟨tg,iter,ifs,0⟩] scope pos) scope X.env _ (newList []) false (eval iter X.env) (some (assign (.Name y py) X.env))) _ _ s;refine Qa (ZR (wpAny_comprehension_free (use:=some (assign (.Name y py) X.env)) (Q:=λ_ s'=>SP X Tk D .next s') rfl hs (Gr λz hz e=>?_) S.kind S.locs
  (bg (hi Tk s σ H _ I h) λv s1 h1=>bg h1 λyT s2 h2=>?_)) (λ_ s' hq=>Qe (Qe hq)) λ_ _ e=>e)
 ·obtain⟨n,kd⟩:=z;have e':kd=.free:=e;subst e';exact I.ok.has n (S.free hz)
 ·obtain⟨it,fp,tn,J,H2,e,I2,T,qu,f2,R⟩:=h2;subst e;refine Gx hc S hg ht he I2 T qu f2 R ?_;intro C ys H' s' m' I' hn hD Cp zk Cq Cr fin;show wpAny _ X.A (assign (.Name y py) X.env (.ref s2.heap.objs.size)) _ _ _;refine wpAny_assign_Name (Fy I' hN hy hx (v:=.ref s2.heap.objs.size) rfl (λqz GC ⟨a,sb,ha⟩=>?_) hf);have Sx:C≠a:=λz=>by
   rcases ha with q|q
   ·exact zk (z.trans q)
   ·obtain⟨v,w⟩:=I'.cell y a q;exact Co hn w z.symm
  have zm:=hn.sameBut sb Sx;refine⟨m',zm,λh' sk=>⟨_,_,GC.turned (h':=h') (t':=qz.toks) (it:=C) (λb o hb e=>sk.extBut b o hb e) Cp zk (.inr Cq) (λx c h=>?_) (λp hp z=>?_),fin _ hD⟩⟩
  ·obtain⟨v,q⟩:=GC.cell x c h;exact Co zm q
  ·have:=Qq (I2.pin p hp).1;exact absurd (JJ this Cr) (by rw[z];exact QT _)
end
end L2
namespace L3
open PySem PySem.Spec PyProof.Rows PySem.W L2
variable {M:Model}{R:Result->Shared->Prop}{h:Heap}
section
variable {prog:Program}{w:World}{A:Around}{E:Tl}{s:Shared}{K:Frag}{x C:Addr}{ox:Obj}
structure oi (h:Heap) (x:Addr) (ox:Obj) (C:Addr):Prop where
 at_:h.get? x=some ox
 cls:ox.cls=.ref C
theorem oi.type(I:oi h x ox C):Looks M h (typeOf (.ref x)) (.ref C):=I.cls ▸ (Looks.ld I.at_).andThen .now
structure ku (K:Frag) (C:Addr):Prop where
 ci:(clsIn K C).isSome=true
 ga:findIn K (.ref C) "__getattribute__" = some (some (.builtin "BaseException.__getattribute__"))
 gt:findIn K (.ref C) "__getattr__" = some none
 cl:findIn K (.ref C) "__class__" = some (some (.builtin "object.__class__"))
 cg:specialIn K (.builtin "object.__class__") "__get__" = some (some (.builtin "getset_descriptor.__get__"))
 ct:takesIn K (.builtin "object.__class__")=some true
 mo:mroIn K C (.type "object")=some true
 mb:mroIn K C (.type "BaseException")=some true
theorem Sy(X:K.In h)(I:oi h x ox C)(XC:ku K C):Looks M h (Builtin.ObjectAttr.find (.ref x) (.ref C) "__class__") (.bind (.builtin "getset_descriptor.__get__") (.builtin "object.__class__")):=by have L1:=looks_findIn (M:=M) X XC.cl;have L2:Looks M h (Builtin.ObjectAttr.getOf (some (.builtin "object.__class__"))) _:=looks_specialIn (M:=M) X XC.cg;have L3:=looks_takesIn (M:=M) X XC.ct;exact L1.andThen (L2.andThen ((show Looks M h (Builtin.ObjectAttr.dataDescriptor? (some (.builtin "object.__class__")) (some (.builtin "getset_descriptor.__get__"))) (some ((.builtin "getset_descriptor.__get__"),(.builtin "object.__class__")))from L3.andThen .now).andThen (Looks.tag .now)))
theorem Sz{tp:Value}(X:K.In s.heap)(I:oi s.heap x ox C)(hm:mroIn K C (.type "object")=some true)
  (h:R (.ok (.ret (.ref C))) s):codeAny (model prog w) A (.call (.builtin "getset_descriptor.__get__") ⟨[.builtin "object.__class__",.ref x,tp],[]⟩) R s:=by
 obtain⟨hh,g,dr,t,os⟩:=s;have L0:=I.type (M:=model prog w);have L1:=looks_mroIn (M:=model prog w) X hm;refine Jx KF.slot_gs.plain KF.entry_gs (KF.slot_gs.check _ _ _ _ _ _ _ _ KF.type_class (KF.args_gs _ _ _) ?_);unfold Builtin.«getset_descriptor.__get__» Builtin.Getset_descriptor.descrGet;rw[dga_obj];refine Qa (Qe ?_);unfold Builtin.Getset_descriptor.descrGetter Builtin.Getset_descriptor.descrCheckInstance Builtin.Getset_descriptor.descrNameAndClass isInstance;simp only[KF.owner_class]
 repeat lk
 refine⟨Vd _ (by decide +kernel),Jf KF.entry_class ?_⟩;unfold Builtin.«object.__class__» shownTypeOf
 repeat lk
 exact h
theorem SA{qG:Value}{Q:Unit->Shared->Prop}(X:K.In s.heap)(I:oi s.heap x ox C)(XC:ku K C)(hq:Q () s):wpAny M A (checkBuiltinCall "BaseException.__getattribute__" ⟨[.ref x,qG],[]⟩) Q E s:=by
 obtain⟨hh,g,d,t,os⟩:=s;have L0:=I.type (M:=M);have L1:=looks_mroIn (M:=M) X XC.mb;have hk:builtinKind "BaseException.__getattribute__" = some .slot:=by decide +kernel
 have sr:splitId "BaseException.__getattribute__" = some ("BaseException","__getattribute__"):=by decide +kernel
 have ha:=PySem.F.args_bexc_ga (.ref x) qG;simp only[checkBuiltinCall,hk,sr];unfold isInstance
 repeat lk
 exact hq
theorem SD{tk:Tok}(X:K.In s.heap)(I:oi s.heap x ox C)(XC:ku K C)(h:R (.ok (.ret (.ref C))) s) :
  codeAny (model prog w) A (.call (.builtin "BaseException.__getattribute__") ⟨[.ref x,.str "__class__" tk],[]⟩) R s:=by refine Jx Ve.ga.plain PySem.F.entry_bexc_ga (SA X I XC ?_);obtain⟨hh,g,d,t,os⟩:=s;have L0:=I.type (M:=model prog w);have L1:=Sy (M:=model prog w) X I XC;show wpAny _ _ (Builtin.«object.__getattribute__» ⟨[.ref x,.str "__class__" tk],[]⟩) _ _ _;refine Qa (Qe ?_);refine Qa (Qe ?_);refine Qa (L0.at (Qa (L1.at ?_)));show wpAny _ _ (holding [.builtin "object.__class__"] (call (.builtin "getset_descriptor.__get__") [.builtin "object.__class__",.ref x,.ref C]) >>= ret) _ _ _;exact Qa (Zc (wpAny_call (Sz X I XC.mo (Qe h))))
theorem SE{Q:Option Value->Shared->Prop}(X:K.In s.heap)(I:oi s.heap x ox C)(XC:ku K C)(h:Q (some (.ref C)) { s with toks:=s.toks+1 }):wpAny (model prog w) A (getAttr? (.ref x) "__class__") Q E s:=by obtain⟨hh,g,d,t,os⟩:=s;have L0:=I.type (M:=model prog w);have L1:=looks_findIn (M:=model prog w) X XC.ga;have L2:=looks_findIn (M:=model prog w) X XC.gt;have f3:=Ve.ga.bind (.ref x);unfold getAttr? getAttrBy? getAttrBy;refine Qa (wpAny_mkText (Qa (JA (Zc (Qa (L0.at (Qa (L1.at ?_))))))));show wpAny _ _ (getAttrByItsOwn _ _ _ _ _ _) _ _ _;unfold getAttrByItsOwn;refine Qa (L2.at ?_);refine Qa (JA (Zc ?_));show wpAny _ _ (boundAndCalled _ _ _) _ _ _;unfold boundAndCalled;rw[f3];refine Qa (Qe ?_);show wpAny _ _ (call (.builtin "BaseException.__getattribute__") [.ref x,.str "__class__" t]) _ _ _;refine wpAny_call (SD (s:=⟨hh,g,d,t+1,os⟩) X I XC ?_);exact handed_on rfl (Qe h)
theorem SF{D:Addr}(X:K.In h)(e:(clsIn K D).isSome=true):Looks M h (isType (.ref D)) true:=by
 unfold clsIn at e;split at e;next c' d' cd' Fw ho=>
  intro A' Q' E' s' k q;unfold isType loadHead;exact Qa (wpAny_loadPart (k _ _ (X _ _ ho)) (Qe q))
 ·cases e
theorem SG{c:Value}{j0:Int}{tk:Tok}{Q:Fin->Shared->Prop}(X:K.In s.heap)(I:oi s.heap x ox C)(XC:ku K C)(v5:Looks (model prog w) s.heap (typeOf c) (.type "type"))(lK:Looks (model prog w) s.heap (isType c) true)
  (il:(Value.ref C==c)=false) (eV:Looks (model prog w) s.heap (isSubtype (.ref C) c) false) (h:Q (.done (.ret (.bool false))) { s with toks:=s.toks+1 }) :
  wpAny (model prog w) A (Builtin.«isinstance.nested» ⟨[.ref x,c,.int j0 tk],[]⟩) Q E s:=by
 have Ct:=SF (M:=model prog w) X XC.ci;obtain⟨h0,g,d,tt,os⟩:=s;have L0:=I.type (M:=model prog w);have LI:Looks (model prog w) h0 (isInstance (.ref x) c) false:=L0.andThen eV;unfold Builtin.«isinstance.nested»;refine Qa (L0.at ?_);rw[Ql (λq=>by rw[il]at q;exact Bool.noConfusion q)];refine Qa (v5.at ?_);rw[Qi (by decide)]
 k_delta "plainIsInstance"
 refine Qa (Qa (lK.at ?_));simp only[Zz,Qt,Zf];refine Qa (LI.at ?_);simp only[Qt,Zf];refine Qa (SE X I XC ?_);refine Qa (Ct.at ?_);simp only[Zz,Qt,Zf];refine Qa (Yg ?_);refine eV.at ?_
 first
  | exact Qe h
  | exact Qe (Qe h)
  | exact Qa (Qe (Qe h))
theorem SH{T:String}{Q:Tl}(X:K.In s.heap)(I:oi s.heap x ox C)(XC:ku K C)(v5:typeOf (.type T)=pure (.type "type"))(e:subIn K (.ref C) (.type T)=some false)(h:Q (.bool false) { s with toks:=s.toks+1 }):wpAny (model prog w) A (call (.builtin "isinstance") [.ref x,.type T]) Q E s:=
 call_isinstance (S:=λ_ R s=>(K.In s.heap/\oi s.heap x ox C)/\R (.ok (.ret (.bool false))) { s with toks:=s.toks+1 })
  (λ_ _ _ _ _ hs=>isinstance_outer (SG hs.1.1 hs.1.2 XC (Looks.of_pure v5) (Looks.of_pure rfl) (Bool.eq_false_iff.mpr λq=>by cases J5.mp q) (looks_subIn hs.1.1 e) hs.2) (by intro q;cases q)) ⟨⟨X,I⟩,h⟩
end
def SI:List Value:=[.type "ValueError",.type "Exception",.type "BaseException",.type "object"]
structure Cu (K:Frag) (nm:Str) (C:Addr):Prop where
 ns:nsIn K mainGlobals nm=some (some (.ref C))
 xc:ku K C
 ex:excIn K C SI "ValueError.__new__" = true
 ve:subIn K (.ref C) (.type "ValueError")=some true
 no:∀ T ∈ ["int","bool","tuple","list","str"],subIn K (.ref C) (.type T)=some false
def XO (K:Frag)(nm:Str)(ob:Obj):Prop:=∃ C,ob.cls=.ref C/\Cu K nm C
end L3
namespace L3
open PySem PySem.Spec PyProof.Rows L2
variable {A:Around}{E:XK}{F:List Addr}{H H' H1 H2:Hp}{K:PySem.W.Frag}{N ps:List Str}{X:Cx}{a p:Addr}{b c:Int}{deep:Bool}{e tg:Expr}{es:List Expr}{fd:FuncData}{h:Int->Int->V}{i n t':Nat}{op:CmpOp}{r:R2}{te:TE}{u:Tok}{v:V}{vs xs:List V}{x:HO}{y:Option HO}
theorem zq:Slot "function" "__getattribute__" "object.__getattribute__" :=
 .of (owner:="object") (n:="__getattribute__") (by rw[YT,JX];kernel_rfl) (by decide +kernel) (by decide +kernel) (by decide +kernel)
  (by first|exact .inl (by decide +kernel)|exact .inr (by decide +kernel)) (by rw[JF];kernel_rfl)
theorem SJ:typeLookup (.type "function") "__class__" = pure (some (.builtin "object.__class__")):=by rw[YT,JX];kernel_rfl
theorem SK:isSubtype (.type "function") (.type (".".intercalate ("object.__class__".cutAt '.').dropLast))=pure true:=by rw[PySem.F.owner_object_class,JF];kernel_rfl
theorem SM:entryFor table "object.__getattribute__" = some Builtin.«object.__getattribute__»:=entryFor_of_tree (by kernel_rfl)
theorem SN(a b:Value):argsOk "object.__getattribute__" ⟨[a,b],[]⟩:=by unfold argsOk;kernel_rfl
section
variable {prog:Program}{w:World}{A:Around}{E:Tl}{s:Shared}{a:Addr}
theorem SO{R:Result->Shared->Prop}(hT:s.TypeIs (.ref a) "function")(hq:R (.ok (.ret (.type "function"))) s) :
  codeAny (model prog w) A (.call (.builtin "getset_descriptor.__get__") ⟨[.builtin "object.__class__",.ref a,.type "function"],[]⟩) R s:=by
 obtain⟨h,g,d,t,os⟩:=s;have h5:(⟨h,g,d,t,os⟩:Shared).TypeIs (.builtin "object.__class__") "getset_descriptor":=JZ;have f8:=SK;refine Jx YY.plain PySem.F.entry_gs_get (YY.check _ _ _ _ _ _ _ _ h5 (PySem.F.args_gs_get _ _ _) ?_)
 repeat (any_goals (first|assumption|wp_step))
 refine⟨Vd _ (by decide +kernel),Jf PySem.F.entry_object_class ?_⟩
 repeat (any_goals (first|assumption|wp_step))
theorem SQ{Q:Option Value->Shared->Prop}(hT:s.TypeIs (.ref a) "function")(hq:Q (some (.type "function")) { s with toks:=s.toks+1 }):wpAny (model prog w) A (getAttr? (.ref a) "__class__") Q E s:=by
 obtain⟨h,g,d,t,os⟩:=s;have GD:∀ t',(⟨h,g,d,t',os⟩:Shared).TypeIs (.ref a) "function":=λ_=>hT;have en:∀ {tk:Tok} {t':Nat} {Q:Fin->Shared->Prop} {E:Tl} {A:Around},Q (.done (.ret (.type "function"))) ⟨h,g,d,t',os⟩->
   wpAny (model prog w) A (Builtin.«object.__getattribute__» ⟨[.ref a,.str "__class__" tk],[]⟩) Q E ⟨h,g,d,t',os⟩:=by
  intro tk t' Q E A hq;have hT:=GD t';have h5:(⟨h,g,d,t',os⟩:Shared).TypeIs (.builtin "object.__class__") "getset_descriptor":=JZ;have f4:=SJ;have f5:=JZ;have f6:=YY.lookup;have f7:=PySem.F.slot_gs_set.lookup
  repeat (any_goals (first|assumption|wp_step))
  refine SO hT ?_
  repeat (any_goals (first|assumption|wp_step))
 have SR:∀ {tk:Tok} {t':Nat} {Q:Tl} {E:Tl} {A:Around},Q (.type "function") ⟨h,g,d,t',os⟩->wpAny (model prog w) A (getAttrBy (.ref a) (.str "__class__" tk) false) Q E ⟨h,g,d,t',os⟩:=by
  intro tk t' Q E A hq;have hT:=GD t';have f2:=zq.lookup;have f3:=zq.bind (.ref a)
  repeat (any_goals (first|assumption|wp_step))
  refine Jx zq.plain SM (zq.check _ _ _ _ _ _ _ _ hT (SN _ _) (en ?_))
  repeat (any_goals (first|assumption|wp_step))
 unfold getAttr? getAttrBy?
 repeat (any_goals (first|assumption|with_reducible apply SR | wp_step))
theorem SS:PySem.W.KitX K (.ref a) (.type "function") (PySem.W.KitAt a "function"):=W.kitx_of W.kitAt_ty (λ{_ _ _ _ _ s} p k=>SQ (by obtain⟨o,h1,h2⟩:=p;exact⟨o,h1,h2⟩) k)
end
theorem nM{α:Type}{P:α->Prop}(a:α)(z:a∈([]:List α)):P a:=nomatch z
inductive MK where
 | t (ks:List (List Key))
 | k (ks:List Key)
 | i (nm:Str) (fs:List Str) (p:Option Addr)
def MK.len:MK->Nat
 | .t ks=>ks.length
 | .k ks=>ks.length
 | .i _ fs _=>fs.length
inductive D where
 | bK|bl (b:Bool)|int (i:Int)|str (x:Str)|tup (ds:List D)|lst (ds:List D)
 | gS (ks:List Str) (ds:List D)
 | exc (nm:Str)
 | ob (f:Addr) (fo:Obj) (vs:List V) (ds:List D)
 | mp (k:MK) (ds:List D)
abbrev St:=L2.St
inductive Ow where
 | s (i:Nat)|t (i:Nat)|f
 deriving DecidableEq
abbrev Wn:=Addr->Option Ow
def KL (K:PySem.W.Frag)(a:Addr)(xs:List V):Prop:=
 ∃ (o:Obj) (aq:Array Value) (n:Nat),K.lookup a=some o/\o.cls=.type "list" /\ o.dict=none/\o.data=.seq aq n/\aq.size<=sizeLine/\bc xs aq.toList
theorem cW.cases(h:cW K H a xs):Rd H a (.lst xs)\/KL K a xs:=h
theorem KL.sq(h:KL K a xs):cW K H a xs:=.inr h
def mY (ks:List Str)(vs:List V):List (Key×V):=(ks.map λx=>(Sum.inr x:Key)).zip vs
def SU (fo:Obj)(c:Addr)(oc:Obj):Prop:=fo.cls=.type "function" /\ (∃ fd,fo.data=.func fd/\fd.code=.ref c)/\∃ fs q t,oc.data=.fields fs/\fs[1]? = some (.str q t)
structure Cv (K:PySem.W.Frag) (C:Addr):Prop where
 cl:L2.yW K C
 ha:W.findIn K (.ref C) "__class__" = some (some (.builtin "object.__class__"))
 hn:W.specialIn K (.builtin "object.__class__") "__get__" = some (some (.builtin "getset_descriptor.__get__"))
 vT:W.takesIn K (.builtin "object.__class__")=some true
 hm:W.mroIn K C (.type "object")=some true
 no:∀ t∈(["bool","int","tuple","list","str"]:List String),W.kitOne K (.ref C) (.type t)=some false
def MK.Is (K:PySem.W.Frag)(a:Addr):MK->List V->HO->Prop
 | .t ks,vs,x=>x=.dT (ks.zip vs)
 | .k ks,vs,x=>x=.dK (ks.zip vs)
 | .i nm fs p,vs,x=>∃ C dx,W.nsIn K mainGlobals nm=some (some (.ref C))/\x=.ins C dx (fs.zip vs)/\Cv K C/\(∀ f∈fs,L2.Px K C f)/\∀ d,p=some d->a=d
mutual
inductive Rep (K:PySem.W.Frag) (H:Hp) (w:Wn) (o:Ow):Nat->D->V->List Addr->Prop
 | bK {q}:Rep K H w o q .bK .bK []
 | bl {q} (b:Bool):Rep K H w o q (.bl b) (.bl b) []
 | int {q} (i:Int):Rep K H w o q (.int i) (.int i) []
 | str {q} (x:Str):Rep K H w o q (.str x) (.str x) []
 | tup {q} {a:Addr} {vs:List V} {ds:List D}:H a=some (.tup vs)->af K H w o 0 ds vs []->Rep K H w o q (.tup ds) (.ref a) []
 | gS {q} {a:Addr} {ks:List Str} {vs:List V} {ds:List D}:H a=some (.dK (mY ks vs))->w a=none->af K H w o 0 ds vs []->Rep K H w o q (.gS ks ds) (.ref a) []
 | exc {q} {a:Addr} {nm:Str} {ob:Obj} {u:HO}:H a=some (.ij ob u)->XO K nm ob->(∀ xs,u ≠ .lst xs)->Rep K H w o q (.exc nm) (.ref a) []
 | ob {q} {f c:Addr} {fo oc:Obj} {u u':HO} {vs:List V} {ds:List D}:H f=some (.ij fo u)->H c=some (.ij oc u')->SU fo c oc->af K H w o 0 ds vs []->Rep K H w o q (.ob f fo vs ds) (.ref f) []
 | kl {a:Addr} {vs:List V} {ds:List D}:KL K a vs->af K H w o 0 ds vs []->Rep K H w o 0 (.lst ds) (.ref a) []
 | shr {a:Addr} {vs:List V} {ds:List D}:Rd H a (.lst vs)->w a=none->af K H w o 0 ds vs []->Rep K H w o 0 (.lst ds) (.ref a) []
 | own {q} {a:Addr} {vs:List V} {ds:List D} {F:List Addr}:H a=some (.lst vs)->w a=some o->af K H w o q ds vs F->a ∉ F->Rep K H w o (q+1) (.lst ds) (.ref a) (a::F)
 | qH {a:Addr} {vs:List V} {ds:List D} {k:MK} {x:HO}:H a=some x->k.Is K a vs x->w a=none->k.len=ds.length->af K H w o 0 ds vs []->Rep K H w o 0 (.mp k ds) (.ref a) []
 | px {q} {a:Addr} {vs:List V} {ds:List D} {k:MK} {x:HO}:H a=some x->k.Is K a vs x->w a=some o->k.len=ds.length->af K H w o 0 ds vs []->Rep K H w o (q+1) (.mp k ds) (.ref a) [a]
inductive af (K:PySem.W.Frag) (H:Hp) (w:Wn) (o:Ow):Nat->List D->List V->List Addr->Prop
 | nil {q}:af K H w o q [] [] []
 | cons {q} {d:D} {v:V} {ds:List D} {vs:List V} {F G:List Addr}:Rep K H w o q d v F->af K H w o q ds vs G->(∀ a∈F,a ∉ G)->af K H w o q (d::ds) (v::vs) (F++G)
end
def Cw:HO->Bool
 | .lst _=>true
 | .dK _=>true
 | .dT _=>true
 | .ins _ _ _=>true
 | _=>false
inductive OX where
 | l (vs:List V)|t (au:List (List Key×V))|k (au:List (Key×V))|i (C dx:Addr) (fs:List (Str×V))
def OX.ho:OX->HO
 | .l vs=>.lst vs
 | .t au=>.dT au
 | .k au=>.dK au
 | .i C dx fs=>.ins C dx fs
theorem OX.is(v:OX):Cw v.ho=true:=by cases v<;>rfl
theorem MK.ox{k:MK}(h:k.Is K a vs x):∃ v:OX,x=v.ho:=by
 cases k with
 | t ks=>exact⟨.t _,h⟩
 | k ks=>exact⟨.k _,h⟩
 | i nm fs p=>obtain⟨C,dx,_,h,_⟩:=h;exact⟨.i _ _ _,h⟩
def qI:HO->Bool
 | .iP _=>true
 | _=>false
def Sm (x:HO)(y:Option HO):Prop:=match x with
 | .iP _=>∃ ps,y=some (.iP ps)
 | x=>y=some x
theorem sm(h:y=some x):Sm x y:=by cases x<;>first|exact h|exact⟨_,h⟩
theorem Sm.is(h:Sm x y):∃ z,y=some z/\qI z=qI x:=by cases x<;>first|exact⟨_,h,rfl⟩|(obtain⟨ps,e⟩:=h;exact⟨_,e,rfl⟩)
theorem Sm.eq(h:Sm x y)(n:qI x=false):y=some x:=by cases x<;>first|exact h|cases n
def uv:List Str:=["turned","chain_ladder","flat_ladder","paired","height_of","_law_high"]
structure TB (K:PySem.W.Frag) (H:Hp):Prop where
 tr:∀ P ps,H P=some (.iP ps)->PySem.TriplesOk ps.toList
 cd:∀ P ps,H P=some (.iP ps)->∀ pos cv,PySem.codeAmong pos ps.toList=some cv->∃ c oc u vs q t,cv=.ref c/\H c=some (.ij oc u)/\oc.data=.fields vs/\vs[1]? = some (.str q t)/\∀ xs,u ≠ .lst xs
 is:∀ x∈uv,∀ c P,W.tabIn K x=some (c,P)->∃ ps,H P=some (.iP ps)
structure WL (K:PySem.W.Frag) (w:Wn) (H:Hp):Prop where
 own:∀ a o,w a=some o->∃ vs:OX,H a=some vs.ho
 tb:TB K H
instance {K:PySem.W.Frag} {w:Wn} {H:Hp}:CoeFun (WL K w H) (λ_=>∀ a o,w a=some o->∃ vs:OX,H a=some vs.ho):=⟨WL.own⟩
theorem TB.upd(t:TB K H)(hx:qI x=false)(hp:H p=none\/∃ vs:OX,H p=some vs.ho):TB K (L2.upd H p x):=by
 have ne:∀ a y,H a=some y->Cw y=false->a≠p:=λa y e h z=>by
  subst z;rcases hp with q|⟨vs,q⟩
  ·rw[e]at q;cases q
  ·rw[e]at q;rw[QL q,vs.is]at h;cases h
 refine⟨λP ps e=>?_,λP ps e pos cv hc=>?_,λx hx c P hP=>by obtain⟨ps,e⟩:=t.is x hx c P hP;exact⟨ps,by rw[a_ (ne P _ e rfl)];exact e⟩⟩
 ·by_cases hP:P=p
  ·subst hP;rw[fD]at e;cases e;cases hx
  ·rw[a_ hP]at e;exact t.tr P ps e
 ·by_cases hP:P=p
  ·subst hP;rw[fD]at e;cases e;cases hx
  ·rw[a_ hP]at e;obtain⟨c,oc,u,vs,q,tt,h1,h2,h3,h4,h5⟩:=t.cd P ps e pos cv hc;exact⟨c,oc,u,vs,q,tt,h1,by rw[a_ (ne c _ h2 rfl)];exact h2,h3,h4,h5⟩
def dY (H:Hp)(w:Wn)(H':Hp)(w':Wn):Prop:=∀ a x,H a=some x->w a=none->Sm x (H' a)/\w' a=none
theorem dY.trans{w w1 w2:Wn}(a:dY H w H1 w1)(b:dY H1 w1 H2 w2):dY H w H2 w2:=λc x h n=>by
 obtain⟨s1,n1⟩:=a c x h n;cases ht:qI x with
 | false=>exact b c x (s1.eq ht) n1
 | true=>
  obtain⟨y,e,hy⟩:=s1.is;obtain⟨s2,n2⟩:=b c y e n1;refine⟨?_,n2⟩;rw[ht]at hy;cases x with
  | iP ps=>
   cases y with
   | iP ps'=>exact s2
   | _=>cases hy
  | _=>cases ht
theorem WL.uw{w:Wn}(wl:WL K w H)(e:H a=some x)(h:Cw x=false):w a=none:=by
 cases q:w a with
 | none=>rfl
 | some o=>
  obtain⟨vs,e'⟩:=wl a o q;rw[e]at e';rw[QL e',vs.is]at h;cases h
theorem cG.go{w w':Wn}(wl:WL K w H)(st:dY H w H' w')(h:cG K H a vs):cG K H' a vs:=by
 rcases h with(h|⟨o,h⟩)|h
 ·exact .inl (.inl (st a _ h (wl.uw h rfl)).1)
 ·exact .inl (.inr ⟨o,(st a _ h (wl.uw h rfl)).1⟩)
 ·exact .inr h
theorem zr.go{w w':Wn}(st:dY H w H' w')(n:w a=none)(h:Rd H a (.lst vs)):Rd H' a (.lst vs)/\w' a=none:=by
 rcases h with h|⟨o,h⟩
 ·exact⟨.inl (st a _ h n).1,(st a _ h n).2⟩
 ·exact⟨.inr ⟨o,(st a _ h n).1⟩,(st a _ h n).2⟩
theorem Rep.go{w w':Wn}{o o':Ow}(wl:WL K w H)(st:dY H w H' w'):∀ {q:Nat} {d:D} {v:V} {F:List Addr},Rep K H w o q d v F->(∀ a∈F,H' a=H a/\w' a=some o')->Rep K H' w' o' q d v F:=by
 intro q d v F r;refine Rep.rec (motive_1:=λq d v F _=>(∀ a∈F,H' a=H a/\w' a=some o')->Rep K H' w' o' q d v F) (motive_2:=λq ds vs F _=>(∀ a∈F,H' a=H a/\w' a=some o')->af K H' w' o' q ds vs F) ?_ ?_ ?_ ?_ ?_ ?_ ?_ ?_ ?_ ?_ ?_ ?_ ?_ ?_ ?_ r
 ·intro q _;exact .bK
 ·intro q b _;exact .bl b
 ·intro q i _;exact .int i
 ·intro q x _;exact .str x
 ·intro q a vs ds h r ih _;exact .tup (st _ _ h (wl.uw h rfl)).1 (ih nM)
 ·intro q a ks vs ds h n r ih _;exact .gS (st _ _ h n).1 (st _ _ h n).2 (ih nM)
 ·intro q a nm ob u h x n _;exact .exc (st _ _ h (wl.uw h rfl)).1 x n
 ·intro q f c fo oc u u' vs ds h1 h2 x r ih _;exact .ob (st _ _ h1 (wl.uw h1 rfl)).1 (st _ _ h2 (wl.uw h2 rfl)).1 x (ih nM)
 ·intro a vs ds h r ih _;exact .kl h (ih nM)
 ·intro a vs ds h n r ih _;exact .shr (zr.go st n h).1 (zr.go st n h).2 (ih nM)
 ·intro q a vs ds F h e r ne ih k;exact .own ((k _ Qh).1.trans h) (k _ Qh).2 (ih λa m=>k a (Qf _ m)) ne
 ·intro a vs ds k x h i n l r ih _;have nt:qI x=false:=by obtain⟨v,rfl⟩:=MK.ox i;cases v<;>rfl
  exact .qH ((st _ _ h n).1.eq nt) i (st _ _ h n).2 l (ih nM)
 ·intro q a vs ds k x h i e l r ih kk;exact .px ((kk _ Qh).1.trans h) i (kk _ Qh).2 l (ih nM)
 ·intro q _;exact .nil
 ·intro q d v ds vs F G r s ne pz pA k;exact .cons (pz λa m=>k a (Q2 _ m)) (pA λa m=>k a (Qu _ m)) ne
theorem af.go{w w':Wn}{o o':Ow}(wl:WL K w H)(st:dY H w H' w'):∀ {q:Nat} {ds:List D} {vs:List V} {F:List Addr},af K H w o q ds vs F->(∀ a∈F,H' a=H a/\w' a=some o')->af K H' w' o' q ds vs F
 | _,_,_,_,.nil,_=>.nil
 | _,_,_,_,.cons r s ne,k=>.cons (Rep.go wl st r λa m=>k a (Q2 _ m)) (af.go wl st s λa m=>k a (Qu _ m)) ne
theorem Rep.freeze{w w':Wn}{o o':Ow}(n:∀ a,w a=none->w' a=none):∀ {q:Nat} {d:D} {v:V} {F:List Addr},Rep K H w o q d v F->(∀ a∈F,w' a=none)->Rep K H w' o' 0 d v []:=by
 intro q d v F r;refine Rep.rec (motive_1:=λq d v F _=>(∀ a∈F,w' a=none)->Rep K H w' o' 0 d v []) (motive_2:=λq ds vs F _=>(∀ a∈F,w' a=none)->af K H w' o' 0 ds vs []) ?_ ?_ ?_ ?_ ?_ ?_ ?_ ?_ ?_ ?_ ?_ ?_ ?_ ?_ ?_ r
 ·intro q _;exact .bK
 ·intro q b _;exact .bl b
 ·intro q i _;exact .int i
 ·intro q x _;exact .str x
 ·intro q a vs ds h r ih _;exact .tup h (ih nM)
 ·intro q a ks vs ds h e r ih _;exact .gS h (n _ e) (ih nM)
 ·intro q a nm ob u h x n _;exact .exc h x n
 ·intro q f c fo oc u u' vs ds h1 h2 x r ih _;exact .ob h1 h2 x (ih nM)
 ·intro a vs ds h r ih _;exact .kl h (ih nM)
 ·intro a vs ds h e r ih _;exact .shr h (n _ e) (ih nM)
 ·intro q a vs ds F h e r ne ih k;exact .shr (Rd.of h) (k _ Qh) (ih λa m=>k a (Qf _ m))
 ·intro a vs ds k x h i e l r ih _;exact .qH h i (n _ e) l (ih nM)
 ·intro q a vs ds k x h i e l r ih kk;exact .qH h i (kk _ Qh) l (ih nM)
 ·intro q _;exact .nil
 ·intro q d v ds vs F G r s ne pz pA k;exact .cons (F:=[]) (G:=[]) (pz λa m=>k a (Q2 _ m)) (pA λa m=>k a (Qu _ m)) nM
theorem af.freeze{w w':Wn}{o o':Ow}(n:∀ a,w a=none->w' a=none):∀ {q:Nat} {ds:List D} {vs:List V} {F:List Addr},af K H w o q ds vs F->(∀ a∈F,w' a=none)->af K H w' o' 0 ds vs []
 | _,_,_,_,.nil,_=>.nil
 | _,_,_,_,.cons r s ne,k=>.cons (F:=[]) (G:=[]) (Rep.freeze n r λa m=>k a (Q2 _ m)) (af.freeze n s λa m=>k a (Qu _ m)) nM
theorem Rep.aM{w:Wn}{o:Ow}:∀ {q:Nat} {d:D} {v:V} {F:List Addr},Rep K H w o q d v F->∀ a∈F,w a=some o:=by
 intro q d v F r;refine Rep.rec (motive_1:=λq d v F _=>∀ a∈F,w a=some o) (motive_2:=λq ds vs F _=>∀ a∈F,w a=some o) ?_ ?_ ?_ ?_ ?_ ?_ ?_ ?_ ?_ ?_ ?_ ?_ ?_ ?_ ?_ r
 ·intro q a m;exact(Qw m).elim
 ·intro q b a m;exact(Qw m).elim
 ·intro q i a m;exact(Qw m).elim
 ·intro q x a m;exact(Qw m).elim
 ·intro q a vs ds h r ih b m;exact(Qw m).elim
 ·intro q a ks vs ds h e r ih b m;exact(Qw m).elim
 ·intro q a nm ob u h x n b m;exact(Qw m).elim
 ·intro q f c fo oc u u' vs ds h1 h2 x r ih b m;exact(Qw m).elim
 ·intro a vs ds h r ih b m;exact(Qw m).elim
 ·intro a vs ds h e r ih b m;exact(Qw m).elim
 ·intro q a vs ds F h e r ne ih b m;rcases Qs.mp m with z|z
  ·rw[z];exact e
  ·exact ih b z
 ·intro a vs ds k x h i e l r ih b m;exact(Qw m).elim
 ·intro q a vs ds k x h i e l r ih b m;rw[QF.mp m];exact e
 ·intro q a m;exact(Qw m).elim
 ·intro q d v ds vs F G r s ne pz pA a m;rcases QO.mp m with z|z
  ·exact pz a z
  ·exact pA a z
theorem af.aM{w:Wn}{o:Ow}:∀ {q:Nat} {ds:List D} {vs:List V} {F:List Addr},af K H w o q ds vs F->∀ a∈F,w a=some o
 | _,_,_,_,.nil,a,m=>(Qw m).elim
 | _,_,_,_,.cons r s ne,a,m=>(QO.mp m).elim (r.aM a) (s.aM a)
def D.cR:D->Bool
 | .lst _=>true
 | .mp _ _=>true
 | _=>false
@[simp] theorem D.zt:D.cR .bK=false:=rfl
@[simp] theorem D.Cy(b:Bool):D.cR (.bl b)=false:=rfl
@[simp] theorem D.pB(i:Int):D.cR (.int i)=false:=rfl
@[simp] theorem D.zw(x:Str):D.cR (.str x)=false:=rfl
@[simp] theorem D.zx(ds:List D):D.cR (.tup ds)=false:=rfl
@[simp] theorem D.zy(ks:List Str)(ds:List D):D.cR (.gS ks ds)=false:=rfl
@[simp] theorem D.zz(nm:Str):D.cR (.exc nm)=false:=rfl
@[simp] theorem D.Cz(f:Addr)(fo:Obj)(vs:List V)(ds:List D):D.cR (.ob f fo vs ds)=false:=rfl
@[simp] theorem D.CA(k:MK)(ds:List D):D.cR (.mp k ds)=true:=rfl
@[simp] theorem D.zA(ds:List D):D.cR (.lst ds)=true:=rfl
theorem Rep.dC{w:Wn}{o:Ow}{q:Nat}{d:D}(r:Rep K H w o q d v F)(h:d.cR=false):F=[]/\∀ q',Rep K H w o q' d v []:=by
 cases r with
 | bK=>exact⟨rfl,λ_=>.bK⟩
 | bl b=>exact⟨rfl,λ_=>.bl b⟩
 | int i=>exact⟨rfl,λ_=>.int i⟩
 | str x=>exact⟨rfl,λ_=>.str x⟩
 | tup h' r'=>exact⟨rfl,λ_=>.tup h' r'⟩
 | gS h' e' r'=>exact⟨rfl,λ_=>.gS h' e' r'⟩
 | exc h' x n=>exact⟨rfl,λ_=>.exc h' x n⟩
 | ob h1 h2 x r=>exact⟨rfl,λ_=>.ob h1 h2 x r⟩
 | kl=>cases h
 | shr=>cases h
 | own=>cases h
 | qH=>cases h
 | px=>cases h
theorem Rep.zero{w:Wn}{o:Ow}{d:D}(r:Rep K H w o 0 d v F):F=[]:=by cases r<;>rfl
theorem af.zero{w:Wn}{o:Ow}:∀ {ds:List D} {vs:List V} {F:List Addr},af K H w o 0 ds vs F->F=[]
 | _,_,_,.nil=>rfl
 | _,_,_,.cons r s _=>by rw[r.zero,s.zero];rfl
theorem af.length{w:Wn}{o:Ow}{q:Nat}:∀ {ds:List D} {vs:List V} {F:List Addr},af K H w o q ds vs F->ds.length=vs.length
 | _,_,_,.nil=>rfl
 | _,_,_,.cons _ s _=>by simp[s.length]
theorem Rep.any{w:Wn}{o o':Ow}{q:Nat}{d:D}(r:Rep K H w o q d v [])(wl:WL K w H):Rep K H w o' q d v []:=
 Rep.go wl (λa x h n=>⟨sm h,n⟩) r nM
theorem af.any{w:Wn}{o o':Ow}{q:Nat}{d:List D}{v:List V}(r:af K H w o q d v [])(wl:WL K w H):af K H w o' q d v []:=
 af.go wl (λa x h n=>⟨sm h,n⟩) r nM
theorem af.get{w:Wn}{o:Ow}:∀ {ds:List D} {vs:List V} {i:Nat} {d:D},af K H w o 0 ds vs []->ds[i]? = some d->∃ v,vs[i]? = some v/\Rep K H w o 0 d v []
 | ds,vs,i,d,r,e=>by
  generalize hF:([]:List Addr)=F at r;cases r with
  | nil=>simp at e
  | @cons _ d' v' eG ip F' G' r s _=>
   have h1:F'=[]:=r.zero;have h2:G'=[]:=s.zero;subst h1 h2;cases i with
   | zero=>simp at e;subst e;exact⟨v',rfl,r⟩
   | succ j=>
    obtain⟨v,h1,h2⟩:=af.get (i:=j) (d:=d) s (by simpa using e);exact⟨v,by simpa using h1,h2⟩
theorem af.snoc{w:Wn}{o:Ow}{q:Nat}{d:D}{G:List Addr}(r':Rep K H w o q d v G):∀ {ds:List D} {vs:List V} {F:List Addr},af K H w o q ds vs F->(∀ a∈F,a ∉ G)->af K H w o q (ds++[d]) (vs++[v]) (F++G)
 | _,_,_,.nil,_=>by have:af K H w o q [d] [v] (G++[]):=.cons r' .nil (λa _ z=>nomatch z);simpa using this
 | _,_,_,.cons (F:=F) (G:=F') r s ne,k=>by
  rw[Jb];refine .cons r (af.snoc r' s λa m=>k a (Qu _ m)) λa m z=>?_;rcases QO.mp z with z|z
  ·exact ne a m z
  ·exact k a (Q2 _ m) z
abbrev OD:=Option (D×Nat)
abbrev aW:=List (OD)
structure Good (K:PySem.W.Frag) (ρ:aW) (σ:St) (H:Hp) (w:Wn) (t:Nat):Prop where
 wl:WL K w H
 ws:∀ a i,w a=some (.s i)->i<σ.length
 wt:∀ a i,w a=some (.t i)->i<t
 len:ρ.length=σ.length
 slot:∀ (i:Nat) d q,ρ[i]? = some (some (d,q))->∃ v F,σ[i]? = some (some v)/\Rep K H w (.s i) q d v F
structure Go (H:Hp) (w:Wn) (H':Hp) (w':Wn):Prop where
 cI:dY H w H' w'
 keep:∀ a o,w a=some o->(∀ i,o ≠ .s i)->H' a=H a/\w' a=some o
theorem Go.refl{w:Wn}:Go H w H w:=⟨λa x h n=>⟨sm h,n⟩,λa o e _=>⟨rfl,e⟩⟩
theorem Go.trans{w w1 w2:Wn}(a:Go H w H1 w1)(b:Go H1 w1 H2 w2):Go H w H2 w2:=
 ⟨a.cI.trans b.cI,λc o e h=>by obtain⟨h1,w1⟩:=a.keep c o e h;obtain⟨h2,w2⟩:=b.keep c o w1 h;exact⟨h2.trans h1,w2⟩⟩
theorem Rep.gone{w w':Wn}{q:Nat}{d:D}(r:Rep K H w (.t i) q d v F)(wl:WL K w H)(g:Go H w H' w'):Rep K H' w' (.t i) q d v F:=
 Rep.go wl g.cI r λa m=>g.keep a _ (r.aM a m) (λ_ z=>nomatch z)
theorem af.gone{w w':Wn}{q:Nat}{d:List D}{v:List V}(r:af K H w (.t i) q d v F)(wl:WL K w H)(g:Go H w H' w'):af K H' w' (.t i) q d v F:=
 af.go wl g.cI r λa m=>g.keep a _ (r.aM a m) (λ_ z=>nomatch z)
def dv (t:Nat)(w:Wn):Wn:=λa=>match w a with
 | some (.t i)=>if t<=i then none else some (.t i)
 | x=>x
theorem zB{t:Nat}{w:Wn}(h:w a=none):dv t w a=none:=by unfold dv;rw[h]
theorem SV{t:Nat}{w:Wn}(h:w a=some (.s i)):dv t w a=some (.s i):=by unfold dv;rw[h]
theorem SW{t:Nat}{w:Wn}(h:w a=some .f):dv t w a=some .f:=by unfold dv;rw[h]
theorem SX{t:Nat}{w:Wn}(h:w a=some (.t i))(hi:i<t):dv t w a=some (.t i):=by unfold dv;rw[h];exact Ql (by omega)
theorem SY{t:Nat}{w:Wn}(h:w a=some (.t i))(hi:t<=i):dv t w a=none:=by unfold dv;rw[h];exact Qi hi
theorem CB{t:Nat}{w:Wn}{o:Ow}(h:dv t w a=some o):w a=some o/\∀ i,o=.t i->i<t:=by
 unfold dv at h;cases e:w a with
 | none=>rw[e]at h;cases h
 | some o'=>
  rw[e]at h;cases o' with
  | s i=>cases h;exact⟨rfl,λi z=>nomatch z⟩
  | f=>cases h;exact⟨rfl,λi z=>nomatch z⟩
  | t i=>
   dsimp only at h;split at h
   ·cases h
   ·cases h;exact⟨rfl,λj z=>by cases z;omega⟩
theorem Good.drop{ρ:aW}{σ:St}{w:Wn}{t:Nat}(g:Good K ρ σ H w t):Good K ρ σ H (dv t' w) t':=by refine⟨⟨λa o e=>g.wl a o (CB e).1,g.wl.tb⟩,λa i e=>g.ws a i (CB e).1,λa i e=>(CB e).2 i rfl,g.len,λi d q e=>?_⟩;obtain⟨v,F,h1,h2⟩:=g.slot i d q e;exact⟨v,F,h1,Rep.go g.wl (λa x h n=>⟨sm h,zB n⟩) h2 λa m=>⟨rfl,SV (h2.aM a m)⟩⟩
theorem Go.drop{w w':Wn}{t:Nat}(g:Go H w H' w')(wt:∀ a i,w a=some (.t i)->i<t):Go H w H' (dv t w'):=
 ⟨λa x h n=>⟨(g.cI a x h n).1,zB (g.cI a x h n).2⟩,λa o e h=>by
   obtain⟨h1,h2⟩:=g.keep a o e h;refine⟨h1,?_⟩;cases o with
   | s i=>exact absurd rfl (h i)
   | f=>exact SW h2
   | t i=>exact SX h2 (wt a i e)⟩
theorem Rep.drop{w:Wn}{q:Nat}{d:D}{t:Nat}{o:Ow}(r:Rep K H w (.t t) q d v F)(h:t'<=t):Rep K H (dv t' w) o 0 d v []:=
 Rep.freeze (λa n=>zB n) r λa m=>SY (r.aM a m) h
abbrev aF:=aW->Option (D×Nat×aW)
def tD (K:PySem.W.Frag)(f:aF):TE:=λσ H Q=>∃ ρ w t r q ρ',Good K ρ σ H w t/\f ρ=some (r,q,ρ')/\∀ v H' w' F,Good K ρ' σ H' w' (t+1)->Go H w H' w'->Rep K H' w' (.t t) q r v F->Q v H'
theorem PE.imp{t t':TE}(h:PE X e t)(i:∀ σ H Q,t' σ H Q->t σ H Q):PE X e t':=λTk s σ H Q I q=>h Tk s σ H Q I (i σ H Q q)
abbrev PD (X:Cx)(e:Expr)(f:aF):Prop:=PE X e (tD X.K f)
structure QD (X:Cx) (e:Expr) (f:aF):Prop where mk::o:PD X e f
theorem Good.up{ρ:aW}{σ:St}{w:Wn}{t:Nat}(g:Good K ρ σ H w t):Good K ρ σ H w (t+1):=⟨g.wl,g.ws,λa i e=>ZJ (g.wt a i e),g.len,g.slot⟩
@[simp] def c_ (d:D):Nat:=if d.cR then 0 else 9
theorem Rep.j0{w:Wn}{o:Ow}{d:D}(r:Rep K H w o 0 d v []):Rep K H w o (c_ d) d v []:=by
 unfold c_;cases e:d.cR with
 | true=>exact r
 | false=>exact(r.dC e).2 9
section
variable {K:PySem.W.Frag}{σ:St}{H:Hp}{ρ ρ' ρ1 ρ2:aW}{w:Wn}{t:Nat}{Q:VK}
theorem su{fa fb:aF}{R:V->V->Hp->Prop}(g:Good K ρ σ H w t){d1 d2:D}{q1 q2:Nat}(e1:fa ρ=some (d1,q1,ρ1))(e2:fb ρ1=some (d2,q2,ρ2))
  (k:∀ x y H2 w2 F1 F2,Good K ρ2 σ H2 w2 (t+2)->Go H w H2 w2->Rep K H2 w2 (.t t) q1 d1 x F1->Rep K H2 w2 (.t (t+1)) q2 d2 y F2->R x y H2) :
  tD K fa σ H λx H1=>tD K fb σ H1 λy H2=>R x y H2:=
 ⟨ρ,w,t,d1,q1,ρ1,g,e1,λx H1 w1 F1 g1 aS r1=>⟨ρ1,w1,t+1,d2,q2,ρ2,g1,e2,λy H2 w2 F2 g2 cD r2=>k x y H2 w2 F1 F2 g2 (aS.trans cD) (r1.gone g1.wl cD) r2⟩⟩
theorem oo{r:D}{q:Nat}{w2:Wn}{t2:Nat}(k:∀ v H' w' F,Good K ρ' σ H' w' (t+1)->Go H w H' w'->Rep K H' w' (.t t) q r v F->Q v H')(g:Good K ρ σ H w t)(g2:Good K ρ' σ H2 w2 t2)(go:Go H w H2 w2)
  (rr:Rep K H2 (dv t w2) (.t t) q r v []):Q v H2:=k v H2 (dv t w2) [] g2.drop.up (go.drop g.wt) rr
def kS (p:Addr)(o:Ow)(w:Wn):Wn:=λa=>if a=p then some o else w a
theorem pC{o:Ow}{w:Wn}:kS p o w p=some o:=Qi rfl
theorem i7{o:Ow}{w:Wn}(h:a≠p):kS p o w a=w a:=Ql h
theorem oq{ds:List D}{w1:Wn}(g:Good K ρ σ H1 w1 t)(hp:H1 p=none)(r:af K H1 w1 .f 0 ds vs []) :
  Good K ρ σ (upd H1 p (.lst vs)) (kS p (.t t) w1) (t+1)/\Go H1 w1 (upd H1 p (.lst vs)) (kS p (.t t) w1)/\Rep K (upd H1 p (.lst vs)) (kS p (.t t) w1) (.t t) 1 (.lst ds) (.ref p) [p]:=by
 have ne:∀ a x,H1 a=some x->a≠p:=λa x e=>gC e hp;have nw:∀ a o,w1 a=some o->a≠p:=λa o e=>by obtain⟨vs,q⟩:=g.wl a o e;exact ne a _ q
 have st:dY H1 w1 (upd H1 p (.lst vs)) (kS p (.t t) w1):=λa x e n=>⟨sm (by rw[a_ (ne a x e)];exact e),by rw[i7 (ne a x e)];exact n⟩;refine⟨⟨⟨λa o e=>?_,g.wl.tb.upd rfl (.inl hp)⟩,λa i e=>?_,λa i e=>?_,g.len,λi d q e=>?_⟩,⟨st,λa o e _=>⟨a_ (nw a o e),(i7 (nw a o e)).trans e⟩⟩,?_⟩
 ·by_cases h:a=p
  ·subst h;exact⟨.l vs,fD⟩
  ·rw[i7 h]at e;obtain⟨us,q⟩:=g.wl a o e;exact⟨us,by rw[a_ h];exact q⟩
 ·by_cases h:a=p
  ·subst h;rw[pC]at e;cases e
  ·rw[i7 h]at e;exact g.ws a i e
 ·by_cases h:a=p
  ·subst h;rw[pC]at e;cases e;exact ZG _
  ·rw[i7 h]at e;exact ZJ (g.wt a i e)
 ·obtain⟨v,F,h1,h2⟩:=g.slot i d q e;exact⟨v,F,h1,Rep.go g.wl st h2 λa m=>⟨a_ (nw a _ (h2.aM a m)),(i7 (nw a _ (h2.aM a m))).trans (h2.aM a m)⟩⟩
 ·exact .own fD pC (af.go g.wl st r nM) (λz=>nomatch z)
theorem uz{ds:List D}{w1:Wn}(g:Good K ρ σ H1 w1 t)(hp:H1 p=none)(r:af K H1 w1 .f 0 ds vs []) :
  Good K ρ σ (upd H1 p (.tup vs)) w1 (t+1)/\Go H1 w1 (upd H1 p (.tup vs)) w1/\Rep K (upd H1 p (.tup vs)) w1 (.t t) 9 (.tup ds) (.ref p) []:=by
 have ne:∀ a x,H1 a=some x->a≠p:=λa x e=>gC e hp;have nw:∀ a o,w1 a=some o->a≠p:=λa o e=>by obtain⟨vs,q⟩:=g.wl a o e;exact ne a _ q
 have st:dY H1 w1 (upd H1 p (.tup vs)) w1:=λa x e n=>⟨sm (by rw[a_ (ne a x e)];exact e),n⟩;refine⟨⟨⟨λa o e=>?_,g.wl.tb.upd rfl (.inl hp)⟩,g.ws,λa i e=>ZJ (g.wt a i e),g.len,λi d q e=>?_⟩,⟨st,λa o e _=>⟨a_ (nw a o e),e⟩⟩,?_⟩
 ·obtain⟨us,q⟩:=g.wl a o e;exact⟨us,by rw[a_ (nw a o e)];exact q⟩
 ·obtain⟨v,F,h1,h2⟩:=g.slot i d q e;exact⟨v,F,h1,Rep.go g.wl st h2 λa m=>⟨a_ (nw a _ (h2.aM a m)),h2.aM a m⟩⟩
 ·exact .tup fD (af.go g.wl st r nM)
end
@[simp] def eC (d:D):aF:=λρ=>some (d,9,ρ)
@[simp] def aa (i:Nat):aF:=λρ=>match ρ[i]? with
 | some (some (d,q))=>if d.cR=false then some (d,9,ρ)else if q=0 then some (d,0,ρ)else some (d,0,ρ.set i (some (d,0)))
 | _=>none
section
variable {X:Cx}{a b c e:Expr}{fa fb fc f:aF}{pos:Pos}
theorem zC{d:D}(h:PE X e (tC v))(r:∀ K H w o q,Rep K H w o q d v []):PD X e (eC d):=PE.imp h λσ H Q aj=>by obtain⟨ρ,w,t,r',q,ρ',g,ee,k⟩:=aj;cases ee;exact k v H w [] g.up Go.refl (r _ _ _ _ _)
theorem aY{i j}:QD X (.Constant (.int i) j pos) (eC (.int i)):=⟨zC BC λ_ _ _ _ _=>.int i⟩
theorem kT{i j}:QD X (.Constant (.bool i) j pos) (eC (.bl i)):=⟨zC N4 λ_ _ _ _ _=>.bl i⟩
theorem S0{j}:QD X (.Constant .none j pos) (eC .bK):=⟨zC N5 λ_ _ _ _ _=>.bK⟩
theorem CC{x j}:QD X (.Constant (.str x) j pos) (eC (.str x)):=⟨zC BD λ_ _ _ _ _=>.str x⟩
def j4 (i:Nat)(w:Wn):Wn:=λa=>if w a=some (.s i)then none else w a
theorem zD{w:Wn}{a:Addr}(h:w a=none):j4 i w a=none:=by unfold j4;rw[h];rfl
theorem GF{w:Wn}{a:Addr}(h:w a=some (.s i)):j4 i w a=none:=by unfold j4;rw[Qi h]
theorem zE{w:Wn}{a:Addr}{o:Ow}(h:w a=some o)(n:o ≠ .s i):j4 i w a=some o:=by unfold j4;rw[Ql (by rw[h];exact λz=>n (QL z))];exact h
theorem uA{w:Wn}{a:Addr}{o:Ow}(h:j4 i w a=some o):w a=some o/\o ≠ .s i:=by
 unfold j4 at h;split at h
 ·cases h
 ·rename_i n;exact⟨h,λz=>n (by rw[h,z])⟩
theorem Good.give{ρ:aW}{σ:St}{w:Wn}{t:Nat}{d:D}{q:Nat}(g:Good K ρ σ H w t)(e:ρ[i]? = some (some (d,q))):Good K (ρ.set i (some (d,0))) σ H (j4 i w) t/\Go H w H (j4 i w):=by
 have st:dY H w H (j4 i w):=λa x h n=>⟨sm h,zD n⟩;refine⟨⟨⟨λa o h=>g.wl a o (uA h).1,g.wl.tb⟩,λa j h=>g.ws a j (uA h).1,λa j h=>g.wt a j (uA h).1,by rw[Zj];exact g.len,λj d' q' e'=>?_⟩,⟨st,λa o h n=>⟨rfl,zE h (n i)⟩⟩⟩;by_cases hj:i=j
 ·subst hj;rw[QZ (QN.mp e).1]at e';cases e';obtain⟨v,F,h1,h2⟩:=g.slot i d q e;exact⟨v,[],h1,Rep.freeze (λa n=>zD n) h2 λa m=>GF (h2.aM a m)⟩
 ·rw[Q3 hj]at e';obtain⟨v,F,h1,h2⟩:=g.slot j d' q' e';exact⟨v,F,h1,Rep.go g.wl st h2 λa m=>⟨rfl,zE (h2.aM a m) (λz=>hj (by cases z;rfl))⟩⟩
theorem aX{x:Str}(h:QE X (.Name x pos) (iZ i)):QD X (.Name x pos) (aa i):=⟨have h:=h.o;PE.imp h λσ H Q aj=>by
 obtain⟨ρ,w,t,r',q,ρ',g,ee,k⟩:=aj;unfold aa at ee;split at ee;next d q0 e0=>
  obtain⟨v,F,h1,h2⟩:=g.slot i d q0 e0;refine⟨v,h1,?_⟩;split at ee;next hl=>
   cases ee;obtain⟨hF,hr⟩:=h2.dC hl;exact k v H w [] g.up Go.refl ((hr 9).any g.wl)
  ·split at ee;next hq=>
    subst hq;cases ee;have:=h2.zero;subst this;exact k v H w [] g.up Go.refl (h2.any g.wl)
   ·cases ee;obtain⟨g',iG⟩:=g.give e0;refine k v H (j4 i w) [] g'.up iG ?_;exact Rep.freeze (λa n=>zD n) h2 λa m=>GF (h2.aM a m)
 ·cases ee⟩
def pD:D->Option V
 | .bK=>some .bK
 | .bl b=>some (.bl b)
 | .int i=>some (.int i)
 | .str x=>some (.str x)
 | _=>none
theorem CD{w:Wn}{o:Ow}{q:Nat}{d:D}(h:pD d=some v):Rep K H w o q d v []:=by
 cases d<;>cases h
 ·exact .bK
 ·exact .bl _
 ·exact .int _
 ·exact .str _
@[simp] def e2 (g:D->D->Option D)(fa fb:aF):aF:=λρ=>match fa ρ with
 | some (x,_,ρ1)=>match fb ρ1 with
  | some (y,_,ρ2)=>match g x y with
   | some d=>some (d,9,ρ2)
   | none=>none
  | none=>none
 | none=>none
theorem S2{g:D->D->Option D}{ρ ρ':aW}{r:D}{q:Nat}(h:e2 g fa fb ρ=some (r,q,ρ')):∃ x q1 ρ1 y q2,fa ρ=some (x,q1,ρ1)/\fb ρ1=some (y,q2,ρ')/\g x y=some r/\q=9:=by
 unfold e2 at h;split at h;next x q1 ρ1 h1=>
  split at h;next y q2 ρ2 h2=>
   split at h;next d hd=>
    cases h;exact⟨x,q1,ρ1,y,q2,h1,h2,hd,rfl⟩
   ·cases h
  ·cases h
 ·cases h
theorem uB{g:D->D->Option D}(hg:∀ x y d,g x y=some d->∃ v,pD d=some v/\∀ H w o o' q q' u u' F F',Rep K H w o q x u F->Rep K H w o' q' y u' F'->WL K w H->∀ Q:VK,Q v H->r u u' H Q) :
  ∀ σ H Q,tD K (e2 g fa fb) σ H Q->kn r (tD K fa) (tD K fb) σ H Q:=λσ H Q aj=>by obtain⟨ρ,w,t,r',q,ρ',gd,ee,k⟩:=aj;obtain⟨x,q1,ρ1,y,q2,h1,h2,h3,rfl⟩:=S2 ee;obtain⟨v,hv,hr⟩:=hg x y r' h3;exact su gd h1 h2 λu u' H2 w2 F1 F2 g2 go r1 r2=>hr H2 w2 _ _ _ _ u u' F1 F2 r1 r2 g2.wl Q (oo k gd g2 go (CD hv))
@[simp] def gI (f:Int->Int->Option D):D->D->Option D
 | .int i,.int j=>f i j
 | _,_=>none
theorem wx{f:Int->Int->Option D}{x y d:D}(h:gI f x y=some d):∃ i j,x=.int i/\y=.int j/\f i j=some d:=by
 unfold gI at h;split at h
 ·exact⟨_,_,rfl,rfl,h⟩
 ·cases h
theorem f_{w:Wn}{o:Ow}{q:Nat}{i:Int}(r:Rep K H w o q (.int i) v F):v=.int i:=by cases r;rfl
theorem CF{f:Int->Int->Option D}{C:Int->Int->Prop}(hf:∀ i j d,f i j=some d->C i j/\pD d=some (h i j)) :
  ∀ σ H Q,tD K (e2 (gI f) fa fb) σ H Q->kn (rI C h) (tD K fa) (tD K fb) σ H Q:=
 uB λx y d e=>by obtain⟨i,j,rfl,rfl,e⟩:=wx e;obtain⟨c,s⟩:=hf i j d e;exact⟨_,s,λH w o o' q q' u u' F F' r1 r2 _ Q hq=>⟨i,j,f_ r1,f_ r2,c,hq⟩⟩
theorem CG{f:Int->Int->Option D}(hf:∀ i j d,f i j=some d->pD d=some (h i j)) :
  ∀ σ H Q,tD K (e2 (gI f) fa fb) σ H Q->kn (mL h) (tD K fa) (tD K fb) σ H Q:=
 uB λx y d e=>by obtain⟨i,j,rfl,rfl,e⟩:=wx e;exact⟨_,hf i j d e,λH w o o' q q' u u' F F' r1 r2 _ Q hq=>⟨i,j,f_ r1,f_ r2,hq⟩⟩
@[simp] def cU:D->D->Option D:=gI λi j=>some (.int (i+j))
@[simp] def ky:D->D->Option D:=gI λi j=>if(-(2 ^ 64)<i/\i<2 ^ 64)\/(-(2 ^ 64)<j/\j<2 ^ 64)then some (.int (i*j))else none
@[simp] def zG:D->D->Option D:=gI λi j=>if 0<j/\j<1073741824 then some (.int (i / j))else none
@[simp] def sv:D->D->Option D:=gI λi j=>if 0<j then some (.int (i % j))else none
theorem dZ(ha:QD X a fa)(hb:QD X b fb):QD X (.BinOp a .Add b pos) (e2 cU fa fb):=⟨have ha:=ha.o;have hb:=hb.o;PE.imp (qw Pd ha hb) (CG λi j d h=>by cases h;rfl)⟩
theorem mZ(ha:QD X a fa)(hb:QD X b fb):QD X (.BinOp a .Mult b pos) (e2 ky fa fb):=⟨have ha:=ha.o;have hb:=hb.o;PE.imp (qw Pe ha hb) (CF λi j d h=>by
 split at h
 ·cases h;exact⟨by assumption,rfl⟩
 ·cases h)⟩
theorem CH(ha:QD X a fa)(hb:QD X b fb):QD X (.BinOp a .FloorDiv b pos) (e2 zG fa fb):=⟨have ha:=ha.o;have hb:=hb.o;PE.imp (qw Pf ha hb) (CF λi j d h=>by
 split at h
 ·cases h;exact⟨by assumption,rfl⟩
 ·cases h)⟩
theorem uC(ha:QD X a fa)(hb:QD X b fb):QD X (.BinOp a .Mod b pos) (e2 sv fa fb):=⟨have ha:=ha.o;have hb:=hb.o;PE.imp (qw Pg ha hb) (CF λi j d h=>by
 split at h
 ·cases h;exact⟨by assumption,rfl⟩
 ·cases h)⟩
def da:D->Int->Option D
 | .lst ds,i=>eR ds i
 | .tup ds,i=>eR ds i
 | _,_=>none
@[simp] def dE (fa fb:aF):aF:=λρ=>match fa ρ with
 | some (x,_,ρ1)=>match fb ρ1 with
  | some (.int i,_,ρ2)=>match da x i with
   | some d=>some (d,c_ d,ρ2)
   | none=>none
  | _=>none
 | none=>none
theorem Rep.pE{w:Wn}{o:Ow}{q:Nat}{ds:List D}(r:Rep K H w o q (.lst ds) v F):∃ a vs q' G,v=.ref a/\cW K H a vs/\af K H w o q' ds vs G:=by
 cases r with
 | kl h r=>exact⟨_,_,_,_,rfl,h.sq,r⟩
 | shr h n r=>exact⟨_,_,_,_,rfl,.inl h,r⟩
 | own h n r _=>exact⟨_,_,_,_,rfl,cW.of h,r⟩
theorem Rep.fM{w:Wn}{o:Ow}{ds:List D}(r:Rep K H w o 0 (.lst ds) v F):∃ a vs,v=.ref a/\cW K H a vs/\af K H w o 0 ds vs []:=by
 cases r with
 | kl h r=>exact⟨_,_,rfl,h.sq,r⟩
 | shr h n r=>exact⟨_,_,rfl,.inl h,r⟩
theorem Rep.eI{w:Wn}{o:Ow}{q:Nat}{ds:List D}(r:Rep K H w o q (.tup ds) v F):∃ a vs,v=.ref a/\cG K H a vs/\af K H w o 0 ds vs []:=by
 cases r with
 | tup h r=>exact⟨_,_,rfl,cG.of h,r⟩
theorem Rep.jF{w:Wn}{o:Ow}{q:Nat}{ds:List D}(r:Rep K H w o q (.tup ds) v F):∃ a vs,v=.ref a/\H a=some (.tup vs)/\af K H w o 0 ds vs []:=by
 cases r with
 | tup h r=>exact⟨_,_,rfl,h,r⟩
theorem af.eR{w:Wn}{o:Ow}{ds:List D}{i:Int}{d:D}(r:af K H w o 0 ds vs [])(h:L2.eR ds i=some d):∃ v,L2.eR vs i=some v/\Rep K H w o 0 d v []:=by
 unfold L2.eR at h ⊢;rw[<- r.length];cases e:kr ds.length i with
 | none=>rw[e]at h;cases h
 | some j=>
  rw[e]at h;exact r.get h
theorem iH(ha:QD X a fa)(hb:QD X b fb)(hs:uq b:=by exact λ_ _=>rfl):QD X (.Subscript a b pos) (dE fa fb):=⟨have ha:=ha.o;have hb:=hb.o;PE.imp (vY vZ ha hb hs) λσ H Q aj=>by
 obtain⟨ρ,w,t,r',q,ρ',gd,ee,k⟩:=aj;unfold dE at ee;split at ee;next x q1 ρ1 h1=>
  split at ee;next i q2 ρ2 h2=>
   split at ee;next d hd=>
    cases ee;refine su gd h1 h2 λu u' H2 w2 F1 F2 g2 go r1 r2=>?_;have m7:=f_ r2;subst m7;have r0:=r1.drop (o:=.t t) (Qj t);cases x with
    | lst ds=>
     obtain⟨p,vs,rfl,hq,rs⟩:=r0.fM;obtain⟨v,hv,rv⟩:=rs.eR hd;exact .inl ⟨p,vs,i,v,rfl,rfl,hq,hv,oo k gd g2 go rv.j0⟩
    | tup ds=>
     obtain⟨p,vs,rfl,hq,rs⟩:=r0.eI;obtain⟨v,hv,rv⟩:=rs.eR hd;exact .inr (.inl ⟨p,vs,i,v,rfl,rfl,hq,hv,oo k gd g2 go rv.j0⟩)
    | _=>cases hd
   ·cases ee
  ·cases ee
 ·cases ee⟩
abbrev cK:=aW->Option (List D×aW)
def zH (K:PySem.W.Frag)(f:cK):TA:=λσ H Q=>∃ ρ w t ds ρ',Good K ρ σ H w t/\f ρ=some (ds,ρ')/\∀ vs H' w',Good K ρ' σ H' w' t->Go H w H' w'->af K H' w' .f 0 ds vs []->Q vs H'
abbrev GG (X:Cx)(es:List Expr)(f:cK):Prop:=PA X es (zH X.K f)
structure iq (X:Cx) (e:List Expr) (f:cK):Prop where mk::o:GG X e f
theorem PA.imp{X:Cx}{e:List Expr}{t t':TA}(h:PA X e t)(i:∀ σ H Q,t' σ H Q->t σ H Q):PA X e t':=λpos Tk s σ H Q I q=>h pos Tk s σ H Q I (i σ H Q q)
@[simp] def ah:cK:=λρ=>some ([],ρ)
@[simp] def ae (f:aF)(g:cK):cK:=λρ=>match f ρ with
 | some (d,_,ρ1)=>match g ρ1 with
  | some (ds,ρ2)=>some (d::ds,ρ2)
  | none=>none
 | none=>none
theorem ak:iq X [] ah:=⟨PA.imp mO λσ H Q aj=>by obtain⟨ρ,w,t,ds,ρ',gd,ee,k⟩:=aj;cases ee;exact k [] H w gd Go.refl .nil⟩
theorem av{g:cK}(ha:QD X e f)(hr:iq X es g)(hs:starEach (e::es) X.env=(false,eval e X.env)::starEach es X.env:=by rfl):iq X (e::es) (ae f g):=⟨have ha:=ha.o;have hr:=hr.o;PA.imp (ma ha hr hs) λσ H Q aj=>by
 obtain⟨ρ,w,t,ds,ρ',gd,ee,k⟩:=aj;unfold ae at ee;split at ee;next d q ρ1 h1=>
  split at ee;next eG ρ2 h2=>
   cases ee;refine⟨ρ,w,t,d,q,ρ1,gd,h1,λx H1 w1 F1 g1 aS r1=>⟨ρ1,dv t w1,t,eG,_,g1.drop,h2,λvs H2 w2 g2 cD r2=>?_⟩⟩;have gl:=(g1.drop (t':=t)).wl;have r0:Rep X.K H2 w2 .f 0 d x []:=Rep.go gl cD.cI (r1.drop (o:=.f) (Qj t)) nM;exact k (x::vs) H2 w2 g2 ((aS.drop gd.wt).trans cD) (.cons (F:=[]) (G:=[]) r0 r2 nM)
  ·cases ee
 ·cases ee⟩
@[simp] def dI (g:cK):aF:=λρ=>match g ρ with
 | some (ds,ρ1)=>if ds.length<=1000 then some (.lst ds,1,ρ1)else none
 | none=>none
@[simp] def dF (g:cK):aF:=λρ=>match g ρ with
 | some (ds,ρ1)=>if ds.length<=1000 then some (.tup ds,9,ρ1)else none
 | none=>none
theorem qJ(h:n<=1000):n<=sizeLine:=Z6 (pf h)
theorem eX{g:cK}(h:iq X es g):QD X (.List es pos) (dI g):=⟨have h:=h.o;PE.imp (PF h) λσ H Q aj=>by
 obtain⟨ρ,w,t,r',q,ρ',gd,ee,k⟩:=aj;unfold dI at ee;split at ee;next ds ρ1 h1=>
  split at ee;next hl=>
   cases ee;refine⟨ρ,w,t,ds,_,gd,h1,λvs H1 w1 g1 aS r1=>⟨by rw[<- r1.length];exact qJ hl,λp hp=>?_⟩⟩;obtain⟨a1,a2,a3⟩:=oq g1 hp r1;exact k _ _ _ _ a1 (aS.trans a2) a3
  ·cases ee
 ·cases ee⟩
theorem ir{g:cK}{x1}(h:iq X es g):QD X (.Tuple es x1 pos) (dF g):=⟨have h:=h.o;PE.imp (PC h) λσ H Q aj=>by
 obtain⟨ρ,w,t,r',q,ρ',gd,ee,k⟩:=aj;unfold dF at ee;split at ee;next ds ρ1 h1=>
  split at ee;next hl=>
   cases ee;refine⟨ρ,w,t,ds,_,gd,h1,λvs H1 w1 g1 aS r1=>⟨by rw[<- r1.length];exact qJ hl,λp hp=>?_⟩⟩;obtain⟨a1,a2,a3⟩:=uz g1 hp r1;exact k _ _ _ _ a1 (aS.trans a2) a3
  ·cases ee
 ·cases ee⟩
def lL (K:PySem.W.Frag)(n:Nat)(F:List D->OD):Sp:=λvs H Q _=>vs.length=n/\∃ ds w r q,(∀ a o,w a=some o->o=.f)/\WL K w H/\af K H w .f 0 ds vs []/\F ds=some (r,q) /\
 ∀ v H' w' Fo,Go H w H' w'->WL K w' H'->Rep K H' w' (.t 0) q r v Fo->Q v H'
@[simp] def aK (F:List D->OD)(n:Nat)(g:cK):aF:=λρ=>match g ρ with
 | some (ds,ρ1)=>if ds.length=n then match F ds with
  | some (r,q)=>some (r,q,ρ1)
  | none=>none
  else none
 | none=>none
theorem back{ρ:aW}{σ:St}{w w':Wn}{t q:Nat}{d:D}{Fo:List Addr}(g:Good K ρ σ H w t)
  (go:Go H (λa=>(w a).map λ_=>Ow.f) H' w') (wy:WL K w' H') (r:Rep K H' w' (.t 0) q d v Fo) :
  Good K ρ σ H' (λa=>if a∈Fo then some (.t t)else w a) (t+1)/\Go H w H' (λa=>if a∈Fo then some (.t t)else w a)/\Rep K H' (λa=>if a∈Fo then some (.t t)else w a) (.t t) q d v Fo:=by
 have kf:∀ a o,w a=some o->H' a=H a/\w' a=some .f:=λa o e=>go.keep a .f (by show(w a).map _=_;rw[e];rfl) (λ_ z=>nomatch z);have nf:∀ a x,H a=some x->a ∉ Fo:=λa x e m=>by
  have h1:=r.aM a m;cases ew:w a with
  | none=>
   have:=(go.cI a x e (by show(w a).map _=_;rw[ew];rfl)).2;rw[h1]at this;cases this
  | some o=>rw[(kf a o ew).2]at h1;cases h1
 have nw:∀ a o,w a=some o->a ∉ Fo:=λa o e=>by obtain⟨vs,q⟩:=g.wl a o e;exact nf a _ q
 have st:dY H w H' (λa=>if a∈Fo then some (.t t)else w a):=λa x e n=>⟨(go.cI a x e (by show(w a).map _=_;rw[n];rfl)).1,by show(if a∈Fo then _ else _)=_;rw[Ql (nf a x e)];exact n⟩;have wv:∀ a o,(if a∈Fo then some (Ow.t t)else w a)=some o->(a∈Fo/\o=.t t)\/w a=some o:=λa o e=>by
  split at e
  ·cases e;exact .inl ⟨by assumption,rfl⟩
  ·exact .inr e
 refine⟨⟨⟨λa o e=>?_,wy.tb⟩,λa i e=>?_,λa i e=>?_,g.len,λi d q e=>?_⟩,⟨st,λa o e _=>⟨(kf a o e).1,by show(if a∈Fo then _ else _)=_;rw[Ql (nw a o e)];exact e⟩⟩,?_⟩
 ·rcases wv a o e with⟨m,_⟩|z
  ·exact wy a _ (r.aM a m)
  ·obtain⟨vs,h⟩:=g.wl a o z;exact⟨vs,(kf a o z).1.trans h⟩
 ·rcases wv a _ e with⟨_,z⟩|z
  ·cases z
  ·exact g.ws a i z
 ·rcases wv a _ e with⟨_,z⟩|z
  ·cases z;exact ZG _
  ·exact ZJ (g.wt a i z)
 ·obtain⟨v,F,h1,h2⟩:=g.slot i d q e;refine⟨v,F,h1,Rep.go g.wl st h2 λa m=>⟨(kf a _ (h2.aM a m)).1,?_⟩⟩;show(if a∈Fo then _ else _)=_;rw[Ql (nw a _ (h2.aM a m))];exact h2.aM a m
 ·refine Rep.go wy (λa x e n=>⟨sm e,?_⟩) r λa m=>⟨rfl,Qi m⟩;show(if a∈Fo then _ else _)=_;rw[Ql (λm=>by have:=r.aM a m;rw[n]at this;cases this)];cases ew:w a with
  | none=>rfl
  | some o=>have:=(kf a o ew).2;rw[n]at this;cases this
theorem S3{CX:n_}{k:Nat}{fn:Addr}{x:Str}{p:Pos}{F:List D->OD}{g:cK}(Fk:eU X.prog X.w X.K X.mg X.base CX k fn fd ps (lL X.K n F))(hr:bA k X.A)(hm:X.mg x=some (.ref fn))(hk:W.keepIn X.K (.ref fn)=true)(hb:qy X.K fd ps [])
  (hx:yX CX X E) (ha:GG X (e::es) g) (hg:Gl X x:=by rfl) (kq:(x==("__debug__":Str))=false:=by decide) (he:starEach (e::es) X.env=(false,eval e X.env)::starEach es X.env:=by rfl) (cA:(backTo pos (starEach es X.env)).any (·.1)=false:=by rfl) :
  PD X (.Call (.Name x p) (e::es) [] pos) (aK F n g):=PE.imp (PK Fk hr hg hm hk hb .nil hx ha kq he cA) λσ H Q aj=>by
 obtain⟨ρ,w,t,r',q,ρ',gd,ee,k⟩:=aj;unfold aK at ee;split at ee;next ds ρ1 h1=>
  split at ee;next hn=>
   split at ee;next r0 q0 h2=>
    cases ee;refine⟨ρ,w,t,ds,_,gd,h1,λvs H1 w1 g1 aS r1=>?_⟩;show lL X.K n F (vs++[]) H1 Q E;rw[ZM];refine⟨by rw[<- r1.length];exact hn,ds,λa=>(w1 a).map λ_=>Ow.f,r',q,λa o e=>?_,⟨λa o e=>?_,g1.wl.tb⟩,?_,h2,λv H2 w2 Fo cD S4 rr=>?_⟩
    ·dsimp only at e;cases ew:w1 a with
     | none=>rw[ew]at e;cases e
     | some o'=>rw[ew]at e;cases e;rfl
    ·try dsimp only at e
     cases ew:w1 a with
     | none=>rw[ew]at e;cases e
     | some o'=>exact g1.wl a o' ew
    ·exact af.freeze (λa n=>by show(w1 a).map _=_;rw[n];rfl) r1 nM
    ·obtain⟨b1,b2,b3⟩:=back g1 cD S4 rr;exact k _ _ _ _ b1 (aS.trans b2) b3
   ·cases ee
  ·cases ee
 ·cases ee
end
abbrev cS:=aW->Option (Bool×aW)
def sy (K:PySem.W.Frag)(f:cS):TT:=λσ H Q=>∃ ρ w t b ρ',Good K ρ σ H w t/\f ρ=some (b,ρ')/\∀ H' w',Good K ρ' σ H' w' t->Go H w H' w'->Q b H'
theorem PT.imp{t t':TT}(h:PT X e t)(i:∀ σ H Q,t' σ H Q->t σ H Q):PT X e t':=λTk s σ H Q I q=>h Tk s σ H Q I (i σ H Q q)
theorem PW.imp{t t':TT}(h:PW X e t)(i:∀ σ H Q,t' σ H Q->t σ H Q):PW X e t':=λwhole Tk s σ H Q I q=>h whole Tk s σ H Q I (i σ H Q q)
abbrev GH (X:Cx)(e:Expr)(f:cS):Prop:=PT X e (sy X.K f)
structure jt (X:Cx) (e:Expr) (f:cS):Prop where mk::o:GH X e f
abbrev S5 (X:Cx)(e:Expr)(f:cS):Prop:=PW X e (sy X.K f)
structure sA (X:Cx) (e:Expr) (f:cS):Prop where mk::o:S5 X e f
@[simp] def S6:D->Option Bool
 | .bK=>some false
 | .bl b=>some b
 | .int i=>some (i != 0)
 | .tup ds=>some (!ds.isEmpty)
 | .lst ds=>some (!ds.isEmpty)
 | .str _=>none
 | .gS _ _=>none
 | .exc _=>none
 | .ob _ _ _ _=>none
 | .mp _ _=>none
@[simp] def gT (f:aF):cS:=λρ=>match f ρ with
 | some (d,_,ρ1)=>match S6 d with
  | some b=>some (b,ρ1)
  | none=>none
 | none=>none
section
variable {X:Cx}{a b c e:Expr}{fa fb fc f:aF}{ga gb gc:cS}{pos:Pos}
theorem zI{α β:Type}{l:List α}{l':List β}(h:l.length=l'.length):(!l.isEmpty) = !l'.isEmpty:=by cases l<;>cases l'<;>first|rfl|cases h
theorem mh(ha:QD X a fa)(he:∀ whole,isTrue a X.env whole=(do let v <- whole;standAt a.pos;holding [v] (truthy v)):=by exact λ_=>rfl):jt X a (gT fa):=⟨have ha:=ha.o;PT.imp (Pt ha he) λσ H Q aj=>by
 obtain⟨ρ,w,t,b,ρ',gd,ee,k⟩:=aj;unfold gT at ee;split at ee;next d q ρ1 h1=>
  split at ee;next b' hb=>
   cases ee;refine⟨ρ,w,t,d,q,_,gd,h1,λv H1 w1 F g1 aS r1=>⟨b,?_,k H1 (dv t w1) g1.drop (aS.drop gd.wt)⟩⟩;cases r1 with
   | bK=>cases hb;rfl
   | bl x=>cases hb;rfl
   | int i=>cases hb;rfl
   | str x=>cases hb
   | tup h r=>cases hb;exact .inr (.inl ⟨_,cG.of h,zI r.length⟩)
   | gS h e r=>cases hb
   | exc h x n=>cases hb
   | ob h1 h2 x r=>cases hb
   | kl h r=>cases hb;exact .inl ⟨_,h.sq,zI r.length⟩
   | shr h _ r=>cases hb;exact .inl ⟨_,.inl h,zI r.length⟩
   | own h _ r _=>cases hb;exact .inl ⟨_,cW.of h,zI r.length⟩
   | qH h _ _ _ _=>cases hb
   | px h _ _ _ _=>cases hb
  ·cases ee
 ·cases ee⟩
@[simp] def bC (f:aF):cS:=λρ=>match f ρ with
 | some (.bl b,_,ρ1)=>some (b,ρ1)
 | _=>none
theorem S7(h:∀ σ H Q,tD K f σ H Q->te σ H Q):∀ σ H Q,sy K (bC f) σ H Q->FJ te σ H Q:=λσ H Q aj=>by
 obtain⟨ρ,w,t,b,ρ',gd,ee,k⟩:=aj;unfold bC at ee;split at ee;next b' q ρ1 h1=>
  cases ee;refine h σ H _ ⟨ρ,w,t,.bl b,q,_,gd,h1,λv H1 w1 F g1 aS r1=>?_⟩;cases r1;exact⟨b,rfl,k H1 (dv t w1) g1.drop (aS.drop gd.wt)⟩
 ·cases ee
theorem uD{g:D->D->Option D}(ho:dO X (compareOp op) r)(hr:∀ σ H Q,tD X.K (e2 g fa fb) σ H Q->kn r (tD X.K fa) (tD X.K fb) σ H Q)(ha:PD X a fa)(hb:PD X b fb)(hm:behindInMarks op b=false) :
  GH X (.Compare a [op] [b] pos) (bC (e2 g fa fb)):=PT.imp (Pn ho ha hb hm) (S7 hr)
theorem S8{g:D->D->Option D}(ho:dO X (compareOp op) r)(hr:∀ σ H Q,tD X.K (e2 g fa fb) σ H Q->kn r (tD X.K fa) (tD X.K fb) σ H Q)(ha:PD X a fa)(hb:PD X b fb)(hm:behindInMarks op b=false) :
  PD X (.Compare a [op] [b] pos) (e2 g fa fb):=PE.imp (Pm ho ha hb hm) hr
@[simp] def m8:D->D->Option D:=gI λi j=>some (.bl (decide (i<j)))
@[simp] def GI:D->D->Option D:=gI λi j=>some (.bl (decide (i<=j)))
@[simp] def sC:D->D->Option D:=gI λi j=>some (.bl (decide (j<i)))
theorem S_:∀ σ H Q,tD K (e2 m8 fa fb) σ H Q->kn (mL λi j=>.bl (decide (i<j))) (tD K fa) (tD K fb) σ H Q:=CG λi j d h=>by cases h;rfl
theorem Ta:∀ σ H Q,tD K (e2 sC fa fb) σ H Q->kn (mL λi j=>.bl (decide (j<i))) (tD K fa) (tD K fb) σ H Q:=CG λi j d h=>by cases h;rfl
theorem zJ(ha:QD X a fa)(hb:QD X b fb):jt X (.Compare a [.Lt] [b] pos) (bC (e2 m8 fa fb)):=⟨have ha:=ha.o;have hb:=hb.o;uD FI S_ ha hb (vS _)⟩
theorem GJ(ha:QD X a fa)(hb:QD X b fb):jt X (.Compare a [.Gt] [b] pos) (bC (e2 sC fa fb)):=⟨have ha:=ha.o;have hb:=hb.o;uD Pl Ta ha hb (vS _)⟩
@[simp] def i8 (g:cS):cS:=λρ=>match g ρ with
 | some (b,ρ1)=>some (!b,ρ1)
 | none=>none
theorem pF(ha:jt X a ga):jt X (.UnaryOp .Not a pos) (i8 ga):=⟨have ha:=ha.o;PT.imp (Oe ha) λσ H Q aj=>by
 obtain⟨ρ,w,t,b,ρ',gd,ee,k⟩:=aj;unfold i8 at ee;split at ee;next b' ρ1 h1=>
  cases ee;exact⟨ρ,w,t,b',_,gd,h1,λH1 w1 g1 aS=>k H1 w1 g1 aS⟩
 ·cases ee⟩
@[simp] def ot (g h:cS):cS:=λρ=>match g ρ with
 | some (b,ρ1)=>if b=true then h ρ1 else some (false,ρ1)
 | none=>none
@[simp] def lM (g h:cS):cS:=λρ=>match g ρ with
 | some (b,ρ1)=>if b=true then some (true,ρ1)else h ρ1
 | none=>none
variable {bp:List Expr}
theorem CI(ha:jt X a ga):sA X (.BoolOp .And [a] pos) ga:=⟨have ha:=ha.o;Oa ha⟩
theorem uF(ha:jt X a ga):sA X (.BoolOp .Or [a] pos) ga:=⟨have ha:=ha.o;Ob ha⟩
theorem CJ(ha:jt X a ga)(hb:sA X (.BoolOp .And (b::bp) pos) gb):sA X (.BoolOp .And (a::b::bp) pos) (ot ga gb):=⟨have ha:=ha.o;have hb:=hb.o;PW.imp (Oc ha hb) λσ H Q aj=>by
 obtain⟨ρ,w,t,b,ρ',gd,ee,k⟩:=aj;unfold ot at ee;split at ee;next b' ρ1 h1=>
  refine⟨ρ,w,t,b',ρ1,gd,h1,λH1 w1 g1 aS=>?_⟩;split at ee
  ·rename_i hb;rw[Qi hb]
   exact⟨ρ1,w1,t,b,ρ',g1,ee,λH2 w2 g2 cD=>k H2 w2 g2 (aS.trans cD)⟩
  ·rename_i hb;rw[Ql hb]
   cases ee;exact k H1 w1 g1 aS
 ·cases ee⟩
theorem sD(ha:jt X a ga)(hb:sA X (.BoolOp .Or (b::bp) pos) gb):sA X (.BoolOp .Or (a::b::bp) pos) (lM ga gb):=⟨have ha:=ha.o;have hb:=hb.o;PW.imp (Od ha hb) λσ H Q aj=>by
 obtain⟨ρ,w,t,b,ρ',gd,ee,k⟩:=aj;unfold lM at ee;split at ee;next b' ρ1 h1=>
  refine⟨ρ,w,t,b',ρ1,gd,h1,λH1 w1 g1 aS=>?_⟩;split at ee
  ·rename_i hb;rw[Qi hb]
   cases ee;exact k H1 w1 g1 aS
  ·rename_i hb;rw[Ql hb]
   exact⟨ρ1,w1,t,b,ρ',g1,ee,λH2 w2 g2 cD=>k H2 w2 g2 (aS.trans cD)⟩
 ·cases ee⟩
@[simp] def CK (g:cS)(fa fb:aF):aF:=λρ=>match g ρ with
 | some (b,ρ1)=>if b=true then fa ρ1 else fb ρ1
 | none=>none
theorem Tb(hc:jt X c gc)(ha:QD X a fa)(hb:QD X b fb):QD X (.IfExp c a b pos) (CK gc fa fb):=⟨have hc:=hc.o;have ha:=ha.o;have hb:=hb.o;PE.imp (Om hc ha hb) λσ H Q aj=>by
 obtain⟨ρ,w,t,r',q,ρ',gd,ee,k⟩:=aj;unfold CK at ee;split at ee;next b' ρ1 h1=>
  refine⟨ρ,w,t,b',ρ1,gd,h1,λH1 w1 g1 aS=>?_⟩;split at ee
  ·rename_i hb;rw[Qi hb]
   exact⟨ρ1,w1,t,r',q,ρ',g1,ee,λv H2 w2 F g2 cD=>k v H2 w2 F g2 (aS.trans cD)⟩
  ·rename_i hb;rw[Ql hb]
   exact⟨ρ1,w1,t,r',q,ρ',g1,ee,λv H2 w2 F g2 cD=>k v H2 w2 F g2 (aS.trans cD)⟩
 ·cases ee⟩
end
inductive Out where
 | nx (ρ:aW)|rt (d:D) (q:Nat)|bk (ρ:aW)|ct (ρ:aW)
abbrev aI:=aW->Option Out
def ou (K:PySem.W.Frag)(Dn:Ends)(n:Nat)(H:Hp)(w:Wn):Out->Prop
 | .nx ρ'=>∀ aO H' w',aO.length=n->Good K ρ' aO H' w' 0->Go H w H' w'->Dn.nx aO H'
 | .bk ρ'=>∀ aO H' w',aO.length=n->Good K ρ' aO H' w' 0->Go H w H' w'->Dn.bk aO H'
 | .ct ρ'=>∀ aO H' w',aO.length=n->Good K ρ' aO H' w' 0->Go H w H' w'->Dn.ct aO H'
 | .rt d q=>∀ v H' w' F,WL K w' H'->Go H w H' w'->Rep K H' w' (.t 0) q d v F->Dn.rt v H'
def zK (K:PySem.W.Frag)(f:aI):TS:=λDn σ H=>∃ ρ w o,Good K ρ σ H w 0/\f ρ=some o/\ou K Dn σ.length H w o
theorem PS.imp{e:Stmt}{t t':TS}(h:PS X e t)(i:∀ D σ H,t' D σ H->t D σ H):PS X e t':=λTk s σ H D I q=>h Tk s σ H D I (i D σ H q)
theorem iY.imp{e:List Stmt}{t t':TS}(h:iY X e t)(i:∀ D σ H,t' D σ H->t D σ H):iY X e t':=λTk s σ H D I q=>h Tk s σ H D I (i D σ H q)
abbrev Tc (X:Cx)(st:Stmt)(f:aI):Prop:=PS X st (zK X.K f)
structure lN (X:Cx) (e:Stmt) (f:aI):Prop where mk::o:Tc X e f
abbrev zL (X:Cx)(st:List Stmt)(f:aI):Prop:=iY X st (zK X.K f)
structure iI (X:Cx) (e:List Stmt) (f:aI):Prop where mk::o:zL X e f
@[simp] def d5:aI:=λρ=>some (.nx ρ)
@[simp] def aJ (f g:aI):aI:=λρ=>match f ρ with
 | some (.nx ρ1)=>g ρ1
 | o=>o
theorem ou.trans{Dn:Ends}{w w1:Wn}(go:Go H w H1 w1):∀ {o:Out},ou K Dn n H w o->ou K Dn n H1 w1 o
 | .nx _,h=>λaO H' w' e g iG=>h aO H' w' e g (go.trans iG)
 | .bk _,h=>λaO H' w' e g iG=>h aO H' w' e g (go.trans iG)
 | .ct _,h=>λaO H' w' e g iG=>h aO H' w' e g (go.trans iG)
 | .rt _ _,h=>λv H' w' F wl iG=>h v H' w' F wl (go.trans iG)
section
variable {X:Cx}{a b c e:Expr}{fa fb fc f:aF}{ga gb gc:cS}{pos:Pos}{st:Stmt}{bp sa sb:List Stmt}{s s':aI}
theorem gf:iI X [] d5:=⟨iY.imp Ou λD σ H aj=>by obtain⟨ρ,w,o,g,ee,k⟩:=aj;cases ee;exact k σ H w rfl g Go.refl⟩
theorem aP(h1:lN X st s)(h2:iI X bp s'):iI X (st::bp) (aJ s s'):=⟨have h1:=h1.o;have h2:=h2.o;iY.imp (Ov h1 h2) λD σ H aj=>by
 obtain⟨ρ,w,o,g,ee,k⟩:=aj;unfold aJ at ee;split at ee;next ρ1 h1=>
  exact⟨ρ,w,.nx ρ1,g,h1,λaO H' w' e g' iG=>⟨ρ1,w',o,g',ee,by rw[e];exact k.trans iG⟩⟩
 next il=>
  refine⟨ρ,w,o,g,ee,?_⟩;cases o with
  | nx ρ1=>exact absurd ee (il ρ1)
  | bk ρ1=>exact k
  | ct ρ1=>exact k
  | rt d q=>exact k⟩
theorem aQ(h1:lN X st s):iI X [st] s:=⟨have h1:=h1.o;Ox h1⟩
@[simp] def bJ (f:aF):aI:=λρ=>match f ρ with
 | some (d,q,_)=>some (.rt d q)
 | none=>none
theorem bQ(h:QD X e f):lN X (.Return (some e) pos) (bJ f):=⟨have h:=h.o;PS.imp (OE h) λD σ H aj=>by
 obtain⟨ρ,w,o,g,ee,k⟩:=aj;unfold bJ at ee;split at ee;next d q ρ1 h1=>
  cases ee;exact⟨ρ,w,0,d,q,ρ1,g,h1,λv H' w' F g' iG r=>k v H' w' F g'.wl iG r⟩
 ·cases ee⟩
@[simp] def dy (g:cS)(s s':aI):aI:=λρ=>match g ρ with
 | some (b,ρ1)=>if b=true then s ρ1 else s' ρ1
 | none=>none
theorem gh(hc:jt X c gc)(ha:iI X sa s)(hb:iI X sb s'):lN X (.If c sa sb pos) (dy gc s s'):=⟨have hc:=hc.o;have ha:=ha.o;have hb:=hb.o;PS.imp (OG hc ha hb) λD σ H aj=>by
 obtain⟨ρ,w,o,g,ee,k⟩:=aj;unfold dy at ee;split at ee;next b' ρ1 h1=>
  refine⟨ρ,w,0,b',ρ1,g,h1,λH1 w1 g1 aS=>?_⟩;split at ee
  ·rename_i hb;rw[Qi hb]
   exact⟨ρ1,w1,o,g1,ee,k.trans aS⟩
  ·rename_i hb;rw[Ql hb]
   exact⟨ρ1,w1,o,g1,ee,k.trans aS⟩
 ·cases ee⟩
@[simp] def GK:aI:=λρ=>some (.bk ρ)
theorem Td:lN X (.Break pos) GK:=⟨PS.imp Oz λD σ H aj=>by obtain⟨ρ,w,o,g,ee,k⟩:=aj;cases ee;exact k σ H w rfl g Go.refl⟩
def lO (t i:Nat)(w:Wn):Wn:=λa=>if w a=some (.t t)then some (.s i)else if w a=some (.s i)then none else w a
theorem Good.set{ρ:aW}{σ:St}{w:Wn}{q:Nat}{d:D}(g:Good K ρ σ H w 1)(hi:i<σ.length)(r:Rep K H w (.t 0) q d v F) :
  Good K (ρ.set i (some (d,q))) (σ.set i (some v)) H (lO 0 i w) 0/\∀ iW pG,Go iW pG H w->(∀ a j,pG a=some (.t j)->j<0)->Go iW pG H (lO 0 i w):=by
 have mN:∀ a,w a=none->lO 0 i w a=none:=λa e=>by unfold lO;rw[e];rfl
 have mT:∀ a,w a=some (.t 0)->lO 0 i w a=some (.s i):=λa e=>by unfold lO;rw[Qi e]
 have mS:∀ a j,w a=some (.s j)->j≠i->lO 0 i w a=some (.s j):=λa j e n=>by unfold lO;rw[Ql (by rw[e];exact λz=>nomatch z),Ql (by rw[e];intro z;cases z;exact n rfl)];exact e
 have mF:∀ a,w a=some .f->lO 0 i w a=some .f:=λa e=>by unfold lO;rw[Ql (by rw[e];exact λz=>nomatch z),Ql (by rw[e];exact λz=>nomatch z)];exact e
 have mI:∀ a o,lO 0 i w a=some o->(w a=some (.t 0)/\o=.s i)\/(w a=some o/\o ≠ .s i/\o ≠ .t 0):=λa o e=>by
  unfold lO at e;split at e
  ·cases e;exact .inl ⟨by assumption,rfl⟩
  next n1=>
   split at e
   ·cases e
   ·rename_i n2;exact .inr ⟨e,λz=>n2 (by rw[e,z]),λz=>n1 (by rw[e,z])⟩
 have st:dY H w H (lO 0 i w):=λa x h n=>⟨sm h,mN a n⟩;refine⟨⟨⟨λa o e=>?_,g.wl.tb⟩,λa j e=>?_,λa j e=>?_,by rw[Zj,Zj];exact g.len,λj d' q' e'=>?_⟩,λiW pG go hw=>⟨λa x h n=>⟨(go.cI a x h n).1,mN a (go.cI a x h n).2⟩,λa o e n=>?_⟩⟩
 ·rcases mI a o e with⟨z,_⟩|⟨z,_⟩
  ·exact g.wl a _ z
  ·exact g.wl a _ z
 ·rw[Zj];rcases mI a _ e with⟨_,z⟩|⟨z,_⟩
  ·cases z;exact hi
  ·exact g.ws a j z
 ·rcases mI a _ e with⟨_,z⟩|⟨z,_,n⟩
  ·cases z
  ·have:=g.wt a j z;have:j=0:=by omega
   subst this;exact absurd rfl n
 ·by_cases hj:i=j
  ·subst hj;rw[QZ (by rw[g.len];exact hi)]at e';cases e';exact⟨v,F,QZ hi,Rep.go g.wl st r λa m=>⟨rfl,mT a (r.aM a m)⟩⟩
  ·rw[Q3 hj]at e';obtain⟨v',F',h1,h2⟩:=g.slot j d' q' e';exact⟨v',F',by rw[Q3 hj];exact h1,Rep.go g.wl st h2 λa m=>⟨rfl,mS a j (h2.aM a m) (λz=>hj z.symm)⟩⟩
 ·obtain⟨h1,h2⟩:=go.keep a o e n;refine⟨h1,?_⟩;cases o with
  | s j=>exact absurd rfl (n j)
  | f=>exact mF a h2
  | t j=>exact absurd (hw a j e) (Zk _)
@[simp] def br (i:Nat)(f:aF):aI:=λρ=>match f ρ with
 | some (d,q,ρ1)=>some (.nx (ρ1.set i (some (d,q))))
 | none=>none
theorem GL{D:Ends}{σ:St}(hi:i<σ.length)(he:∀ Q,tD K f σ H Q->te σ H Q)(h:zK K (br i f) D σ H):te σ H λx H1=>D.nx (σ.set i (some x)) H1:=by
 obtain⟨ρ,w,o,g,ee,k⟩:=h;unfold br at ee;split at ee;next d q ρ1 h1=>
  cases ee;refine he _ ⟨ρ,w,0,d,q,ρ1,g,h1,λv H' w' F g' iG r=>?_⟩;obtain⟨a1,a2⟩:=g'.set hi r;exact k _ _ _ (by rw[Zj]) a1 (a2 _ _ iG g.wt)
 ·cases ee
theorem cb{x:Str}{pos':Pos}(hN:X.N.Nodup)(hi:X.N[i]? = some x)(hx:Loc X.env.scope x)(he:QD X e f)(hs:swapsWith e (some (.Name x pos')) pos.line X.env=pure false:=by rfl)(hf:X.fn x=true\/X.env.scope.names.lookup x=some .local:=by first|exact .inl rfl|exact .inr rfl):lN X (.Assign [.Name x pos'] e pos) (br i f):=⟨have he:=he.o;by
 intro Tk s σ H D I h;have hl:i<σ.length:=by rw[I.len];exact(QN.mp hi).1
 exact OU (te:=tD X.K f) hN hi hx he hs hf Tk s σ H D I (GL hl (λ_ z=>z) h)⟩
@[simp] def fy (f:aF):aI:=λρ=>match f ρ with
 | some (_,_,ρ1)=>some (.nx ρ1)
 | none=>none
theorem j5(he:QD X e f)(hs:swapsWith e none pos.line X.env=pure false:=by rfl):lN X (.Expr e pos) (fy f):=⟨have he:=he.o;PS.imp (OB he hs) λD σ H aj=>by
 obtain⟨ρ,w,o,g,ee,k⟩:=aj;unfold fy at ee;split at ee;next d q ρ1 h1=>
  cases ee;exact⟨ρ,w,0,d,q,ρ1,g,h1,λv H' w' F g' iG r=>k σ H' (dv 0 w') rfl g'.drop (iG.drop g.wt)⟩
 ·cases ee⟩
end
structure Mo (K:PySem.W.Frag) (H H':Hp):Prop where
 mo:∀ a o,H a=some o->H' a=some o
 tb:TB K H->TB K H'
theorem Mo.sE:Mo K H H:=⟨λ_ _ e=>e,λt=>t⟩
structure m9 (K:PySem.W.Frag) (J:It) (ds:List D) (P:Hp->Wn->Prop):Prop where
 go:∀ i H w,P H w->i<ds.length->J.go i H
 rO:∀ i H w x H' d,P H w->WL K w H->ds[i]? = some d->J.rO i H x H'->Mo K H H'/\Rep K H' w .f 0 d x []/\P H' w
 stop:∀ H w,P H w->J.stop ds.length H
 st:∀ H w H' w',P H w->WL K w H->dY H w H' w'->P H' w'
abbrev kU:=aW->Option (List D×aW)
def zM (K:PySem.W.Frag)(f:kU):TI:=λσ H R=>∃ ρ w t ds ρ',Good K ρ σ H w t/\f ρ=some (ds,ρ') /\
 ∀ J P H' w',Good K ρ' σ H' w' t->Go H w H' w'->m9 K J ds P->P H' w'->ds.length<sizeLine->R J H'
theorem PI.imp{t t':TI}(h:PI X tg e t)(i:∀ σ H R,t' σ H R->t σ H R):PI X tg e t':=λTk s σ H R I q=>h Tk s σ H R I (i σ H R q)
abbrev Te (X:Cx)(tg e:Expr)(f:kU):Prop:=PI X tg e (zM X.K f)
structure uG (X:Cx) (tg e:Expr) (f:kU):Prop where mk::o:Te X tg e f
theorem It.list{ds:List D}(hl:ds.length=vs.length):m9 K (BI K a) ds λH w=>(KL K a vs\/(Rd H a (.lst vs)/\w a=none))/\af K H w .f 0 ds vs []:=by
 have sq:∀ {H:Hp} {w:Wn},KL K a vs\/(Rd H a (.lst vs)/\w a=none)->cW K H a vs:=λh=>h.elim (λz=>z.sq) λz=>.inl z.1;refine⟨λi H w p hi=>⟨vs,vs[i],sq p.1,by simp[hl ▸ hi]⟩,λi H w x H' d p wl hd y=>?_,λH w p=>⟨vs,sq p.1,by omega⟩,λH w H' w' p wl st=>?_⟩
 ·obtain⟨rfl,hx⟩:=y;obtain⟨v,hv,rv⟩:=p.2.get hd;have:=hx vs (sq p.1);rw[hv]at this;cases this;exact⟨Mo.sE,rv,p⟩
 ·refine⟨?_,af.go wl st p.2 nM⟩;rcases p.1 with p|⟨p,n⟩
  ·exact .inl p
  ·exact .inr (zr.go st n p)
theorem It.tup{K:PySem.W.Frag}{a:Addr}{vs:List V}{ds:List D}(hl:ds.length=vs.length):m9 K (BJ K a) ds λH w=>cG K H a vs/\af K H w .f 0 ds vs []:=
 ⟨λi H w p hi=>⟨vs,vs[i],p.1,by simp[hl ▸ hi]⟩,λi H w x H' d p wl hd y=>by obtain⟨rfl,hx⟩:=y;obtain⟨v,hv,rv⟩:=p.2.get hd;have:=hx vs p.1;rw[hv]at this;cases this;exact⟨Mo.sE,rv,p⟩,λH w p=>⟨vs,p.1,by omega⟩,λH w H' w' p wl st=>⟨cG.go wl st p.1,af.go wl st p.2 nM⟩⟩
def qK (n:Nat):List V:=(range n).map λi=>.int (Int.ofNat i)
def cE (n:Nat):List D:=(range n).map λi=>.int (Int.ofNat i)
theorem eY(n:Nat):(cE n).length=n:=by simp[cE]
theorem GN(n:Nat):(qK n).length=n:=by simp[qK]
theorem It.range:m9 K (yU 0 n) (cE n) λ_ _=>True:=by
 refine⟨λi H w _ hi=>by rw[eY]at hi;exact hi,λi H w x H' d _ _ hd y=>?_,λH w _=>by rw[eY];exact Qj _,λ_ _ _ _ _ _ _=>trivial⟩;have hi:i<n:=by have:=(QN.mp hd).1;rw[eY]at this;exact this
 have e:x=.int (0+(i:Int)):=y.2;have ed:d=.int (Int.ofNat i):=by
  have:(cE n)[i]? = some (.int (Int.ofNat i)):=by simp[cE,hi]
  rw[hd]at this;exact QL this
 obtain⟨rfl,_⟩:=y;subst ed;rw[e,Int.zero_add];exact⟨Mo.sE,.int _,trivial⟩
theorem zN{w:Wn}{o:Ow}:∀ (ns:List Int),af K H w o 0 (ns.map D.int) (ns.map V.int) []
 | []=>.nil
 | n::r=>.cons (F:=[]) (G:=[]) (.int n) (zN r) nM
theorem Tf{w:Wn}{o:Ow}(n:Nat):af K H w o 0 (cE n) (qK n) []:=by have:=zN (K:=K) (H:=H) (w:=w) (o:=o) ((range n).map Int.ofNat);rw[QV,QV]at this;exact this
section
variable {X:Cx}{tg a b c e:Expr}{fa fb fc f:aF}{ga gb gc:cS}{pos p:Pos}
@[simp] def cL (g:cK):kU:=λρ=>match g ρ with
 | some ([.int n],ρ1)=>if -1000<=n/\n<=1000 then some (cE n.toNat,ρ1)else none
 | _=>none
theorem fO{g:cK}(hm:X.mg "range" = none)(ha:iq X [a] g)(hg:Gl X "range":=by rfl)(hs:starEach [a] X.env=[(false,eval a X.env)]:=by rfl):uG X tg (.Call (.Name "range" p) [a] [] pos) (cL g):=⟨have ha:=ha.o;PI.imp (O7 hg hm ha hs) λσ H R aj=>by
 obtain⟨ρ,w,t,ds,ρ',gd,ee,k⟩:=aj;unfold cL at ee;split at ee;next n ρ1 h1=>
  split at ee;next hn=>
   cases ee;refine⟨ρ,w,t,[.int n],_,gd,h1,λvs H1 w1 g1 aS r1=>?_⟩;have hv:vs=[.int n]:=by
    have l:=r1.length
    match vs,l with
    | [v],_=>
     obtain⟨v',h1,h2⟩:=r1.get (i:=0) rfl;cases h1;rw[f_ h2]
   subst hv;refine⟨n,rfl,by omega,by omega,k _ _ H1 w1 g1 aS It.range trivial ?_⟩;rw[eY];exact pf (by omega)
  ·cases ee
 ·cases ee⟩
def Tg (K:PySem.W.Frag)(tl:TE):TI:=λσ H R=>tl σ H λx H1=>∃ a,x=.ref a/\(((∃ xs,cW K H1 a xs)/\R (BI K a) H1)\/((∃ xs,cG K H1 a xs)/\R (BJ K a) H1))
theorem Th{l:Expr}{tl:TE}(hl:PE X l tl):PI X tg l (Tg X.K tl):=by
 intro Tk s σ H R I h;refine bg (hl Tk s σ H _ I h) λv s1 ⟨x,H1,I1,r1,q1⟩=>?_;obtain⟨a,e,q⟩:=q1;subst e;cases r1;rcases q with⟨⟨xs,hq⟩,q⟩|⟨⟨xs,hq⟩,q⟩
 ·obtain⟨aq,rv,p,hz⟩:=I1.list hq;refine Yr p.isList ?_;refine⟨s1.heap.objs.size,[s1.heap.objs.size],_,_,H1,rfl,I1.kept (t':=s1.toks) λb o e=>Qd _ e,OY a _,⟨_,Qp _ rfl,rfl,rfl⟩,λb hb=>?_,q⟩;have e:b=s1.heap.objs.size:=by simpa using hb
  subst e;exact I1.o5 (Qj _) (I1.aG.fresh (Qj _))
 ·obtain⟨aq,rv,p,hz⟩:=I1.tuple hq;refine JK (show s1.heap.IsTuple a aq.toArray from p) ?_;refine⟨s1.heap.objs.size,[s1.heap.objs.size],_,_,H1,rfl,I1.kept (t':=s1.toks) λb o e=>Qd _ e,OZ a _,⟨_,Qp _ rfl,rfl,rfl⟩,λb hb=>?_,q⟩;have e:b=s1.heap.objs.size:=by simpa using hb
  subst e;exact I1.o5 (Qj _) (I1.aG.fresh (Qj _))
@[simp] def cz (f:aF):kU:=λρ=>match f ρ with
 | some (.lst ds,_,ρ1)=>if ds.length<=1000 then some (ds,ρ1)else none
 | some (.tup ds,_,ρ1)=>if ds.length<=1000 then some (ds,ρ1)else none
 | _=>none
theorem fH(ha:QD X a fa):uG X tg a (cz fa):=⟨have ha:=ha.o;PI.imp (Th ha) λσ H R aj=>by
 obtain⟨ρ,w,t,ds,ρ',gd,ee,k⟩:=aj;unfold cz at ee;split at ee;next eG q ρ1 h1=>
  split at ee;next hl=>
   cases ee;refine⟨ρ,w,t,.lst ds,q,ρ',gd,h1,λv H1 w1 F g1 aS r1=>?_⟩;have r0:=r1.drop (o:=.f) (Qj t);cases r0 with
   | kl h r=>exact⟨_,rfl,.inl ⟨⟨_,h.sq⟩,k _ _ H1 (dv t w1) g1.drop (aS.drop gd.wt) (It.list r.length) ⟨.inl h,r⟩ (pf hl)⟩⟩
   | shr h n r=>exact⟨_,rfl,.inl ⟨⟨_,.inl h⟩,k _ _ H1 (dv t w1) g1.drop (aS.drop gd.wt) (It.list r.length) ⟨.inr ⟨h,n⟩,r⟩ (pf hl)⟩⟩
  ·cases ee
 next eG q ρ1 h1=>
  split at ee;next hl=>
   cases ee;refine⟨ρ,w,t,.tup ds,q,ρ',gd,h1,λv H1 w1 F g1 aS r1=>?_⟩;have r0:=r1.drop (o:=.f) (Qj t);cases r0 with
   | tup h r=>exact⟨_,rfl,.inr ⟨⟨_,cG.of h⟩,k _ _ H1 (dv t w1) g1.drop (aS.drop gd.wt) (It.tup r.length) ⟨cG.of h,r⟩ (pf hl)⟩⟩
  ·cases ee
 ·cases ee⟩
end
abbrev gE:=D->aW->Option aW
def zO (K:PySem.W.Frag)(b:Nat)(pt:gE):TG:=λv σ H Q=>∃ d ρ w t ρ',Good K ρ σ H w t/\Rep K H w .f 0 d v []/\pt d ρ=some ρ'/\∀ aO H' w',aO.length=σ.length->(∀ i,i<b->aO[i]? = σ[i]?)->Good K ρ' aO H' w' t->Go H w H' w'->Q aO H'
theorem PG.imp{t t':TG}(h:PG X tg t)(i:∀ v σ H Q,t' v σ H Q->t v σ H Q):PG X tg t':=λTk s σ H v u Q I r q=>h Tk s σ H v u Q I r (i v σ H Q q)
abbrev Ti (X:Cx)(b:Nat)(tg:Expr)(pt:gE):Prop:=PG X tg (zO X.K b pt)
structure uH (X:Cx) (b:Nat) (e:Expr) (f:gE):Prop where mk::o:Ti X b e f
@[simp] def aA (i:Nat):gE:=λd ρ=>if i<ρ.length then some (ρ.set i (some (d,c_ d)))else none
theorem Good.CL{ρ:aW}{σ:St}{w:Wn}{t:Nat}{d:D}(g:Good K ρ σ H w t)(hi:i<σ.length)(r:Rep K H w .f 0 d v []) :
  Good K (ρ.set i (some (d,c_ d))) (σ.set i (some v)) H (j4 i w) t/\Go H w H (j4 i w):=by
 have st:dY H w H (j4 i w):=λa x h n=>⟨sm h,zD n⟩;refine⟨⟨⟨λa o h=>g.wl a o (uA h).1,g.wl.tb⟩,λa j h=>by rw[Zj];exact g.ws a j (uA h).1,λa j h=>g.wt a j (uA h).1,by rw[Zj,Zj];exact g.len,λj d' q' e'=>?_⟩,⟨st,λa o h n=>⟨rfl,zE h (n i)⟩⟩⟩;by_cases hj:i=j
 ·subst hj;rw[QZ (by rw[g.len];exact hi)]at e';cases e';exact⟨v,[],QZ hi,(Rep.go g.wl st r nM:Rep K H (j4 i w) (.s i) 0 d v []).j0⟩
 ·rw[Q3 hj]at e';obtain⟨v',F,h1,h2⟩:=g.slot j d' q' e';exact⟨v',F,by rw[Q3 hj];exact h1,Rep.go g.wl st h2 λa m=>⟨rfl,zE (h2.aM a m) (λz=>hj (by cases z;rfl))⟩⟩
theorem bN{b:Nat}{x:Str}{pos:Pos}(hb:b<=i)(hN:X.N.Nodup)(hi:X.N[i]? = some x)(hx:Loc X.env.scope x)(hf:X.fn x=true\/X.env.scope.names.lookup x=some .local:=by first|exact .inl rfl|exact .inr rfl):uH X b (.Name x pos) (aA i):=⟨PG.imp (OJ hN hi hx hf) λv σ H Q aj=>by
 obtain⟨d,ρ,w,t,ρ',g,r,e,k⟩:=aj;unfold aA at e;split at e;next hl=>
  cases e;obtain⟨a1,a2⟩:=g.CL (by rw[<- g.len];exact hl) r;exact k _ _ _ (by rw[Zj]) (λj hj=>Q3 (by omega)) a1 a2
 ·cases e⟩
def fP (pt:gE)(body:aI):List D->aW->Option Out
 | [],ρ=>some (.nx ρ)
 | d::ds,ρ=>match pt d ρ with
  | none=>none
  | some ρ1=>match body ρ1 with
   | some (.nx ρ2)=>fP pt body ds ρ2
   | some (.ct ρ2)=>fP pt body ds ρ2
   | some (.bk ρ2)=>some (.nx ρ2)
   | o=>o
@[simp] def d3 (it:kU)(pt:gE)(body:aI):aI:=λρ=>match it ρ with
 | some (ds,ρ1)=>fP pt body ds ρ1
 | none=>none
theorem af.mi{w w':Wn}{ds:List D}(r:af K H w .f 0 ds vs [])(wl:WL K w H)(st:dY H w H' w'):af K H' w' .f 0 ds vs []:=af.go wl st r nM
theorem Rep.mi{w w':Wn}{ds:D}{vs:V}(r:Rep K H w .f 0 ds vs [])(wl:WL K w H)(st:dY H w H' w'):Rep K H' w' .f 0 ds vs []:=Rep.go wl st r nM
theorem af.qL{w:Wn}:∀ {ds:List D} {vs:List V} (i:Nat),af K H w .f 0 ds vs []->af K H w .f 0 (ds.drop i) (vs.drop i) []
 | _,_,0,r=>r
 | ds,vs,i+1,r=>by
  generalize hF:([]:List Addr)=F at r;cases r with
  | nil=>exact .nil
  | cons r s _=>
   have h2:=s.zero;have h1:=r.zero;subst h2;subst h1;exact af.qL i s
theorem Good.more{ρ:aW}{σ:St}{w:Wn}{t:Nat}(g:Good K ρ σ H w t)(hm:Mo K H H'):Good K ρ σ H' w t/\Go H w H' w:=by
 have h:=hm.mo;have st:dY H w H' w:=λa x e n=>⟨sm (h a x e),n⟩;have kp:∀ a o,w a=some o->H' a=H a:=λa o e=>by obtain⟨vs,q⟩:=g.wl a o e;rw[q,h a _ q]
 refine⟨⟨⟨λa o e=>?_,hm.tb g.wl.tb⟩,g.ws,g.wt,g.len,λi d q e=>?_⟩,st,λa o e _=>⟨kp a o e,e⟩⟩
 ·obtain⟨vs,q⟩:=g.wl a o e;exact⟨vs,h a _ q⟩
 ·obtain⟨v,F,h1,h2⟩:=g.slot i d q e;exact⟨v,F,h1,Rep.go g.wl st h2 λa m=>⟨kp a _ (h2.aM a m),h2.aM a m⟩⟩
theorem gF{iter:Expr}{body:List Stmt}{it:kU}{pt:gE}{s:aI}{pos:Pos}(hp:PassesOwn (model X.prog X.w) X.A X.env X.xe)(hc:X.calm=true)(hi:uG X tg iter it)(hg:uH X 0 tg pt)(hb:iI X body s)(hs:∀ x,foldedSetIterable iter X.env x=pure x:=by intro _;rfl):lN X (.For tg iter body [] pos) (d3 it pt s):=⟨have hi:=hi.o;have hg:=hg.o;have hb:=hb.o;PS.imp (O9 hp hc hi hg hb hs) λD σ H aj=>by
 obtain⟨ρ,w,o,g,ee,k⟩:=aj;unfold d3 at ee;split at ee;next ds ρ1 h1=>
  refine⟨ρ,w,0,ds,ρ1,g,h1,λJ P H1 w1 g1 aS ok p1 hl=>?_⟩;refine⟨λi m aO H'=>m=ds.length-i/\i<=ds.length/\aO.length=σ.length/\∃ ρ' w',Good X.K ρ' aO H' w' 0/\P H' w'/\fP pt s (ds.drop i) ρ'=some o/\ou X.K D σ.length H' w' o,
   ⟨ds.length,by simp,Q6 _,rfl,ρ1,w1,g1,p1,ee,k.trans aS⟩,?_⟩
  rintro i m aO H' ⟨rfl,sF,ef,ρ',w',g',p',e',k'⟩;by_cases dR:i<ds.length
  ·refine .inr ⟨ok.go i H' w' p' dR,λmJ H2=>ds.length-(i+1)=ds.length-(i+1)/\i+1<=ds.length/\mJ.length=σ.length/\∃ ρ2 w2,Good X.K ρ2 mJ H2 w2 0/\P H2 w2/\fP pt s (ds.drop (i+1)) ρ2=some o/\ou X.K D σ.length H2 w2 o,
    λmJ H2 n2=>⟨ds.length-(i+1),by omega,n2⟩,λx H2 hy=>?_⟩
   obtain⟨mo,rx,p2⟩:=ok.rO i H' w' x H2 ds[i] p' g'.wl (Qb dR) hy;obtain⟨g2,cD⟩:=g'.more mo;have ed:ds.drop i=ds[i]::ds.drop (i+1):=Vr dR;rw[ed]at e';unfold fP at e';split at e'
   ·cases e'
   next gG h3=>
    refine⟨ds[i],ρ',w',0,gG,g2,rx,h3,λuu H4 w4 l4 _ g4 pH=>?_⟩;have p4:=ok.st _ _ _ _ p2 g2.wl pH.cI;have nx:∀ {ju:aW},fP pt s (ds.drop (i+1)) ju=some o->∀ kz H5 w5,kz.length=uu.length->Good X.K ju kz H5 w5 0->Go H4 w4 H5 w5->ds.length-(i+1)=ds.length-(i+1)/\i+1<=ds.length/\kz.length=σ.length/\∃ ρ2 w2,Good X.K ρ2 kz H5 w2 0/\P H5 w2/\fP pt s (ds.drop (i+1)) ρ2=some o/\ou X.K D σ.length H5 w2 o:=λ{ju} e5 kz H5 w5 l5 g5 jG=>
     ⟨rfl,dR,by rw[l5,l4,ef],ju,w5,g5,ok.st _ _ _ _ p4 g4.wl jG.cI,e5,k'.trans ((cD.trans pH).trans jG)⟩
    cases h6:s gG with
    | none=>rw[h6]at e';cases e'
    | some o6=>
     rw[h6]at e';refine⟨gG,w4,o6,g4,h6,?_⟩;cases o6 with
     | nx ju=>exact nx e'
     | ct ju=>exact nx e'
     | bk ju=>
      cases e';exact λkz H5 w5 l5 g5 jG=>k' kz H5 w5 (by rw[l5,l4,ef]) g5 ((cD.trans pH).trans jG)
     | rt d q=>
      cases e';exact λv H5 w5 F CM jG r5=>k' v H5 w5 F CM ((cD.trans pH).trans jG) r5
  ·have bS:i=ds.length:=Nat.le_antisymm sF (Nat.not_lt.mp dR);subst bS;refine .inl ⟨ok.stop H' w' p',?_⟩;have ed:ds.drop ds.length=[]:=by simp
   rw[ed]at e';cases e';exact k' aO H' w' ef g' Go.refl
 ·cases ee⟩
@[simp] def m_ (n:Nat)(ds:List D):aW:=ds.map (λd=>some (d,c_ d))++replicate (n-ds.length) none
@[simp] def bT (n:Nat)(body:aI):List D->OD:=λds=>match body (m_ n ds)with
 | some (.rt d q)=>some (d,q)
 | some (.nx _)=>some (.bK,9)
 | _=>none
theorem GO{w:Wn}{ds:List D}(hw:∀ a o,w a=some o->o=.f)(wl:WL K w H)(r:af K H w .f 0 ds vs []):Good K (m_ N.length ds) (start N vs) H w 0:=by
 refine⟨wl,(λa i e=>by cases (hw a _ e)),(λa i e=>by cases (hw a _ e)),?_,λi d q e=>?_⟩
 ·unfold m_ L2.start;rw[Qn,Qn,Qc,Qc,ZK,ZK,r.length]
 ·unfold m_ at e;by_cases hi:i<ds.length
  ·rw[Q1 (by simpa using hi),Qm]at e;cases h:ds[i]? with
   | none=>rw[h]at e;cases e
   | some d'=>
    rw[h]at e;cases e;obtain⟨v,hv,rv⟩:=r.get h;refine⟨v,[],?_,(rv.any wl:Rep K H w (.s i) 0 d v []).j0⟩;unfold L2.start;rw[Q1 (by rw[Qc,<- r.length];exact hi),Qm,hv];rfl
  ·rw[Zs (by simpa using hi),Ja]at e;split at e<;>cases e
theorem Tj{body:aI}{Q:VK}(h:lL K n (bT N.length body) vs H Q E):zK K body { nx:=λ_ H'=>Q .bK H',rt:=Q } (start N vs) H:=by
 obtain⟨hn,ds,w,r,q,hw,wl,rs,e,k⟩:=h;unfold bT at e;split at e;next d q' h1=>
  cases e;exact⟨_,w,_,GO hw wl rs,h1,λv H' w' F wy iG r'=>k v H' w' F iG wy r'⟩
 next ρ' h1=>
  cases e;exact⟨_,w,_,GO hw wl rs,h1,λaO H' w' _ g' iG=>k .bK H' w' [] iG g'.wl .bK⟩
 ·cases e
theorem GP{P:Program}{wd:World}{mg:Str->Option Value}{base:Heap}{x qual:Str}{st:Stmt}{f:Addr}{k:Nat}{body:aI}(F:mV K x qual st f fd)(S:ag N ps (bB st))
  (h:∀ (cO:Value) (A:Around) (outer:List Env) (s:Shared) (H:Hp) (E:XK),bA k (A.deeper (envOfC qual (bB st) s.heap.objs.size f cO))->zL (mP jZ P wd K mg base N qual (bB st) f cO A outer s H E).n8 (kR st) body) :
  eU P wd K mg base jZ (k+1) f fd ps (lL K ps.length (bT N.length body)):=
 F.ok S (λvs H Q E h=>h.1) λcO A outer s H vs Q E hr oe=>⟨_,h cO A outer s H E hr,Tj oe⟩
def jH (k:Nat)(pt:gE)(tt:cS)(te:aF)(deep:Bool):List D->aW->Option (List D×aW)
 | [],ρ=>some ([],ρ)
 | d::ds,ρ=>match pt d (ρ++replicate k none)with
  | none=>none
  | some ρ1=>match tt ρ1 with
   | none=>none
   | some (b,ρ2)=>if b=true then(match te ρ2 with
     | none=>none
     | some (v,q,gG)=>if deep=true/\v.cR=true/\q≠1 then none else match jH k pt tt te deep ds (gG.take ρ.length)with
      | none=>none
      | some (vs,zP)=>some (v::vs,zP))
    else jH k pt tt te deep ds (ρ2.take ρ.length)
@[simp] def dz (k:Nat)(it:kU)(pt:gE)(tt:cS)(te:aF)(deep:Bool):aF:=λρ=>match it ρ with
 | some (ds,ρ1)=>match jH k pt tt te deep ds ρ1 with
  | some (vs,ρ2)=>some (.lst vs,if deep=true then 2 else 1,ρ2)
  | none=>none
 | none=>none
@[simp] def di:cS:=λρ=>some (true,ρ)
theorem Good.ext{ρ:aW}{σ:St}{w:Wn}{t:Nat}(g:Good K ρ σ H w t)(k:Nat):Good K (ρ++replicate k none) (σ++replicate k none) H w t:=by
 refine⟨g.wl,λa i e=>by rw[Qn];exact QB (g.ws a i e) (Jk _ _),g.wt,by rw[Qn,Qn,ZK,ZK,g.len],λi d q e=>?_⟩;by_cases hi:i<ρ.length
 ·rw[Q1 hi]at e;obtain⟨v,F,h1,h2⟩:=g.slot i d q e;exact⟨v,F,by rw[Q1 (by rw[<- g.len];exact hi)];exact h1,h2⟩
 ·rw[Zs (by omega),Ja]at e;split at e<;>cases e
def nc (n:Nat)(w:Wn):Wn:=λa=>match w a with
 | some (.s i)=>if n<=i then none else some (.s i)
 | x=>x
theorem Tn{w:Wn}(h:w a=none):nc n w a=none:=by unfold nc;rw[h]
theorem To{w:Wn}(h:w a=some (.s i))(hi:i<n):nc n w a=some (.s i):=by unfold nc;rw[h];exact Ql (by omega)
theorem Tp{w:Wn}{o:Ow}(h:w a=some o)(hn:∀ i,o ≠ .s i):nc n w a=some o:=by
 unfold nc;rw[h];cases o with
 | s i=>exact absurd rfl (hn i)
 | t i=>rfl
 | f=>rfl
theorem CN{w:Wn}{o:Ow}(h:nc n w a=some o):w a=some o/\∀ i,o=.s i->i<n:=by
 unfold nc at h;cases e:w a with
 | none=>rw[e]at h;cases h
 | some o'=>
  rw[e]at h;cases o' with
  | t i=>cases h;exact⟨rfl,λi z=>nomatch z⟩
  | f=>cases h;exact⟨rfl,λi z=>nomatch z⟩
  | s i=>
   dsimp only at h;split at h
   ·cases h
   ·cases h;exact⟨rfl,λj z=>by cases z;omega⟩
theorem Good.cut{ρ:aW}{σ τ:St}{w:Wn}{t:Nat}(g:Good K ρ (σ++τ) H w t):Good K (ρ.take σ.length) σ H (nc σ.length w) t/\Go H w H (nc σ.length w):=by
 have st:dY H w H (nc σ.length w):=λa x h n=>⟨sm h,Tn n⟩;refine⟨⟨⟨λa o e=>g.wl a o (CN e).1,g.wl.tb⟩,λa i e=>(CN e).2 i rfl,λa i e=>g.wt a i (CN e).1,?_,λi d q e=>?_⟩,⟨st,λa o e n=>⟨rfl,Tp e n⟩⟩⟩
 ·rw[Zi,g.len,Qn];omega
 ·by_cases hi:i<σ.length
  ·rw[Z7 hi]at e;obtain⟨v,F,h1,h2⟩:=g.slot i d q e;rw[Q1 hi]at h1;exact⟨v,F,h1,Rep.go g.wl st h2 λa m=>⟨rfl,To (h2.aM a m) hi⟩⟩
  ·rw[Vf (by omega)]at e;cases e
theorem Tq{σ aO τ:St}(l:aO.length=(σ++τ).length)(h:∀ i,i<σ.length->aO[i]? = (σ++τ)[i]?):∃ GQ,aO=σ++GQ/\GQ.length=τ.length:=by
 refine⟨aO.drop σ.length,?_,by rw[Z1,l,Qn];omega⟩;have e:aO.take σ.length=σ:=by
  apply Zo;intro i;by_cases hi:i<σ.length
  ·rw[Z7 hi,h i hi,Q1 hi]
  ·rw[Vf (by omega),QG (by omega)]
 conv=>lhs;rw[<- JY σ.length aO,e]
def dq (deep:Bool):Nat:=if deep=true then 1 else 0
def j6 (deep:Bool)(t:Nat)(w:Wn):Wn:=λa=>if w a=some (.t (t+1))then(if deep=true then some (.t t)else none)else w a
theorem Tr{ρ:aW}{σ:St}{w:Wn}{t q:Nat}{d:D}(g:Good K ρ σ H w (t+2))(r:Rep K H w (.t (t+1)) q d v F)(hq:¬ (deep=true/\d.cR=true/\q≠1)) :
  Good K ρ σ H (j6 deep t w) (t+1)/\(∃ F',Rep K H (j6 deep t w) (.t t) (dq deep) d v F'/\∀ a∈F',w a=some (.t (t+1)))/\dY H w H (j6 deep t w)/\(∀ a o,w a=some o->o ≠ .t (t+1)->j6 deep t w a=some o):=by
 have hN:∀ a,w a=none->j6 deep t w a=none:=λa e=>by unfold j6;rw[e];rfl
 have hO:∀ a o,w a=some o->o ≠ .t (t+1)->j6 deep t w a=some o:=λa o e n=>by unfold j6;rw[Ql (by rw[e];exact λz=>n (QL z))];exact e
 have hI:∀ a o,j6 deep t w a=some o->(w a=some (.t (t+1))/\o=.t t)\/(w a=some o/\o ≠ .t (t+1)):=λa o e=>by
  unfold j6 at e;split at e
  ·split at e
   ·cases e;exact .inl ⟨by assumption,rfl⟩
   ·cases e
  ·rename_i n;exact .inr ⟨e,λz=>n (by rw[e,z])⟩
 have st:dY H w H (j6 deep t w):=λa x h n=>⟨sm h,hN a n⟩;refine⟨⟨⟨λa o e=>?_,g.wl.tb⟩,λa i e=>?_,λa i e=>?_,g.len,λi d' q' e'=>?_⟩,?_,st,hO⟩
 ·rcases hI a o e with⟨z,_⟩|⟨z,_⟩<;>exact g.wl a _ z
 ·rcases hI a _ e with⟨_,z⟩|⟨z,_⟩
  ·cases z
  ·exact g.ws a i z
 ·rcases hI a _ e with⟨_,z⟩|⟨z,n⟩
  ·cases z;exact ZG _
  ·have:=g.wt a i z;have:i≠t+1:=λz=>n (by rw[z]);omega
 ·obtain⟨v',F',h1,h2⟩:=g.slot i d' q' e';exact⟨v',F',h1,Rep.go g.wl st h2 λa m=>⟨rfl,hO a _ (h2.aM a m) (λz=>nomatch z)⟩⟩
 ·cases deep with
  | false=>
   refine⟨[],Rep.freeze hN r λa m=>?_,λ_ z=>nomatch z⟩;unfold j6;rw[Qi (r.aM a m)];rfl
  | true=>
   have hT:∀ a,w a=some (.t (t+1))->j6 true t w a=some (.t t):=λa e=>by unfold j6;rw[Qi e];rfl
   cases hl:d.cR with
   | false=>
    obtain⟨_,hr⟩:=r.dC hl;exact⟨[],Rep.go g.wl st (hr 1) nM,λ_ z=>nomatch z⟩
   | true=>
    have:q=1:=by
     by_cases h:q=1
     ·exact h
     ·exact absurd ⟨rfl,hl,h⟩ hq
    subst this;exact⟨F,Rep.go g.wl st r λa m=>⟨rfl,hT a (r.aM a m)⟩,r.aM⟩
theorem Ts{ρ:aW}{σ:St}{w1:Wn}{t q:Nat}{ds:List D}(g:Good K ρ σ H1 w1 (t+1))(hp:H1 p=none)(r:af K H1 w1 (.t t) q ds vs F) :
  Good K ρ σ (upd H1 p (.lst vs)) (kS p (.t t) w1) (t+1)/\Go H1 w1 (upd H1 p (.lst vs)) (kS p (.t t) w1)/\Rep K (upd H1 p (.lst vs)) (kS p (.t t) w1) (.t t) (q+1) (.lst ds) (.ref p) (p::F):=by
 have ne:∀ a x,H1 a=some x->a≠p:=λa x e=>gC e hp;have nw:∀ a o,w1 a=some o->a≠p:=λa o e=>by obtain⟨vs,q⟩:=g.wl a o e;exact ne a _ q
 have st:dY H1 w1 (upd H1 p (.lst vs)) (kS p (.t t) w1):=λa x e n=>⟨sm (by rw[a_ (ne a x e)];exact e),by rw[i7 (ne a x e)];exact n⟩;refine⟨⟨⟨λa o e=>?_,g.wl.tb.upd rfl (.inl hp)⟩,λa i e=>?_,λa i e=>?_,g.len,λi d q e=>?_⟩,⟨st,λa o e _=>⟨a_ (nw a o e),(i7 (nw a o e)).trans e⟩⟩,?_⟩
 ·by_cases h:a=p
  ·subst h;exact⟨.l vs,fD⟩
  ·rw[i7 h]at e;obtain⟨us,q⟩:=g.wl a o e;exact⟨us,by rw[a_ h];exact q⟩
 ·by_cases h:a=p
  ·subst h;rw[pC]at e;cases e
  ·rw[i7 h]at e;exact g.ws a i e
 ·by_cases h:a=p
  ·subst h;rw[pC]at e;cases e;exact ZG _
  ·rw[i7 h]at e;exact g.wt a i e
 ·obtain⟨v,F,h1,h2⟩:=g.slot i d q e;exact⟨v,F,h1,Rep.go g.wl st h2 λa m=>⟨a_ (nw a _ (h2.aM a m)),(i7 (nw a _ (h2.aM a m))).trans (h2.aM a m)⟩⟩
 ·exact .own fD pC (af.go g.wl st r λa m=>⟨a_ (nw a _ (r.aM a m)),(i7 (nw a _ (r.aM a m))).trans (r.aM a m)⟩) λm=>absurd rfl (nw p _ (r.aM p m))
theorem GR{k:Nat}{it:kU}{pt:gE}{tt:cS}{te:aF}:∀ σ H Q,tD K (dz k it pt tt te deep) σ H Q->zj k (zM K it) (zO K σ.length pt) (sy K tt) (tD K te) σ H Q:=λσ H Q aj=>by
 obtain⟨ρ,w,t,r',q,ρ',g,ee,kk⟩:=aj;unfold dz at ee;split at ee;next ds ρ1 h1=>
  split at ee;next all ρ2 h2=>
   cases ee;refine⟨ρ,w,t,ds,ρ1,g,h1,λJ P H1 w1 g1 aS ok p1 hl=>?_⟩;refine⟨λi m ys H'=>m=ds.length-i/\i<=ds.length/\ys.length<=i/\∃ gG w3 zs F bp,Good K gG σ H' w3 (t+1)/\Go H w H' w3/\P H' w3/\af K H' w3 (.t t) (dq deep) zs ys F /\
     jH k pt tt te deep (ds.drop i) gG=some (bp,ρ')/\zs++bp=all,
    ⟨ds.length,by simp,Q6 _,Qj _,ρ1,w1,[],[],all,g1.up,aS,p1,.nil,h2,rfl⟩,?_⟩
   rintro i m ys H' ⟨rfl,sF,hys,gG,w3,zs,F,bp,g0,mi,p0,GS,e3,ez⟩;have hsz:ys.length<sizeLine:=by omega
   refine⟨Z6 hsz,?_⟩;by_cases dR:i<ds.length
   ·refine .inr ⟨ok.go i H' w3 p0 dR,hsz,λx H2 hy=>?_⟩;obtain⟨mo,rx,p3⟩:=ok.rO i H' w3 x H2 ds[i] p0 g0.wl (Qb dR) hy;obtain⟨g3,cD⟩:=g0.more mo;have ng:=mi.trans cD;have rz:=GS.gone g0.wl cD;have ed:ds.drop i=ds[i]::ds.drop (i+1):=Vr dR;rw[ed]at e3;unfold jH at e3;split at e3
    ·cases e3
    next zP h4=>
     split at e3
     ·cases e3
     next b ju h5=>
      have gx:=g3.ext k;have GU:gG.length=σ.length:=g3.len;refine⟨ds[i],_,w3,t+1,zP,gx,rx,h4,λuu H4 w4 l4 s4 g4 pH=>?_⟩;obtain⟨τ,rfl,Tt⟩:=Tq l4 s4;refine⟨⟨τ,rfl,by rw[Tt,ZK]⟩,zP,w4,t+1,b,ju,g4,h5,λH5 w5 g5 jG=>?_⟩;have p5:=ok.st _ _ _ _ (ok.st _ _ _ _ p3 g3.wl pH.cI) g4.wl jG.cI;have z5:af K H5 w5 (.t t) (dq deep) zs ys F:=(rz.gone g3.wl pH).gone g4.wl jG;cases b with
      | false=>
       rw[Ql (by decide)]at e3;dsimp only;rw[Ql (by decide)];obtain⟨gc,sG⟩:=g5.cut;rw[GU]at e3;refine⟨ds.length-(i+1),by omega,rfl,dR,by omega,_,_,zs,F,bp,gc,(ng.trans pH).trans (jG.trans sG),ok.st _ _ _ _ p5 g5.wl sG.cI,z5.gone g5.wl sG,e3,ez⟩
      | true=>
       rw[Qi rfl]at e3;dsimp only;rw[Qi rfl];split at e3
       ·cases e3
       next d6 q6 Tu h6=>
        split at e3
        ·cases e3
        next Tv=>
         split at e3
         ·cases e3
         next Tw ρ7 h7=>
          cases e3;refine⟨ju,w5,t+1,d6,q6,Tu,g5,h6,λv H6 w6 F6 g6 CO r6=>?_⟩;obtain⟨gs,⟨F',rs,Tx⟩,CP,GV⟩:=Tr g6 r6 Tv;obtain⟨gc,sG⟩:=gs.cut;rw[GU]at h7;have GX:=z5.gone g5.wl CO;have zF:∀ a∈F,w6 a=some (.t t):=GX.aM;have Tz:af K H6 (j6 deep t w6) (.t t) (dq deep) zs ys F:=af.go g6.wl CP GX λa m=>⟨rfl,GV a _ (zF a m) (by intro z;cases z)⟩;have TC:Go H w H6 (j6 deep t w6):=by have go:Go H w H6 w6:=(ng.trans pH).trans (jG.trans CO);refine⟨go.cI.trans CP,λa o h n=>⟨(go.keep a o h n).1,GV a o (go.keep a o h n).2 λz=>?_⟩⟩;subst z;have:=g.wt a _ h;omega
          refine⟨ds.length-(i+1),by omega,rfl,dR,by rw[Qn];simp;omega,_,_,zs++[d6],F++F',Tw,gc,TC.trans sG,ok.st _ _ _ _ (ok.st _ _ _ _ p5 g5.wl CO.cI |> λq=>ok.st _ _ _ _ q g6.wl CP) gs.wl sG.cI,
           ?_,h7,by rw[Jb];exact ez⟩
          refine(af.snoc rs Tz λa m m'=>?_).gone gs.wl sG;have h1:=zF a m;rw[Tx a m']at h1;cases h1
   ·have bS:i=ds.length:=Nat.le_antisymm sF (Nat.not_lt.mp dR);subst bS;refine .inl ⟨ok.stop H' w3 p0,λp hp=>?_⟩;have ed:ds.drop ds.length=[]:=by simp
    rw[ed]at e3;cases e3;rw[ZM]at ez;subst ez;obtain⟨a1,a2,a3⟩:=Ts g0 hp GS;refine kk _ _ _ (p::F) a1 (mi.trans a2) ?_;cases deep<;>exact a3
  ·cases ee
 ·cases ee
section
variable {X:Cx}{k:Nat}{N':List Str}{scope:Scope}{elt tg iter:Expr}{ifs:List Expr}{pos:Pos}{it:kU}{pt:gE}{tt:cS}{te:aF}
abbrev TF (X:Cx)(ifs:List Expr)(f:cS):Prop:=ur X ifs (sy X.K f)
structure pI (X:Cx) (e:List Expr) (f:cS):Prop where mk::o:TF X e f
theorem jv:pI X [] di:=⟨λTk s σ H Q I aj=>by obtain⟨ρ,w,t,b,ρ',gd,ee,k⟩:=aj;cases ee;exact Sd Tk s σ H Q I (k H w gd Go.refl)⟩
theorem mj{c:Expr}{g:cS}(h:jt X c g):pI X [c] g:=⟨have h:=h.o;Se h⟩
theorem gU(deep:Bool)(hc:X.calm=true)(S:cB X k N' scope)(hi:uG X tg iter it)(hg:∀ C s H fp,uH (gQ X N' scope C s H fp) X.N.length tg pt)(ht:∀ C s H fp,pI (gQ X N' scope C s H fp) ifs tt)(he:∀ C s H fp,QD (gQ X N' scope C s H fp) elt te)(hs:∀ x,foldedSetIterable iter X.env x=pure x:=by intro _;rfl):QD X (.ListComp elt [⟨tg,iter,ifs,0⟩] scope pos) (dz k it pt tt te deep):=⟨have hi:=hi.o;have hg:=λC s H fp=>(hg C s H fp).o;have ht:=λC s H fp=>(ht C s H fp).o;have he:=λC s H fp=>(he C s H fp).o;by intro Tk s σ H Q I h;have:=GR σ H Q h;rw[I.len]at this;exact Sv (N':=N') hc S hi hg ht he hs Tk s σ H Q I this⟩
theorem sH{y:Str}{py mX:Pos}(deep:Bool)(hN:X.N.Nodup)(hy:X.N[i]? = some y)(hx:Loc X.env.scope y)(Cs:swapsWith (.ListComp elt [⟨tg,iter,ifs,0⟩] scope pos) (some (.Name y py)) mX.line X.env=pure true)(hc:X.calm=true)(S:cB X k N' scope)(hi:uG X tg iter it)(hg:∀ C s H fp,uH (gQ X N' scope C s H fp) X.N.length tg pt)(ht:∀ C s H fp,pI (gQ X N' scope C s H fp) ifs tt)(he:∀ C s H fp,QD (gQ X N' scope C s H fp) elt te)(hs:∀ x,foldedSetIterable iter X.env x=pure x:=by intro _;rfl)(hf:X.fn y=true\/X.env.scope.names.lookup y=some .local:=by first|exact .inl rfl|exact .inr rfl|assumption):lN X (.Assign [.Name y py] (.ListComp elt [⟨tg,iter,ifs,0⟩] scope pos) mX) (br i (dz k it pt tt te deep)):=⟨have hi:=hi.o;have hg:=λC s H fp=>(hg C s H fp).o;have ht:=λC s H fp=>(ht C s H fp).o;have he:=λC s H fp=>(he C s H fp).o;by
 intro Tk s σ H D I h;have hl:i<σ.length:=by rw[I.len];exact(QN.mp hy).1
 refine Sw (N':=N') (te:=tD X.K te) (tt:=sy X.K tt) (g:=zO X.K X.N.length pt) (wi:=zM X.K it) hN hy hx Cs hc S hi hg ht he hs hf Tk s σ H D I ?_;have z:=GL (te:=zj k (zM X.K it) (zO X.K σ.length pt) (sy X.K tt) (tD X.K te)) hl (λQ q=>GR σ H Q q) h;rw[I.len]at z;exact z⟩
end
mutual
def cn:D->PyData
 | .bK=>.none
 | .bl b=>.bool b
 | .int i=>.int i
 | .str x=>.str x
 | .tup ds=>.tuple (eJ ds)
 | .lst ds=>.list (eJ ds)
 | .gS _ _=>.none
 | .exc _=>.none
 | .ob _ _ _ _=>.none
 | .mp _ _=>.none
def eJ:List D->List PyData
 | []=>[]
 | d::ds=>cn d::eJ ds
end
mutual
def kX:D->Bool
 | .gS _ _=>false
 | .exc _=>false
 | .ob _ _ _ _=>false
 | .mp _ _=>false
 | .tup ds=>sI ds
 | .lst ds=>sI ds
 | _=>true
def sI:List D->Bool
 | []=>true
 | d::ds=>kX d&&sI ds
end
def fQ (d:D):Bool:=kX d&&SeqAt.shaped (cn d)
theorem oy{d:D}(h:fQ d=true):kX d=true:=(ZE.mp h).1
theorem oz{d:D}(h:fQ d=true):SeqAt.shaped (cn d)=true:=(ZE.mp h).2
def pJ (d e:D):Bool:=PyData.eqv (cn d) (cn e)
section
variable {X:Cx}{Tk:List (Addr×Obj)}{σ:St}{H:Hp}{s:Shared}
theorem Rep.reads(I:Inv X Tk σ H s){w:Wn}{o:Ow}:∀ {q:Nat} {d:D} {v:V} {F:List Addr} {u:Value},Rep X.K H w o q d v F->bP v u->kX d=true->∃ as,Reads s.heap u (cn d) as:=by
 intro q d v F u r;refine(Rep.rec (motive_1:=λq d v F _=>∀ u,bP v u->kX d=true->∃ as,Reads s.heap u (cn d) as) (motive_2:=λq ds vs F _=>∀ us,bc vs us->sI ds=true->∃ as,ReadsAll s.heap us (eJ ds) as) ?_ ?_ ?_ ?_ ?_ ?_ ?_ ?_ ?_ ?_ ?_ ?_ ?_ ?_ ?_ r:∀ u,bP v u->kX d=true->∃ as,Reads s.heap u (cn d) as) u
 ·intro q u ru hn;cases ru;exact⟨_,by unfold cn;exact .none⟩
 ·intro q b u ru hn;cases ru;exact⟨_,by unfold cn;exact .bool b⟩
 ·intro q i u ru hn;obtain⟨t,rfl⟩:=ru;exact⟨_,by unfold cn;exact .int i t⟩
 ·intro q x u ru hn;obtain⟨t,rfl⟩:=ru;exact⟨_,by unfold cn;exact .str x t⟩
 ·intro q a vs ds h r ih u ru hn;cases ru;obtain⟨aq,rv,p,hz⟩:=I.tuple (cG.of h);obtain⟨as,ra⟩:=ih aq rv (by unfold kX at hn;exact hn);obtain⟨ob,ho,hc,n,hd⟩:=p;exact⟨_,by unfold cn;exact .tuple ho hc hd ra⟩
 ·intro q a ks vs ds h e r ih u ru hn;cases hn
 ·intro q a nm ob v h x n u ru hn;cases hn
 ·intro q f c fo oc u1 u2 vs ds h1 h2 x r ih u ru hn;cases hn
 ·intro a vs ds h r ih u ru hn;cases ru;obtain⟨aq,rv,p,hz⟩:=I.list h.sq;obtain⟨as,ra⟩:=ih aq rv (by unfold kX at hn;exact hn);obtain⟨ob,ho,hc,n,hd⟩:=p.isList;exact⟨_,by unfold cn;exact .list ho hc hd ra⟩
 ·intro a vs ds h n0 r ih u ru hn;cases ru;obtain⟨aq,rv,p,hz⟩:=I.list (.inl h);obtain⟨as,ra⟩:=ih aq rv (by unfold kX at hn;exact hn);obtain⟨ob,ho,hc,n,hd⟩:=p.isList;exact⟨_,by unfold cn;exact .list ho hc hd ra⟩
 ·intro q a vs ds F h e r ne ih u ru hn;cases ru;obtain⟨aq,rv,p,hz⟩:=I.list (cW.of h);obtain⟨as,ra⟩:=ih aq rv (by unfold kX at hn;exact hn);obtain⟨ob,ho,hc,n,hd⟩:=p.isList;exact⟨_,by unfold cn;exact .list ho hc hd ra⟩
 ·intro a vs ds k x h i e l r ih u ru hn;cases hn
 ·intro q a vs ds k x h i e l r ih u ru hn;cases hn
 ·intro q us ru hn;cases ru;exact⟨_,by unfold eJ;exact .nil⟩
 ·intro q d v ds vs F G r s' ne pz pA us ru hn;cases ru with
  | cons rv TH=>
   unfold sI at hn;obtain⟨as,ra⟩:=pz _ rv (ZE.mp hn).1;obtain⟨bs,rb⟩:=pA _ TH (ZE.mp hn).2;exact⟨_,by unfold eJ;exact .cons ra rb⟩
end
def Is (K:PySem.W.Frag)(H:Hp)(d:D)(v:V):Prop:=∃ w o q F,Rep K H w o q d v F
def GY (K:PySem.W.Frag):R2:=λx y H Q=>∃ d e,Is K H d x/\Is K H e y/\fQ d=true/\fQ e=true/\Q (.bl (pJ d e)) H
def GZ (K:PySem.W.Frag):R2:=λx y H Q=>∃ d e,Is K H d x/\Is K H e y/\fQ d=true/\fQ e=true/\Q (.bl (!pJ d e)) H
def inD (d:D):D->Option Bool
 | .lst ds=>some ((eJ ds).any λy=>PyData.eqv y (cn d))
 | .tup ds=>some ((eJ ds).any λy=>PyData.eqv y (cn d))
 | _=>none
def zQ (K:PySem.W.Frag)(neg:Bool):R2:=λx y H Q=>∃ d e b,Is K H d x/\Is K H e y/\fQ d=true/\fQ e=true/\inD d e=some b/\Q (.bl (if neg then !b else b)) H
section
variable {X:Cx}{a b c e:Expr}{fa fb fc f:aF}{pos:Pos}
theorem G0(hu:X.A.units+64<cLine):dO X (compareOp .Eq) (GY X.K):=by intro Tk s σ H x y v u Q I rx ry ⟨d,e,⟨w,o,q,F,h1⟩,⟨w',o',q',F',h2⟩,k1,k2,hq⟩;obtain⟨as,ra⟩:=h1.reads I rx (oy k1);obtain⟨bs,rb⟩:=h2.reads I ry (oy k2);exact eq_dataH ra rb (oz k1) (oz k2) hu ⟨.bl _,H,I,rfl,hq⟩
theorem TJ(hu:X.A.units+64<cLine):dO X (compareOp .NotEq) (GZ X.K):=by intro Tk s σ H x y v u Q I rx ry ⟨d,e,⟨w,o,q,F,h1⟩,⟨w',o',q',F',h2⟩,k1,k2,hq⟩;obtain⟨as,ra⟩:=h1.reads I rx (oy k1);obtain⟨bs,rb⟩:=h2.reads I ry (oy k2);exact ne_dataH ra rb (oz k1) (oz k2) hu ⟨.bl _,H,I,rfl,hq⟩
theorem TK(hu:X.A.units+65<cLine):dO X (compareOp .In) (zQ X.K false):=by
 intro Tk s σ H x y v u Q I rx ry ⟨d,e,b,⟨w,o,q,F,h1⟩,⟨w',o',q',F',h2⟩,k1,k2,hb,hq⟩;obtain⟨as,ra⟩:=h1.reads I rx (oy k1);obtain⟨bs,rb⟩:=h2.reads I ry (oy k2);replace k1:=oz k1;replace k2:=oz k2;cases e with
 | lst ds=>
  cases hb;unfold cn at rb k2;exact SeqAt.in_list_reads rb ra (Zh k2) (Zh k1) (Ys k1 hu) ⟨.bl _,H,I,rfl,hq⟩
 | tup ds=>
  cases hb;unfold cn at rb k2;exact SeqAt.in_tuple_reads rb ra (Zh k2) (Zh k1) (Ys k1 hu) ⟨.bl _,H,I,rfl,hq⟩
 | _=>cases hb
theorem TL(hu:X.A.units+65<cLine):dO X (compareOp .NotIn) (zQ X.K true):=by
 intro Tk s σ H x y v u Q I rx ry ⟨d,e,b,⟨w,o,q,F,h1⟩,⟨w',o',q',F',h2⟩,k1,k2,hb,hq⟩;obtain⟨as,ra⟩:=h1.reads I rx (oy k1);obtain⟨bs,rb⟩:=h2.reads I ry (oy k2);replace k1:=oz k1;replace k2:=oz k2;cases e with
 | lst ds=>
  cases hb;unfold cn at rb k2;exact SeqAt.notIn_list_reads rb ra (Zh k2) (Zh k1) (Ys k1 hu) ⟨.bl _,H,I,rfl,hq⟩
 | tup ds=>
  cases hb;unfold cn at rb k2;exact SeqAt.notIn_tuple_reads rb ra (Zh k2) (Zh k1) (Ys k1 hu) ⟨.bl _,H,I,rfl,hq⟩
 | _=>cases hb
def dS (x y:D):Option D:=if fQ x=true/\fQ y=true then some (.bl (pJ x y))else none
def dk (x y:D):Option D:=if fQ x=true/\fQ y=true then some (.bl (!pJ x y))else none
def ml (x y:D):Option D:=if fQ x=true/\fQ y=true then(inD x y).map λb=>.bl b else none
def sJ (x y:D):Option D:=if fQ x=true/\fQ y=true then(inD x y).map λb=>.bl (!b)else none
theorem G1:∀ σ H Q,tD K (e2 dS fa fb) σ H Q->kn (GY K) (tD K fa) (tD K fb) σ H Q:=uB λx y d h=>by
 unfold dS at h;split at h;next hk=>
  cases h;exact⟨_,rfl,λH w o o' q q' u u' F F' r1 r2 _ Q hq=>⟨x,y,⟨_,_,_,_,r1⟩,⟨_,_,_,_,r2⟩,hk.1,hk.2,hq⟩⟩
 ·cases h
theorem TM:∀ σ H Q,tD K (e2 dk fa fb) σ H Q->kn (GZ K) (tD K fa) (tD K fb) σ H Q:=uB λx y d h=>by
 unfold dk at h;split at h;next hk=>
  cases h;exact⟨_,rfl,λH w o o' q q' u u' F F' r1 r2 _ Q hq=>⟨x,y,⟨_,_,_,_,r1⟩,⟨_,_,_,_,r2⟩,hk.1,hk.2,hq⟩⟩
 ·cases h
theorem hIn:∀ σ H Q,tD K (e2 ml fa fb) σ H Q->kn (zQ K false) (tD K fa) (tD K fb) σ H Q:=uB λx y d h=>by
 unfold ml at h;split at h;next hk=>
  cases hi:inD x y with
  | none=>rw[hi]at h;cases h
  | some b=>
   rw[hi]at h;cases h;exact⟨_,rfl,λH w o o' q q' u u' F F' r1 r2 _ Q hq=>⟨x,y,b,⟨_,_,_,_,r1⟩,⟨_,_,_,_,r2⟩,hk.1,hk.2,hi,hq⟩⟩
 ·cases h
theorem TN:∀ σ H Q,tD K (e2 sJ fa fb) σ H Q->kn (zQ K true) (tD K fa) (tD K fb) σ H Q:=uB λx y d h=>by
 unfold sJ at h;split at h;next hk=>
  cases hi:inD x y with
  | none=>rw[hi]at h;cases h
  | some b=>
   rw[hi]at h;cases h;exact⟨_,rfl,λH w o o' q q' u u' F F' r1 r2 _ Q hq=>⟨x,y,b,⟨_,_,_,_,r1⟩,⟨_,_,_,_,r2⟩,hk.1,hk.2,hi,hq⟩⟩
 ·cases h
theorem G2{k:Nat}(hr:bA k X.A)(ha:QD X a fa)(hb:QD X b fb):QD X (.Compare a [.Eq] [b] pos) (e2 dS fa fb):=⟨have ha:=ha.o;have hb:=hb.o;S8 (G0 hr.units) G1 ha hb (vS _)⟩
theorem mn{k:Nat}(hr:bA k X.A)(ha:QD X a fa)(hb:QD X b fb):jt X (.Compare a [.Eq] [b] pos) (bC (e2 dS fa fb)):=⟨have ha:=ha.o;have hb:=hb.o;uD (G0 hr.units) G1 ha hb (vS _)⟩
theorem kA{k:Nat}(hr:bA k X.A)(ha:QD X a fa)(hb:QD X b fb):jt X (.Compare a [.NotEq] [b] pos) (bC (e2 dk fa fb)):=⟨have ha:=ha.o;have hb:=hb.o;uD (TJ hr.units) TM ha hb (vS _)⟩
theorem CQ{k:Nat}(r:bA k A):A.units+65<cLine:=by have:=r.un;omega
theorem zR{k:Nat}(hr:bA k X.A)(ha:QD X a fa)(hb:QD X b fb)(hm:behindInMarks .In b=false:=by with_unfolding_all rfl):jt X (.Compare a [.In] [b] pos) (bC (e2 ml fa fb)):=⟨have ha:=ha.o;have hb:=hb.o;uD (TK (CQ hr)) hIn ha hb hm⟩
theorem TQ{k:Nat}(hr:bA k X.A)(ha:QD X a fa)(hb:QD X b fb)(hm:behindInMarks .NotIn b=false:=by with_unfolding_all rfl):jt X (.Compare a [.NotIn] [b] pos) (bC (e2 sJ fa fb)):=⟨have ha:=ha.o;have hb:=hb.o;uD (TL (CQ hr)) TN ha hb hm⟩
end
@[simp] def eB (h:List D->Option D)(g:cK):aF:=λρ=>match g ρ with
 | some (ds,ρ1)=>match h ds with
  | some d=>some (d,9,ρ1)
  | none=>none
 | none=>none
section
variable {X:Cx}{a b c e:Expr}{es:List Expr}{fa fb fc f:aF}{g:cK}{pos p p1 p2:Pos}
theorem CS{h:List D->Option D}{r:List V->Hp->VK->Prop}(hh:∀ ds d,h ds=some d->∃ v,pD d=some v/\∀ H w vs,WL K w H->af K H w .f 0 ds vs []->∀ Q:VK,Q v H->r vs H Q) :
  ∀ σ H Q,tD K (eB h g) σ H Q->yY r (zH K g) σ H Q:=λσ H Q aj=>by
 obtain⟨ρ,w,t,r',q,ρ',gd,ee,k⟩:=aj;unfold eB at ee;split at ee;next ds ρ1 h1=>
  split at ee;next d hd=>
   cases ee;obtain⟨v,hv,hr⟩:=hh ds _ hd;exact⟨ρ,w,t,ds,_,gd,h1,λvs H1 w1 g1 aS r1=>hr H1 w1 vs g1.wl r1 Q (k v H1 w1 [] g1.up aS (CD hv))⟩
  ·cases ee
 ·cases ee
theorem one{w:Wn}{o:Ow}{d:D}(r:af K H w o 0 [d] vs []):∃ v,vs=[v]/\Rep K H w o 0 d v []:=by
 have l:=r.length
 match vs,l with
 | [v],_=>
  obtain⟨v',h1,h2⟩:=r.get (i:=0) rfl;cases h1;exact⟨v,rfl,h2⟩
theorem two{w:Wn}{o:Ow}{d d':D}(r:af K H w o 0 [d,d'] vs []):∃ v v',vs=[v,v']/\Rep K H w o 0 d v []/\Rep K H w o 0 d' v' []:=by
 have l:=r.length
 match vs,l with
 | [v,v'],_=>
  obtain⟨u,h1,h2⟩:=r.get (i:=0) rfl;obtain⟨u',h3,h4⟩:=r.get (i:=1) rfl;cases h1;cases h3;exact⟨v,v',rfl,h2,h4⟩
def gm:D->Option Nat
 | .lst ds=>some ds.length
 | .tup ds=>some ds.length
 | _=>none
@[simp] def mq:List D->Option D
 | [d]=>(gm d).map λn=>.int (Int.ofNat n)
 | _=>none
theorem Rep.len{w:Wn}{o:Ow}{q:Nat}{d:D}(r:Rep K H w o q d v F)(h:gm d=some n):∃ p ys,v=.ref p/\(cW K H p ys\/cG K H p ys)/\ys.length=n:=by
 cases d with
 | lst ds=>
  cases h;obtain⟨p,vs,q',G,rfl,hq,rs⟩:=r.pE;exact⟨p,vs,rfl,.inl hq,rs.length.symm⟩
 | tup ds=>
  cases h;obtain⟨p,vs,rfl,hq,rs⟩:=r.eI;exact⟨p,vs,rfl,.inr hq,rs.length.symm⟩
 | _=>cases h
theorem wz(hm:X.mg "len" = none)(ha:iq X [a] g)(hg:Gl X "len":=by rfl)(he:starEach [a] X.env=(false,eval a X.env)::starEach [] X.env:=by rfl)(cA:(backTo pos (starEach [] X.env)).any (·.1)=false:=by rfl):QD X (.Call (.Name "len" p) [a] [] pos) (eB mq g):=⟨have ha:=ha.o;PE.imp (o9 BX hg hm Ug ha (by decide) (by decide) he cA) (CS λds d h=>by
  match ds,h with
  | [d0],h=>
   cases hl:gm d0 with
   | none=>simp only[mq,hl,Option.map_none]at h;cases h
   | some n=>
    simp only[mq,hl,ZZ,Option.some.injEq]at h;subst h;refine⟨_,rfl,λH w vs wl r Q hq=>?_⟩;obtain⟨v,rfl,rv⟩:=one r;obtain⟨p,ys,rfl,hs,hn⟩:=rv.len hl;exact⟨p,ys,rfl,hs,by rw[hn];exact hq⟩)⟩
@[simp] def cj (i:Nat):aF:=λρ=>match ρ[i]? with
 | some (some (d,_))=>match gm d with
  | some n=>some (.int (Int.ofNat n),9,ρ)
  | none=>none
 | _=>none
theorem d4{x:Str}(hm:X.mg "len" = none)(h:QE X (.Name x p1) (iZ i))(hg:Gl X "len":=by rfl)(he:starEach [.Name x p1] X.env=(false,eval (.Name x p1) X.env)::starEach [] X.env:=by rfl)(cA:(backTo pos (starEach [] X.env)).any (·.1)=false:=by rfl):QD X (.Call (.Name "len" p) [.Name x p1] [] pos) (cj i):=⟨have h:=h.o;PE.imp (o9 BX hg hm Ug (ma h mO he) (by decide) (by decide) he cA) λσ H Q aj=>by
 obtain⟨ρ,w,t,r',q,ρ',gd,ee,k⟩:=aj;unfold cj at ee;split at ee;next d q0 e0=>
  split at ee;next n hn=>
   cases ee;obtain⟨v,F,h1,h2⟩:=gd.slot i d q0 e0;obtain⟨p,ys,rfl,hs,hl⟩:=h2.len hn;exact⟨_,h1,p,ys,rfl,hs,by rw[hl];exact k _ H w [] gd.up Go.refl (.int _)⟩
  ·cases ee
 ·cases ee⟩
@[simp] def zS:List D->Option D
 | [.int i,.int j]=>some (.int (if j > i then j else i))
 | _=>none
theorem G3(hc:X.calm=true)(hm:X.mg "max" = none)(hb:bootBuiltins "max" = some (.builtin "max"))(ha:iq X (a::es) g)(hg:Gl X "max":=by rfl)(he:starEach (a::es) X.env=(false,eval a X.env)::starEach es X.env:=by rfl)(cA:(backTo pos (starEach es X.env)).any (·.1)=false:=by rfl):QD X (.Call (.Name "max" p) (a::es) [] pos) (eB zS g):=⟨have ha:=ha.o;PE.imp (o9 (Pu hc) hg hm hb ha (by decide) (by decide) he cA) (CS λds d h=>by
  unfold zS at h;split at h;next i j=>
   cases h;refine⟨_,rfl,λH w vs wl r Q hq=>?_⟩;obtain⟨v,v',rfl,r1,r2⟩:=two r;exact⟨i,j,by rw[f_ r1,f_ r2],hq⟩
  ·cases h)⟩
@[simp] def wA (g:cK):aF:=λρ=>match g ρ with
 | some ([.lst ds],ρ1)=>some (.lst ds,1,ρ1)
 | some ([.tup ds],ρ1)=>some (.lst ds,1,ρ1)
 | _=>none
theorem TR(hm:X.mg "list" = none)(hb:bootBuiltins "list" = some (.type "list"))(ha:iq X [a] g)(hg:Gl X "list":=by rfl)(he:starEach [a] X.env=(false,eval a X.env)::starEach [] X.env:=by rfl)(cA:(backTo pos (starEach [] X.env)).any (·.1)=false:=by rfl):QD X (.Call (.Name "list" p) [a] [] pos) (wA g):=⟨have ha:=ha.o;PE.imp (vW Rl hg hm hb ha (by decide) (by decide) he cA) λσ H Q aj=>by
 obtain⟨ρ,w,t,r',q,ρ',gd,ee,k⟩:=aj;unfold wA at ee;split at ee;next ds ρ1 h1=>
  cases ee;refine⟨ρ,w,t,_,_,gd,h1,λvs H1 w1 g1 aS r1=>?_⟩;obtain⟨v,rfl,rv⟩:=one r1;obtain⟨p,ys,rfl,hs,rs⟩:=rv.fM;refine⟨p,ys,rfl,.inl hs,λl hl=>?_⟩;obtain⟨a1,a2,a3⟩:=oq g1 hl rs;exact k _ _ _ _ a1 (aS.trans a2) a3
 next ds ρ1 h1=>
  cases ee;refine⟨ρ,w,t,_,_,gd,h1,λvs H1 w1 g1 aS r1=>?_⟩;obtain⟨v,rfl,rv⟩:=one r1;obtain⟨p,ys,rfl,hs,rs⟩:=rv.eI;refine⟨p,ys,rfl,.inr hs,λl hl=>?_⟩;obtain⟨a1,a2,a3⟩:=oq g1 hl rs;exact k _ _ _ _ a1 (aS.trans a2) a3
 ·cases ee⟩
@[simp] def gH (g:cK):aF:=λρ=>match g ρ with
 | some ([.lst ds],ρ1)=>some (.tup ds,9,ρ1)
 | some ([.tup ds],ρ1)=>some (.tup ds,9,ρ1)
 | _=>none
theorem j7(hm:X.mg "tuple" = none)(hb:bootBuiltins "tuple" = some (.type "tuple"))(ha:iq X [a] g)(hg:Gl X "tuple":=by rfl)(he:starEach [a] X.env=(false,eval a X.env)::starEach [] X.env:=by rfl)(cA:(backTo pos (starEach [] X.env)).any (·.1)=false:=by rfl):QD X (.Call (.Name "tuple" p) [a] [] pos) (gH g):=⟨have ha:=ha.o;PE.imp (vW Rm hg hm hb ha (by decide) (by decide) he cA) λσ H Q aj=>by
 obtain⟨ρ,w,t,r',q,ρ',gd,ee,k⟩:=aj;unfold gH at ee;split at ee;next ds ρ1 h1=>
  cases ee;refine⟨ρ,w,t,_,_,gd,h1,λvs H1 w1 g1 aS r1=>?_⟩;obtain⟨v,rfl,rv⟩:=one r1;obtain⟨p,ys,rfl,hs,rs⟩:=rv.fM;refine⟨p,ys,rfl,.inl ⟨hs,λl hl=>?_⟩⟩;obtain⟨a1,a2,a3⟩:=uz g1 hl rs;exact k _ _ _ _ a1 (aS.trans a2) a3
 next ds ρ1 h1=>
  cases ee;refine⟨ρ,w,t,_,_,gd,h1,λvs H1 w1 g1 aS r1=>?_⟩;obtain⟨v,rfl,rv⟩:=one r1;have rr:=rv;obtain⟨p,ys,rfl,hs,rs⟩:=rv.eI;refine⟨p,ys,rfl,.inr ⟨hs,?_⟩⟩;exact k _ H1 w1 [] g1.up aS (((rr.dC rfl).2 9).any g1.wl)
 ·cases ee⟩
def G4 (ta:TA):TE:=λσ H Q=>ta σ H λvs H1=>∃ j:Int,vs=[.int j] /\ -(2 ^ 62)<=j/\j<2 ^ 62/\∀ p,H1 p=none->Q (.ref p) (upd H1 p (.l_ 0 j))
theorem G5{ta:TA}(hg:Gl X "range")(hm:X.mg "range" = none)(ha:PA X [a] ta)(hs:starEach [a] X.env=[(false,eval a X.env)]:=by rfl):PE X (.Call (.Name "range" p) [a] [] pos) (G4 ta):=by
 intro Tk s σ H Q I h;refine Call_ (uj I hg hm boot_range (Ji (bg (ha pos Tk s σ H _ I h) λus s1 ⟨vs,H1,I1,r1,q1⟩=>?_) hs rfl));obtain⟨j,e,q1,q2,q⟩:=q1;subst e;cases r1 with
 | cons r rr=>
  cases rr;obtain⟨t,rfl⟩:=r;refine call_range_1 ?_;exact⟨.ref s1.heap.objs.size,upd H1 s1.heap.objs.size (.l_ 0 j),I1.laid (λb u e=>Qd _ e) (Qj _) ⟨_,_,_,Qp _ rfl⟩,rfl,q _ (I1.aG.fresh (Qj _))⟩
end
theorem G6{j:Int}(h1:-(2 ^ 62)<=j)(h2:j<2 ^ 62):Builtin.Range.small 0 j 1=true:=by
 have hs:Builtin.Range.rangeSize 0 j 1=((j.toNat:Nat):Int):=by simp[Builtin.Range.rangeSize]<;>split<;>omega
 simp only[Builtin.Range.small,hs,Builtin.Range.rangeFitsLong];simp;omega
theorem G7(j:Int):Builtin.Range.rangeSize 0 j 1=((j.toNat:Nat):Int):=by simp[Builtin.Range.rangeSize]<;>split<;>omega
theorem G8{acc:Array Value}(h:ItemsOf (λi v=>∃ t,v=Value.int (0+(i:Nat)*1) t) acc n):bc (qK n) acc.toList:=by
 have key:∀ (us:List Value) (k:Nat),(∀ j v,us[j]? = some v->∃ t,v=Value.int (((k+j:Nat)):Int) t)->bc ((List.range' k us.length).map λi=>V.int (Int.ofNat i)) us:=by
  intro us;induction us with
  | nil=>intro k _;exact .nil
  | cons u r ih=>
   intro k hk;obtain⟨t,e⟩:=hk 0 u rfl;refine .cons ⟨t,by rw[e];rfl⟩ (ih (k+1) λj v hv=>?_);obtain⟨t',e'⟩:=hk (j+1) v (by simpa using hv);exact⟨t',by rw[e'];congr 2;omega⟩
 have:=key acc.toList 0 λj v hv=>by obtain⟨t,e⟩:=h.2 j v (by simpa using hv);exact⟨t,by rw[e];congr 1;omega⟩
 have hl:acc.toList.length=n:=by simpa using h.1
 rw[hl]at this;unfold qK;rw[Uh];exact this
section
variable {prog:Program}{w:World}{A:Around}{E:Tl}{s:Shared}
open AutoSeq1 (wpAny_loadPart')
theorem TU{Q:List Value->Shared->Prop}{r:Addr}{a:Int}{t v:Tok}(hh:A.handled=none)(hr:IsRange s.heap r a b c t u v)(gV:Builtin.Range.small a b c=true)(hn:Builtin.Range.rangeSize a b c=n)(hlen:n<=2 ^ 24)
  (hQ:∀ h' tk bD,(∀ b o',s.heap.get? b=some o'->h'.get? b=some o')->ItemsOf (λi v=>∃ t,v=.int (a+i*c) t) bD n->Q bD.toList { s with heap:=h',toks:=tk }) :
  wpAny (model prog w) A (collect (.ref r)) Q E s:=by
 unfold collect;refine Qa (wpAny_runValue (Jf F.entry_proto_collect ?_));rw[Jy F.plain_proto_collect _];show wpAny _ A.in1 (newList [] >>= λl=>again (.builtin "list.__iadd__" ⟨[l,.ref r],[]⟩)) _ _ s;refine Qa (Q8 ?_);refine Qe ⟨plainId_quiet F.plain_list_iadd _,Jf F.entry_list_iadd ?_⟩;rw[Jy F.plain_list_iadd _];show wpAny _ A.in1 (Builtin.List.listExtendWith (.ref s.heap.objs.size) (.ref r) (.ref s.heap.objs.size)) _ _ _;have hS:(s.heap.push { cls:=.type "list",data:=.seq ([]:List Value).toArray }).get? s.heap.objs.size=some { cls:=.type "list",data:=.seq #[] 0 }:=Qp _ rfl;have wB:∀ (h':Heap) (tk:Nat) (bD:Array Value) (c':Nat),(∀ b o,b≠s.heap.objs.size->(s.heap.push { cls:=.type "list",data:=.seq ([]:List Value).toArray }).get? b=some o->h'.get? b=some o)->
   h'.get? s.heap.objs.size=some { cls:=.type "list",dict:=none,data:=.seq bD c',slots:=#[] }->ItemsOf (λi v=>∃ t,v=.int (a+i*c) t) bD n->wpAny (model prog w) A (match Value.ref s.heap.objs.size with
   | Value.ref a=>do
    match (<- load a).data with
     | Data.seq xs _=>pure xs.toList
     | _=>unsupported "internal:collect"
   | _=>unsupported "internal:collect") Q E { s with heap:=h',toks:=tk }:=λh' tk bD c' hk pK cV=>by show wpAny _ A (load s.heap.objs.size >>= _) _ _ _;refine Qa (wpAny_load pK ?_);refine Qe (hQ h' tk bD (λb o' hb=>?_) cV);exact hk b o' (Q4 (Qq hb)) (Qd _ hb)
 refine ZR (wpAny_extend_range (A:=A) (R:=λrs s'=>rs=.ok (.ret (.ref s.heap.objs.size))/\∃ h' tk bD c',s'={ s with heap:=h',toks:=tk }/\(∀ b o,b≠s.heap.objs.size->(s.heap.push { cls:=.type "list",data:=.seq ([]:List Value).toArray }).get? b=some o->h'.get? b=some o) /\
   h'.get? s.heap.objs.size=some { cls:=.type "list",dict:=none,data:=.seq bD c',slots:=#[] }/\ItemsOf (λi v=>∃ t,v=.int (a+i*c) t) bD n)
  (s:={ s with heap:=s.heap.push { cls:=.type "list",data:=.seq ([]:List Value).toArray } }) hh (Qd _ hr) gV hn hlen s.heap.objs.size (.ref s.heap.objs.size) 0 hS (λh' tk bD c' hk pK cV=>⟨rfl,h',tk,bD,c',rfl,hk,pK,cV⟩)) (λfin s' h=>?_) (λe s' h=>?_)
 ·cases fin with
  | done f=>
   obtain⟨e,h',tk,bD,c',rfl,hk,pK,cV⟩:=h;cases e;exact wB h' tk bD c' hk pK cV
  | again c'=>exact⟨h.1,Yn h.2 λr qz hr=>by obtain⟨rfl,h',tk,bD,c',rfl,hk,pK,cV⟩:=hr;exact wB h' tk bD c' hk pK cV⟩
 ·exact absurd h.1 (by simp)
end
theorem TV(r:Addr)(a b c:Int)(t u v:Tok)(n:Nat)(gV:Builtin.Range.small a b c=true)(hn:Builtin.Range.rangeSize a b c=n)(hlen:n<=2 ^ 24) :
  Meets (Builtin.«tuple.__new__» ⟨[.type "tuple",.ref r],[]⟩)
   (λA R s=>A.handled=none/\IsRange s.heap r a b c t u v/\∀ (h':Heap) tk bD,(∀ b o',s.heap.get? b=some o'->h'.get? b=some o')->ItemsOf (λi v=>∃ t,v=.int (a+i*c) t) bD n->R (.ok (.ret (.ref h'.objs.size))) { s with heap:=h'.push { cls:=.type "tuple",data:=.seq bD },toks:=tk }):=
 .of_wp λprog w A R s h=>by
  obtain⟨hp,g,d,tk,os⟩:=s;obtain⟨hh,hr,h⟩:=h;have eV:=sub_tuple_self;have G9:=init_tuple_lookup;have hmh:=madeHere_tuple;have hT:Shared.TypeIs ⟨hp,g,d,tk,os⟩ (.ref r) "range":=⟨_,hr,rfl⟩;have TX:A.in1.handled=none:=hh;wp_walk using AutoSeq1.wpAny_loadPart' hr,Yp hT,TU TX hr gV hn hlen
  intro h' uI bD hk cV;show wpAny _ _ (Builtin.Tuple.tupleExact bD.toList.toArray >>= λv=>ret v) _ _ _;unfold Builtin.Tuple.tupleExact;have hsz:bD.size<=sizeLine:=by rw[cV.1];exact hlen
  refine Qa (Q8 ?_ (by show bD.toList.toArray.size<=sizeLine;simpa using hsz));refine Qe ⟨_,rfl,?_⟩;have e:bD.toList.toArray=bD:=by simp
  rw[e];exact h h' uI bD hk cV
theorem TY{prog:Program}{w:World}{E:Tl}{s:Shared}{r:Addr}{a:Int}{t v:Tok}{Q:Tl}(hh:A.handled=none)(hr:IsRange s.heap r a b c t u v)(gV:Builtin.Range.small a b c=true)(hn:Builtin.Range.rangeSize a b c=n)(hlen:n<=2 ^ 24)
  (h:∀ (h':Heap) tk bD,(∀ b o',s.heap.get? b=some o'->h'.get? b=some o')->ItemsOf (λi v=>∃ t,v=.int (a+i*c) t) bD n->Q (.ref h'.objs.size) { s with heap:=h'.push { cls:=.type "tuple",data:=.seq bD },toks:=tk }) :
  wpAny (model prog w) A (call (.type "tuple") [.ref r]) Q E s:=
 callType_new F.called_tuple (by decide) (F.typeCall_tuple_1 _) (F.newCall_tuple_1 _) (λobj=>F.args_object_init_2 obj _) F.entry_tuple_new
  (TV r a b c t u v n gV hn hlen) ⟨hh,hr,λh' tk bD hk cV=>⟨⟨_,Qp _ rfl,rfl⟩,h h' tk bD hk cV⟩⟩
section
variable {X:Cx}
def CT (mk:List V->HO):List V->Hp->VK->Prop:=λxs H Q=>∃ a j,xs=[.ref a]/\H a=some (.l_ 0 j) /\ -1000<=j/\j<=1000/\∀ p,H p=none->Q (.ref p) (upd H p (mk (qK j.toNat)))
theorem TZ(hc:X.calm=true):kO X (.type "list") (CT .lst):=by intro Tk s σ H xs us Q I r h;obtain⟨a,j,rfl,hr,j1,j2,q⟩:=h;obtain⟨u,rfl,rx⟩:=mM r;cases rx;obtain⟨t,u,v,ho⟩:=(show dA X.prog X.w H s.heap a (.l_ 0 j)from I.aG a _ hr);refine call_list_range (I.ok.hd hc) ho (G6 (by omega) (by omega)) (G7 j) (by omega) λh' tk bD c' hk pK cV=>?_;refine⟨.ref s.heap.objs.size,_,I.laid (t':=tk) (o:=.lst (qK j.toNat)) hk (Qj _) ⟨by rw[GN];exact QJ (by omega:j.toNat<=1000) (by decide),bD.toList,c',G8 cV,by simpa using pK⟩,rfl,q _ (I.aG.fresh (Qj _))⟩
theorem T3(hc:X.calm=true):kO X (.type "tuple") (CT .tup):=by
 intro Tk s σ H xs us Q I r h;obtain⟨a,j,rfl,hr,j1,j2,q⟩:=h;obtain⟨u,rfl,rx⟩:=mM r;cases rx;obtain⟨t,u,v,ho⟩:=(show dA X.prog X.w H s.heap a (.l_ 0 j)from I.aG a _ hr);refine TY (I.ok.hd hc) ho (G6 (by omega) (by omega)) (G7 j) (by omega) λh' tk bD hk cV=>?_;have I1:Inv X Tk σ H { s with heap:=h',toks:=tk }:=I.kept hk;have I2:Inv X Tk σ (upd H h'.objs.size (.tup (qK j.toNat))) { s with heap:=h'.push { cls:=.type "tuple",data:=.seq bD },toks:=tk }:=
  I1.laid (t':=tk) (λb o e=>Qd _ e) (Qj _) (show dA X.prog X.w _ _ _ (.tup _)from⟨by rw[GN];exact QJ (by omega:j.toNat<=1000) (by decide),bD.toList,G8 cV,by simpa using lD.new h' bD⟩)
 exact⟨.ref h'.objs.size,_,I2,rfl,q _ (I1.aG.fresh (Qj _))⟩
variable {a:Expr}{g:cK}{pos p p1 lP:Pos}
@[simp] def oA (g:cK):aF:=λρ=>match cL g ρ with
 | some (ds,ρ1)=>some (.lst ds,1,ρ1)
 | none=>none
@[simp] def G_ (g:cK):aF:=λρ=>match cL g ρ with
 | some (ds,ρ1)=>some (.tup ds,9,ρ1)
 | none=>none
theorem Ha{mk:List V->HO}{q0:Nat}{md:List D->D}(al:∀ {ρ:aW} {σ:St} {H1:Hp} {w1:Wn} {t:Nat} {p:Addr} {vs:List V} {ds:List D},Good K ρ σ H1 w1 t->H1 p=none->af K H1 w1 .f 0 ds vs []->∃ w' F,Good K ρ σ (upd H1 p (mk vs)) w' (t+1)/\Go H1 w1 (upd H1 p (mk vs)) w'/\Rep K (upd H1 p (mk vs)) w' (.t t) q0 (md ds) (.ref p) F) :
  ∀ σ H Q,tD K (λρ=>match cL g ρ with
   | some (ds,ρ1)=>some (md ds,q0,ρ1)
   | none=>none) σ H Q->yY (CT mk) (FP (G4 (zH K g)) FO) σ H Q:=λσ H Q aj=>by
 obtain⟨ρ,w,t,r',q,ρ',gd,ee,k⟩:=aj;dsimp only at ee;split at ee;next ds ρ1 h1=>
  cases ee;unfold cL at h1;split at h1;next n ρ2 h2=>
   split at h1;next hn=>
    cases h1;refine⟨ρ,w,t,_,_,gd,h2,λvs H1 w1 g1 aS r1=>?_⟩;obtain⟨v,rfl,rv⟩:=one r1;have hv:=f_ rv;subst hv;refine⟨n,rfl,by omega,by omega,λp hp=>⟨p,n,rfl,fD,hn.1,hn.2,λl hl=>?_⟩⟩;have ne:∀ a x,H1 a=some x->a≠p:=λa x e=>gC e hp;have st:dY H1 w1 (upd H1 p (.l_ 0 n)) w1:=λa x e nn=>⟨sm (by rw[a_ (ne a x e)];exact e),nn⟩;have nw:∀ a o,w1 a=some o->a≠p:=λa o e=>by obtain⟨vs,q⟩:=g1.wl a o e;exact ne a _ q
    have g2:Good K ρ' σ (upd H1 p (.l_ 0 n)) w1 t:=⟨⟨λa o e=>by
     obtain⟨us,q⟩:=g1.wl a o e;exact⟨us,by rw[a_ (nw a o e)];exact q⟩,g1.wl.tb.upd rfl (.inl hp)⟩,g1.ws,g1.wt,g1.len,λi d q e=>by obtain⟨v,F,h1,h2⟩:=g1.slot i d q e;exact⟨v,F,h1,Rep.go g1.wl st h2 λa m=>⟨a_ (nw a _ (h2.aM a m)),h2.aM a m⟩⟩⟩
    have cD:Go H1 w1 (upd H1 p (.l_ 0 n)) w1:=⟨st,λa o e _=>⟨a_ (nw a o e),e⟩⟩;obtain⟨w',F,a1,a2,a3⟩:=al g2 hl (Tf n.toNat);exact k _ _ _ _ a1 ((aS.trans cD).trans a2) a3
   ·cases h1
  ·cases h1
 ·cases ee
theorem zT(hc:X.calm=true)(hm:X.mg "list" = none)(hb:bootBuiltins "list" = some (.type "list"))(CU:X.mg "range" = none)(ha:iq X [a] g)(hg:Gl X "list":=by rfl)(CV:Gl X "range":=by rfl)(hs:starEach [a] X.env=[(false,eval a X.env)]:=by rfl)(he:starEach [.Call (.Name "range" p1) [a] [] lP] X.env=(false,eval (.Call (.Name "range" p1) [a] [] lP) X.env)::starEach [] X.env:=by rfl)(cA:(backTo pos (starEach [] X.env)).any (·.1)=false:=by rfl):QD X (.Call (.Name "list" p) [.Call (.Name "range" p1) [a] [] lP] [] pos) (oA g):=⟨have ha:=ha.o;PE.imp (vW (TZ hc) hg hm hb (ma (G5 CV CU ha hs) mO he) (by decide) (by decide) he cA) (Ha λg hp r=>by obtain⟨a1,a2,a3⟩:=oq g hp r;exact⟨_,_,a1,a2,a3⟩)⟩
theorem T4(hc:X.calm=true)(hm:X.mg "tuple" = none)(hb:bootBuiltins "tuple" = some (.type "tuple"))(CU:X.mg "range" = none)(ha:iq X [a] g)(hg:Gl X "tuple":=by rfl)(CV:Gl X "range":=by rfl)(hs:starEach [a] X.env=[(false,eval a X.env)]:=by rfl)(he:starEach [.Call (.Name "range" p1) [a] [] lP] X.env=(false,eval (.Call (.Name "range" p1) [a] [] lP) X.env)::starEach [] X.env:=by rfl)(cA:(backTo pos (starEach [] X.env)).any (·.1)=false:=by rfl):QD X (.Call (.Name "tuple" p) [.Call (.Name "range" p1) [a] [] lP] [] pos) (G_ g):=⟨have ha:=ha.o;PE.imp (vW (T3 hc) hg hm hb (ma (G5 CV CU ha hs) mO he) (by decide) (by decide) he cA) (Ha λg hp r=>by obtain⟨a1,a2,a3⟩:=uz g hp r;exact⟨_,_,a1,a2,a3⟩)⟩
end
end L3
namespace L3
open PySem PySem.Spec PyProof.Rows L2
theorem T5{M:Model}{A:Around}{E:Tl}{s:Shared}{β:Type}{n:Nat}(f:Nat->β->Sem (ForInStep β))(I:List Nat->β->Shared->Prop)(Q:β->Shared->Prop)(b:β)
  (turn:∀ x bp b s,I (x::bp) b s->wpAny M A (f x b) (λr s'=>match r with|.yield b'=>I bp b' s' | .done b'=>Q b' s') E s)
  (fin:∀ b s,I [] b s->Q b s) (h:I (List.range' 0 n 1) b s):wpAny M A (forIn [0:n] b f) Q E s:=by
 rw[Std.Legacy.Range.forIn_eq_forIn_range'];refine Z4 f I Q turn fin _ b ?_;have e:(Std.Legacy.Range.size [0:n])=n:=by simp[Std.Legacy.Range.size]
 show I (List.range' 0 (Std.Legacy.Range.size [0:n]) 1) b s;rw[e];exact h
open AutoSeq1 (wpAny_loadPart') in
theorem T6(l:Addr)(items:Array Value)(n:Nat)(dd:Option Addr)(sl:Array (Option Value))(x:Value)(e:Value->Bool)(j:Nat)(hj:j<items.size)(hit:e items[j]=true)(BV:∀ m (hm:m<items.size),m<j->e items[m]=false) :
  Meets (Builtin.«tuple.index» ⟨[.ref l,x],[]⟩)
   (λA R s=>s.heap.get? l=some { cls:=.type "tuple",dict:=dd,data:=.seq items n,slots:=sl }/\(∀ y,y∈items->SeqAt.EqAt A.in1 s y x (e y))/\R (.ok (.ret (.int j s.toks))) { s with toks:=s.toks+1 }):=
 .of_wp λprog w A R s h=>by
  obtain⟨hp,g,d,tk,os⟩:=s;obtain⟨hl,he,h⟩:=h;wp_walk using wpAny_loadPart' hl,T5 _ (λbp b s'=>b.1=none/\s'=⟨hp,g,d,tk,os⟩/\∃ i k,bp=List.range' i k 1/\i+k=items.size/\i<=j) _
  case turn=>
   rintro y bp b s' ⟨hb,rfl,i,k,hr,T7,nh⟩;cases k with
   | zero=>simp at hr
   | succ k=>
    rw[List.range'_succ]at hr;obtain⟨rfl,rfl⟩:=List.cons.inj hr;have dR:y<items.size:=by omega
    have gW:items[y]? = some items[y]:=by simp[dR]
    rw[gW];refine Qa (he _ (Vx dR) prog w _ _ ?_);by_cases T8:y=j
    ·subst T8;rw[hit];wp_walk
     exact⟨_,rfl,h⟩
    ·rw[BV y dR (by omega)];wp_walk
     exact⟨rfl,rfl,y+1,k,rfl,by omega,by omega⟩
  case fin=>
   rintro ⟨b1,b2⟩ s' ⟨hb,rfl,i,k,hr,T7,nh⟩;cases k with
   | zero=>omega
   | succ k=>simp[List.range'_succ]at hr
  case h=>
   exact⟨rfl,rfl,0,items.size,by simp,by omega,by omega⟩
end L3
namespace L3
open PySem PySem.Spec PyProof.Rows L2
variable {F:List Addr}{H:Hp}{K:PySem.W.Frag}{N ps:List Str}{P:Program}{Q:Tl}{X:Cx}{a c i1 i2 j l p p1 p2 u z:Addr}{b bb:Bool}{base h h':Heap}{body:aI}{d:D}{ds:List D}{i n q:Nat}{mg:Str->Option Value}{o:Ow}{p3 p4:Pos}{Tk:List (Addr×Obj)}{s:Shared}{st:Stmt}{us vs:List V}{v:Value}{w:Wn}{x:Str}{xs ys:Array Value}{ρ:aW}{σ:St}
def zU (d:D)(ds:List D):Option Nat:=(eJ ds).findIdx? λy=>PyData.eqv y (cn d)
def T9 (K:PySem.W.Frag):V->List V->Hp->VK->Prop:=λx xs H Q=>∃ ds d y j,xs=[y]/\Is K H (.tup ds) x/\Is K H d y/\fQ (.tup ds)=true/\fQ d=true/\zU d ds=some j/\Q (.int (Int.ofNat j)) H
section
variable {X:Cx}{a b c e:Expr}{es:List Expr}{fa fb fc f:aF}{g:cK}{pos p p1 p2 aC apos:Pos}
theorem T_(hu:X.A.units+65<cLine):F5 X "tuple.index" (T9 X.K):=by
 intro Tk s σ H x xs v us Q I rx rs ⟨ds,d,y,j,e,⟨w,o,q,F,h1⟩,⟨w',o',q',F',h2⟩,k1,k2,hj,hq⟩;subst e;obtain⟨u,rfl,ru⟩:=mM rs;obtain⟨as,ra⟩:=h1.reads I rx (oy k1);obtain⟨bs,rb⟩:=h2.reads I ru (oy k2);replace k1:=oz k1;replace k2:=oz k2;unfold cn at ra k1;have qM:PyData.canLayAll0 (eJ ds)=true:=Zh k1;have og:=Zh k2;cases ra with
 | @tuple a ob vs n _ _ ho oC hd Hb=>
  obtain⟨cls,dd,data,sl⟩:=ob;simp only at oC hd;subst oC hd;have wC:=SeqAt.readsAll_map _ _ _ qM Hb;have UE:=List.findIdx?_eq_some_iff_getElem.mp hj;obtain⟨UG,UH,UI⟩:=UE;have hlen:vs.size=(eJ ds).length:=by rw[<- wC];simp
  have uJ:∀ m (hm:m<vs.size) (gJ:m<(eJ ds).length),SeqAt.readOf s.heap vs[m]=(eJ ds)[m]:=λm hm gJ=>by
   have:(vs.toList.map (SeqAt.readOf s.heap))[m]? = (eJ ds)[m]?:=by rw[wC]
   simpa [hm,gJ]using this
  refine J4 VC ⟨_,ho,rfl⟩ PySem.F.entry_tuple_index (PySem.F.args_tuple_index_2 _ _)
   (T6 a vs n dd sl u (λy=>PyData.eqv (SeqAt.readOf s.heap y) (cn d)) j (by omega) (by rw[uJ j (by omega) UG];simpa using UH) (λm hm UJ=>by rw[uJ m hm (by omega)];simpa using UI m UJ)) ⟨ho,SeqAt.items_eqAt Hb rb qM og (Ys k2 hu),?_⟩
  exact⟨.int (Int.ofNat j),H,I.tok _,⟨_,rfl⟩,hq⟩
@[simp] def CW (fo:aF)(g:cK):aF:=λρ=>match fo ρ with
 | some (.tup ds,_,ρ1)=>match g ρ1 with
  | some ([d],ρ2)=>if fQ (.tup ds)=true/\fQ d=true then match zU d ds with
   | some j=>some (.int (Int.ofNat j),9,ρ2)
   | none=>none
   else none
  | _=>none
 | _=>none
theorem UK{k:Nat}(hr:bA k X.A)(ho:QD X a fa)(ha:iq X [e] g)(cw:attributeBase a "index" X.env (eval a X.env)=eval a X.env:=by rfl)(fF:((backTo aC (starEach [e] X.env)).all (λx=>!x.1)&&(backToKw aC (keywordEach [] X.env)).all (λx=>x.1.isSome)
   && decide ([e].length+([]:List Keyword).length+(if([]:List Keyword).isEmpty then 0 else 1)<30))=true:=by rfl) (cy:(apos.endLine==aC.line)=true:=by rfl) (hs:starEach [e] X.env=(false,eval e X.env)::starEach [] X.env:=by rfl) (dB:(backTo aC (starEach [] X.env)).any (·.1)=false:=by rfl):QD X (.Call (.Attribute a "index" apos) [e] [] aC) (CW fa g):=⟨have ho:=ho.o;have ha:=ha.o;PE.imp (y9 PySem.F.plainAttrs_tuple VC PySem.F.type_tuple_index (T_ (CQ hr)) ho ha cw fF cy hs dB) λσ H Q aj=>by
 obtain⟨ρ,w,t,r',q,ρ',gd,ee,k⟩:=aj;unfold CW at ee;split at ee;next ds q1 ρ1 h1=>
  split at ee;next d ρ2 h2=>
   split at ee;next aG=>
    split at ee;next j hj=>
     cases ee;refine⟨ρ,w,t,_,_,_,gd,h1,λv H1 w1 F1 g1 aS r1=>?_⟩;have r0:=r1.drop (o:=.f) (Qj t);have gg:=g1.drop (t':=t);obtain⟨p0,vs,rfl,hq,rs⟩:=r0.jF;refine⟨?_,ρ1,dv t w1,t,_,_,gg,h2,λvs2 H2 w2 g2 cD r2=>?_⟩
     ·exact .inr (.inl ⟨rfl,.inr ⟨_,hq⟩⟩)
     ·obtain⟨v2,rfl,UL⟩:=one r2;have r3:Rep X.K H2 w2 .f 0 (.tup ds) (.ref p0) []:=r0.mi gg.wl cD.cI;exact⟨ds,d,v2,j,rfl,⟨_,_,_,_,r3⟩,⟨_,_,_,_,UL⟩,aG.1,aG.2,hj,k _ H2 w2 [] g2.up ((aS.drop gd.wt).trans cD) (.int _)⟩
    ·cases ee
   ·cases ee
  ·cases ee
 ·cases ee⟩
theorem Good.mut{t:Nat}(g:Good K ρ σ H w t)(e:ρ[i]? = some (some (.lst ds,1))) :
  ∃ l vs,σ[i]? = some (some (.ref l))/\H l=some (.lst vs)/\af K H w .f 0 ds vs []/\∀ eG ip,af K H w .f 0 eG ip []->
   Good K (ρ.set i (some (.lst eG,1))) σ (upd H l (.lst ip)) w t/\Go H w (upd H l (.lst ip)) w:=by
 obtain⟨v,F,h1,h2⟩:=g.slot i _ _ e;cases h2 with
 | @own _ l vs _ F' hl hw rs ne=>
  have hF:=rs.zero;subst hF;refine⟨l,vs,h1,hl,rs.any g.wl,λeG ip r'=>?_⟩;have nl:∀ a o,w a=some o->o ≠ .s i->a≠l:=λa o e n z=>by subst z;rw[hw]at e;exact n (QL e).symm
  have nn:∀ a,w a=none->a≠l:=λa e z=>by subst z;rw[hw]at e;cases e
  have st:dY H w (upd H l (.lst ip)) w:=λa x h n=>⟨sm (by rw[a_ (nn a n)];exact h),n⟩;refine⟨⟨⟨λa o h=>?_,g.wl.tb.upd rfl (.inr (g.wl l _ hw))⟩,g.ws,g.wt,by rw[Zj];exact g.len,λj d' q' e'=>?_⟩,⟨st,λa o h n=>⟨a_ (nl a o h (n i)),h⟩⟩⟩
  ·by_cases z:a=l
   ·subst z;exact⟨.l _,fD⟩
   ·obtain⟨us,q⟩:=g.wl a o h;exact⟨us,by rw[a_ z];exact q⟩
  ·by_cases hj:i=j
   ·subst hj;rw[QZ (QN.mp e).1]at e';cases e';exact⟨_,_,h1,.own fD hw (af.go g.wl st r' nM) (λz=>nomatch z)⟩
   ·rw[Q3 hj]at e';obtain⟨v',F',qN,ni⟩:=g.slot j d' q' e';exact⟨v',F',qN,Rep.go g.wl st ni λa m=>⟨a_ (nl a _ (ni.aM a m) (λz=>hj (by cases z;rfl))),ni.aM a m⟩⟩
@[simp] def pL:Option (OD)->Bool
 | some (some (.lst _,_))=>true
 | _=>false
theorem Good.cR{t:Nat}(g:Good K ρ σ H w t)(h:pL ρ[i]? = true):∃ l,σ[i]? = some (some (.ref l))/\∃ vs,cW K H l vs:=by
 unfold pL at h;split at h;next ds q e=>
  obtain⟨v,F,h1,h2⟩:=g.slot i _ _ e;obtain⟨p,vs,_,_,rfl,hq,_⟩:=h2.pE;exact⟨p,h1,vs,hq⟩
 ·cases h
@[simp] def jI (i:Nat)(g:cK):aF:=λρ=>if pL ρ[i]? = true then match g ρ with
 | some ([d],ρ1)=>match ρ1[i]? with
  | some (some (.lst ds,1))=>if ds.length<=1000 then some (.bK,9,ρ1.set i (some (.lst (ds++[d]),1)))else none
  | _=>none
 | _=>none
 else none
theorem nj(h:QE X (.Name x p1) (iZ i))(ha:iq X [e] g)(cw:attributeBase (.Name x p1) "append" X.env (eval (.Name x p1) X.env)=eval (.Name x p1) X.env:=by rfl)(fF:((backTo aC (starEach [e] X.env)).all (λx=>!x.1)&&(backToKw aC (keywordEach [] X.env)).all (λx=>x.1.isSome)
   && decide ([e].length+([]:List Keyword).length+(if([]:List Keyword).isEmpty then 0 else 1)<30))=true:=by rfl) (cy:(apos.endLine==aC.line)=true:=by rfl) (hs:starEach [e] X.env=(false,eval e X.env)::starEach [] X.env:=by rfl) (dB:(backTo aC (starEach [] X.env)).any (·.1)=false:=by rfl):QD X (.Call (.Attribute (.Name x p1) "append" apos) [e] [] aC) (jI i g):=⟨have h:=h.o;have ha:=ha.o;PE.imp (y9 Yl PySem.F.slot_list_append PySem.F.type_list_append Rq h ha cw fF cy hs dB) λσ H Q aj=>by
 obtain⟨ρ,w,t,r',q,ρ',gd,ee,k⟩:=aj;unfold jI at ee;split at ee;next hl=>
  obtain⟨l,ef,us,hq⟩:=gd.cR hl;split at ee;next d ρ1 h1=>
   split at ee;next ds e1=>
    split at ee;next hlen=>
     cases ee;refine⟨_,ef,.inl ⟨rfl,us,hq⟩,ρ,w,t,_,_,gd,h1,λvs H1 w1 g1 aS r1=>?_⟩;obtain⟨v,rfl,rv⟩:=one r1;obtain⟨l',ws,dw,hH,rs,mk⟩:=g1.mut e1;rw[ef]at dw;cases dw;have r2:af X.K H1 w1 .f 0 (ds++[d]) (ws++[v]) []:=af.snoc (F:=[]) (G:=[]) rv rs nM;obtain⟨m1,m2⟩:=mk _ _ r2;refine⟨l,ws,v,rfl,rfl,hH,by rw[<- rs.length];exact pf hlen,?_⟩;exact k .bK _ w1 [] m1.up (aS.trans m2) .bK
    ·cases ee
   ·cases ee
  ·cases ee
 ·cases ee⟩
theorem af.eraseIdx:∀ {ds:List D} {vs:List V} (i:Nat),af K H w .f 0 ds vs []->af K H w .f 0 (ds.eraseIdx i) (vs.eraseIdx i) []
 | ds,vs,i,r=>by
  generalize hF:([]:List Addr)=F at r;cases r with
  | nil=>exact .nil
  | @cons _ d v ds vs F G r s _=>
   have h1:F=[]:=r.zero;have h2:G=[]:=s.zero;subst h1 h2;cases i with
   | zero=>exact s
   | succ j=>exact .cons (F:=[]) (G:=[]) r (af.eraseIdx j s) nM
@[simp] def qO (i:Nat)(g:cK):aF:=λρ=>if pL ρ[i]? = true then match g ρ with
 | some ([.int n],ρ1)=>match ρ1[i]? with
  | some (some (.lst ds,1))=>if -1000<=n/\n<=1000 then match seqIndex? n ds.length with
   | some j=>match ds[j]? with
    | some d=>some (d,c_ d,ρ1.set i (some (.lst (ds.eraseIdx j),1)))
    | none=>none
   | none=>none
   else none
  | _=>none
 | _=>none
 else none
theorem Hc(h:QE X (.Name x p1) (iZ i))(ha:iq X [e] g)(cw:attributeBase (.Name x p1) "pop" X.env (eval (.Name x p1) X.env)=eval (.Name x p1) X.env:=by rfl)(fF:((backTo aC (starEach [e] X.env)).all (λx=>!x.1)&&(backToKw aC (keywordEach [] X.env)).all (λx=>x.1.isSome)
   && decide ([e].length+([]:List Keyword).length+(if([]:List Keyword).isEmpty then 0 else 1)<30))=true:=by rfl) (cy:(apos.endLine==aC.line)=true:=by rfl) (hs:starEach [e] X.env=(false,eval e X.env)::starEach [] X.env:=by rfl) (dB:(backTo aC (starEach [] X.env)).any (·.1)=false:=by rfl):QD X (.Call (.Attribute (.Name x p1) "pop" apos) [e] [] aC) (qO i g):=⟨have h:=h.o;have ha:=ha.o;PE.imp (y9 Yl PySem.F.slot_list_pop PySem.F.type_list_pop Rv h ha cw fF cy hs dB) λσ H Q aj=>by
 obtain⟨ρ,w,t,r',q,ρ',gd,ee,k⟩:=aj;unfold qO at ee;split at ee;next hl=>
  obtain⟨l,ef,us,hq⟩:=gd.cR hl;split at ee;next n ρ1 h1=>
   split at ee;next ds e1=>
    split at ee;next hn=>
     split at ee;next j hj=>
      split at ee;next d hd=>
       cases ee;refine⟨_,ef,.inl ⟨rfl,us,hq⟩,ρ,w,t,_,_,gd,h1,λvs H1 w1 g1 aS r1=>?_⟩;obtain⟨v,rfl,rv⟩:=one r1;have hv:=f_ rv;subst hv;obtain⟨l',ws,dw,hH,rs,mk⟩:=g1.mut e1;rw[ef]at dw;cases dw;obtain⟨y,hy,ry⟩:=rs.get hd;obtain⟨m1,m2⟩:=mk _ _ (rs.eraseIdx j);refine⟨l,ws,n,j,y,rfl,rfl,hH,by omega,by omega,by rw[<- rs.length];exact hj,hy,?_⟩;have UM:Rep X.K _ w1 (.t t) 0 r' y []:=Rep.go g1.wl m2.cI ry nM;exact k y _ w1 [] m1.up (aS.trans m2) UM.j0
      ·cases ee
     ·cases ee
    ·cases ee
   ·cases ee
  ·cases ee
 ·cases ee⟩
end
theorem af.wD:∀ {ds:List D} {vs:List V} {F:List Addr} {i:Nat} {d:D},af K H w o q ds vs F->ds[i]? = some d->∃ v G,vs[i]? = some v/\Rep K H w o q d v G/\∀ a∈G,a∈F
 | _,_,_,_,_,.nil,e=>by simp at e
 | _,_,_,0,_,.cons r _ _,e=>by simp at e;subst e;exact⟨_,_,rfl,r,λa m=>Q2 _ m⟩
 | _,_,_,i+1,d,.cons _ s _,e=>by obtain⟨v,G,h1,h2,h3⟩:=af.wD (i:=i) (d:=d) s (by simpa using e);exact⟨v,G,by simpa using h1,h2,λa m=>Qu _ (h3 a m)⟩
theorem af.Hd{i:Int}(r:af K H w o q ds vs F)(h:L2.eR ds i=some d):∃ v G,L2.eR vs i=some v/\Rep K H w o q d v G/\∀ a∈G,a∈F:=by
 unfold L2.eR at h ⊢;rw[<- r.length];cases e:kr ds.length i with
 | none=>rw[e]at h;cases h
 | some j=>
  rw[e]at h;exact r.wD h
@[simp] def aH (n:Nat)(fb:aF):aF:=λρ=>match ρ[n]? with
 | some (some _)=>match fb ρ with
  | some (.int i,_,ρ2)=>match ρ2[n]? with
   | some (some (x,q))=>match da x i with
    | some d=>if d.cR=true/\1<q/\x.cR=true then none else some (d,c_ d,ρ2)
    | none=>none
   | _=>none
  | _=>none
 | _=>none
section
variable {X:Cx}{a b c e:Expr}{es:List Expr}{fa fb fc f:aF}{g:cK}{pos p p1 p2 aC apos:Pos}
theorem bu(h:QE X (.Name x p1) (iZ n))(hb:QD X b fb)(hs:uq b:=by exact λ_ _=>rfl):QD X (.Subscript (.Name x p1) b pos) (aH n fb):=⟨have h:=h.o;have hb:=hb.o;PE.imp (vY vZ h hb hs) λσ H Q aj=>by
 obtain⟨ρ,w,t,r',q,ρ',gd,ee,k⟩:=aj;unfold aH at ee;split at ee;next z0 e0=>
  obtain⟨d0,q0⟩:=z0;obtain⟨v,F,ef,_⟩:=gd.slot n d0 q0 e0;split at ee;next i q2 ρ2 h2=>
   split at ee;next x q e2=>
    split at ee;next d hd=>
     split at ee
     ·cases ee
     next hn=>
      cases ee;refine⟨v,ef,ρ,w,t,_,_,_,gd,h2,λy H2 w2 F2 g2 go r2=>?_⟩;have hy:=f_ r2;subst hy;have gg:=g2.drop (t':=t);obtain⟨v',F',dw,rr⟩:=gg.slot n x q e2;rw[ef]at dw;cases dw;have fin:∀ u,Rep X.K H2 (dv t w2) (.t t) 0 r' u []->Q u H2:=λu ru=>k u H2 (dv t w2) [] gg.up (go.drop gd.wt) ru.j0;cases x with
      | lst ds=>
       by_cases UN:q=0
       ·subst UN;obtain⟨p0,vs,rfl,hq,rs⟩:=rr.fM;obtain⟨u,hu,ru⟩:=rs.eR hd;exact .inl ⟨p0,vs,i,u,rfl,rfl,hq,hu,fin u (ru.any gg.wl)⟩
       ·by_cases CY:q=1
        ·subst CY;cases rr with
         | own h0 _ rs _=>
          have z0:=rs.zero;subst z0;obtain⟨u,hu,ru⟩:=rs.eR hd;exact .inl ⟨_,_,i,u,rfl,rfl,cW.of h0,hu,fin u (ru.any gg.wl)⟩
        ·obtain⟨p0,vs,q',G,rfl,hq,rs⟩:=rr.pE;obtain⟨u,G',hu,ru,_⟩:=rs.Hd hd;refine .inl ⟨p0,vs,i,u,rfl,rfl,hq,hu,fin u ?_⟩;cases hL:r'.cR with
         | false=>exact((ru.dC hL).2 0).any gg.wl
         | true=>exact absurd ⟨hL,by omega,rfl⟩ hn
      | tup ds=>
       obtain⟨p0,vs,rfl,hq,rs⟩:=rr.eI;obtain⟨u,hu,ru⟩:=rs.eR hd;exact .inr (.inl ⟨p0,vs,i,u,rfl,rfl,hq,hu,fin u (ru.any gg.wl)⟩)
      | _=>cases hd
    ·cases ee
   ·cases ee
  ·cases ee
 ·cases ee⟩
@[simp] def pM (fa fb:aF):aF:=λρ=>match fa ρ with
 | some (.lst ds,1,ρ1)=>match fb ρ1 with
  | some (.int n,_,ρ2)=>if -1000<=n/\n<=1000/\ds.length*n.toNat<=1000 then some (.lst (replicate n.toNat ds).flatten,1,ρ2)else none
  | _=>none
 | _=>none
theorem af.app{es:List D}(s:af K H w .f 0 es us []):∀ {ds:List D} {vs:List V},af K H w .f 0 ds vs []->af K H w .f 0 (ds++es) (vs++us) []
 | ds,vs,r=>by
  generalize hF:([]:List Addr)=F at r;cases r with
  | nil=>rw[<- hF];exact s
  | @cons _ d v ds vs F G r t _=>
   have h1:F=[]:=r.zero;have h2:G=[]:=t.zero;subst h1 h2;exact .cons (F:=[]) (G:=[]) r (af.app s t) nM
theorem af.times(r:af K H w .f 0 ds vs []):∀ n:Nat,af K H w .f 0 (replicate n ds).flatten (replicate n vs).flatten []
 | 0=>.nil
 | n+1=>by rw[ZW,ZW,Jw,Jw];exact af.app (af.times r n) r
theorem CZ(ha:QD X a fa)(hb:QD X b fb):QD X (.BinOp a .Mult b pos) (pM fa fb):=⟨have ha:=ha.o;have hb:=hb.o;PE.imp (qw Rx ha hb) λσ H Q aj=>by
 obtain⟨ρ,w,t,r',q,ρ',gd,ee,k⟩:=aj;unfold pM at ee;split at ee;next ds ρ1 h1=>
  split at ee;next n q2 ρ2 h2=>
   split at ee;next hn=>
    cases ee;refine su gd h1 h2 λu u' H2 w2 F1 F2 g2 go r1 r2=>?_;have m7:=f_ r2;subst m7;cases r1 with
    | @own _ l vs _ F hl hw rs ne=>
     have hF:=rs.zero;subst hF;have gg:=g2.drop (t':=t);have uK:af X.K H2 (dv t w2) .f 0 ds vs []:=af.go g2.wl (λa x h n=>⟨sm h,zB n⟩) rs nM;refine⟨l,n,vs,rfl,rfl,hl,by omega,by omega,?_,λp hp=>?_⟩
     ·rw[<- rs.length];exact qJ hn.2.2
     ·obtain⟨a1,a2,a3⟩:=oq gg hp (uK.times n.toNat);exact k _ _ _ _ a1 ((go.drop gd.wt).trans a2) a3
   ·cases ee
  ·cases ee
 ·cases ee⟩
@[simp] def C0 (fa:aF):aF:=λρ=>match fa ρ with
 | some (.lst ds,_,ρ1)=>some (.lst ds.reverse,1,ρ1)
 | _=>none
theorem af.rev:∀ {ds:List D} {vs:List V},af K H w .f 0 ds vs []->af K H w .f 0 ds.reverse vs.reverse []
 | ds,vs,r=>by
  generalize hF:([]:List Addr)=F at r;cases r with
  | nil=>rw[<- hF];exact .nil
  | @cons _ d v ds vs F G r t _=>
   have h1:F=[]:=r.zero;have h2:G=[]:=t.zero;subst h1 h2;rw[Yq,Yq];exact af.snoc (F:=[]) (G:=[]) r (af.rev t) nM
def UO (K:PySem.W.Frag)(te:TE):TE:=λσ H Q=>te σ H λx H1=>∃ a xs,x=.ref a/\cW K H1 a xs/\∀ p,H1 p=none->Q (.ref p) (upd H1 p (.lst xs.reverse))
theorem UP{te:TE}{j:Nat}(he:PE X e te):PE X (.Subscript e (.Slice none none (some (.UnaryOp .USub (.Constant (.int 1) j p3) p4)) p2) pos) (UO X.K te):=by intro Tk s σ H Q I h;refine Subscript_ (bg (he Tk s σ H _ I h) λv s1 ⟨x,H1,I1,r1,q1⟩=>?_);have ik:PE X (.UnaryOp .USub (.Constant (.int 1) j p3) p4) (FH (rU λi=>.int (-i)) (tC (.int 1))):=Pa Pj BC;refine wpAny_Slice ?_;rw[evalPart_none];refine Qe ?_;refine Qe ?_;rw[evalPart_some];refine bg (ik Tk s1 σ H1 (λy H2=>y=.int (-1)/\H2=H1) I1 ⟨1,rfl,rfl,rfl⟩) λvk s2 ⟨y,H2,I2,r2,e2,e3⟩=>?_;subst e2 e3;obtain⟨tk,rfl⟩:=r2;obtain⟨a0,xs,rfl,hx,q⟩:=q1;cases r1;obtain⟨aq,r,ht,hz⟩:=I2.list hx;have hlen:=r.length;have I4:L2.Inv X Tk σ H2 { s2 with heap:=s2.heap.push { cls:=.type "slice",data:=.fields #[.none,.none,.int (-1) tk] } }:=I2.kept (t':=s2.toks) λb ob q=>Qd _ q;show wpAny (model X.prog X.w) X.A (subscriptTail e _ (.ref a0) (.ref s2.heap.objs.size)) (EP X Tk σ Q) X.xe { s2 with heap:=s2.heap.push { cls:=.type "slice",data:=.fields #[.none,.none,.int (-1) tk] } };have kK:Heap.IsList (s2.heap.push { cls:=.type "slice",data:=.fields #[.none,.none,.int (-1) tk] }) a0 aq.toArray:=ht.isList.push _;refine tail_any (ops:=[.ref a0,.ref s2.heap.objs.size]) (T:="list") (Heap.IsList.typeIs (s:={ s2 with heap:=s2.heap.push { cls:=.type "slice",data:=.fields #[.none,.none,.int (-1) tk] } }) kK) Vw.lookup ?_ (by with_unfolding_all rfl);refine wpAny_getItem_list_slice kK (Heap.IsSliceOf.new ..) .none .none (.int (-1) tk) (by decide) ?_ (by rw[Qo];omega);rw[W.krv_pick];refine⟨.ref _,_,I4.laid (t':=s2.toks) (o:=.lst xs.reverse) (λb ob q=>Qd _ q) (Qj _) ?_,rfl,q _ (I4.aG.fresh (Qj _))⟩;exact⟨by rw[Ur];exact hz,aq.reverse,0,r.reverse,Qp _ rfl⟩
theorem UQ{j:Nat}(ha:QD X a fa):QD X (.Subscript a (.Slice none none (some (.UnaryOp .USub (.Constant (.int 1) j p3) p4)) p2) pos) (C0 fa):=⟨have ha:=ha.o;PE.imp (UP ha) λσ H Q aj=>by
 obtain⟨ρ,w,t,r',q,ρ',gd,ee,k⟩:=aj;unfold C0 at ee;split at ee;next ds q1 ρ1 h1=>
  cases ee;refine⟨ρ,w,t,_,_,_,gd,h1,λv H1 w1 F1 g1 aS r1=>?_⟩;have r0:=r1.drop (o:=.f) (Qj t);obtain⟨p0,vs,rfl,hq,rs⟩:=r0.fM;refine⟨p0,vs,rfl,hq,λl hl=>?_⟩;obtain⟨a1,a2,a3⟩:=oq (g1.drop (t':=t)) hl rs.rev;exact k _ _ _ _ a1 ((aS.drop gd.wt).trans a2) a3
 ·cases ee⟩
end
theorem af.row(wl:WL K w H):∀ {rows:List D} {vs:List V} {F:List Addr} {i:Nat} {row:List D},af K H w o 1 rows vs F->rows[i]? = some (.lst row)->
  ∃ b ws,vs[i]? = some (.ref b)/\H b=some (.lst ws)/\w b=some o/\b∈F/\af K H w .f 0 row ws [] /\
   ∀ iJ kY,af K H w .f 0 iJ kY []->af K (upd H b (.lst kY)) w o 1 (rows.set i (.lst iJ)) vs F
 | _,_,_,_,_,.nil,e=>by simp at e
 | _,_,_,0,row,.cons r s ne,e=>by
  simp at e;subst e;cases r with
  | @own _ b ws _ F' hb hw rs nb=>
   have hF:=rs.zero;subst hF;refine⟨b,ws,rfl,hb,hw,by simp,rs.any wl,λiJ kY r'=>?_⟩;have nn:∀ a,w a=none->a≠b:=λa e z=>by subst z;rw[hw]at e;cases e
   have st:dY H w (upd H b (.lst kY)) w:=λa x h n=>⟨sm (by rw[a_ (nn a n)];exact h),n⟩;refine .cons (.own fD hw (af.go wl st r' nM) (λz=>nomatch z)) (af.go wl st s λa m=>⟨a_ λz=>?_,s.aM a m⟩) ne;subst z;exact ne a (by simp) m
 | _,_,_,i+1,row,.cons (d:=d) (v:=v) (F:=F) (G:=G) r s ne,e=>by
  obtain⟨b,ws,h1,h2,h3,h4,h5,mk⟩:=af.row wl (i:=i) (row:=row) s (by simpa using e);refine⟨b,ws,by simpa using h1,h2,h3,Qu _ h4,h5,λiJ kY r'=>?_⟩;have nn:∀ a,w a=none->a≠b:=λa e z=>by subst z;rw[h3]at e;cases e
  have st:dY H w (upd H b (.lst kY)) w:=λa x h n=>⟨sm (by rw[a_ (nn a n)];exact h),n⟩;refine .cons (Rep.go wl st r λa m=>⟨a_ λz=>?_,r.aM a m⟩) (mk iJ kY r') ne;subst z;exact ne a m h4
theorem Good.C1{t m:Nat}{rows row:List D}(g:Good K ρ σ H w t)(e:ρ[i]? = some (some (.lst rows,2)))(em:rows[m]? = some (.lst row)) :
  ∃ l vs b ws,σ[i]? = some (some (.ref l))/\cW K H l vs/\vs.length=rows.length/\vs[m]? = some (.ref b)/\H b=some (.lst ws)/\af K H w .f 0 row ws []/\∀ iJ kY,af K H w .f 0 iJ kY []->
   Good K (ρ.set i (some (.lst (rows.set m (.lst iJ)),2))) σ (upd H b (.lst kY)) w t/\Go H w (upd H b (.lst kY)) w:=by
 obtain⟨v,F,h1,h2⟩:=g.slot i _ _ e;cases h2 with
 | @own _ l vs _ F' hl hw rs nl=>
  obtain⟨b,ws,b1,b2,b3,b4,b5,mk⟩:=af.row g.wl rs em;have C2:l≠b:=λz=>by subst z;exact nl b4
  refine⟨l,vs,b,ws,h1,cW.of hl,rs.length.symm,b1,b2,b5,λiJ kY r'=>?_⟩;have He:∀ a o,w a=some o->o ≠ .s i->a≠b:=λa o e n z=>by subst z;rw[b3]at e;exact n (QL e).symm
  have nn:∀ a,w a=none->a≠b:=λa e z=>by subst z;rw[b3]at e;cases e
  have st:dY H w (upd H b (.lst kY)) w:=λa x h n=>⟨sm (by rw[a_ (nn a n)];exact h),n⟩;refine⟨⟨⟨λa o h=>?_,g.wl.tb.upd rfl (.inr (g.wl b _ b3))⟩,g.ws,g.wt,by rw[Zj];exact g.len,λj d' q' e'=>?_⟩,⟨st,λa o h n=>⟨a_ (He a o h (n i)),h⟩⟩⟩
  ·by_cases z:a=b
   ·subst z;exact⟨.l _,fD⟩
   ·obtain⟨us,q⟩:=g.wl a o h;exact⟨us,by rw[a_ z];exact q⟩
  ·by_cases hj:i=j
   ·subst hj;rw[QZ (QN.mp e).1]at e';cases e';exact⟨_,_,h1,.own (by rw[a_ C2];exact hl) hw (mk iJ kY r') nl⟩
   ·rw[Q3 hj]at e';obtain⟨v',F',qN,ni⟩:=g.slot j d' q' e';exact⟨v',F',qN,Rep.go g.wl st ni λa m=>⟨a_ (He a _ (ni.aM a m) (λz=>hj (by cases z;rfl))),ni.aM a m⟩⟩
theorem af.wF{v:V}(rv:Rep K H w .f 0 d v []):∀ {ds:List D} {vs:List V} (i:Nat),af K H w .f 0 ds vs []->af K H w .f 0 (ds.set i d) (vs.set i v) []
 | ds,vs,i,r=>by
  generalize hF:([]:List Addr)=F at r;cases r with
  | nil=>rw[<- hF];exact .nil
  | @cons _ d' v' ds vs F G r s _=>
   have h1:F=[]:=r.zero;have h2:G=[]:=s.zero;subst h1 h2;cases i with
   | zero=>exact .cons (F:=[]) (G:=[]) rv s nM
   | succ j=>exact .cons (F:=[]) (G:=[]) r (af.wF rv j s) nM
abbrev lQ:=aW->Option Int
def tQ (K:PySem.W.Frag)(f:lQ):TE:=λσ H Q=>∃ ρ w t i,Good K ρ σ H w t/\f ρ=some i/\Q (.int i) H
abbrev PQ (X:Cx)(e:Expr)(f:lQ):Prop:=PE X e (tQ X.K f)
structure QQ (X:Cx) (e:Expr) (f:lQ):Prop where mk::o:PQ X e f
@[simp] def sL (n:Nat):lQ:=λρ=>match ρ[n]? with
 | some (some (.int i,_))=>some i
 | _=>none
@[simp] def sM (n:Nat)(f:lQ):lQ:=λρ=>match f ρ with
 | some i=>match ρ[n]? with
  | some (some (x,_))=>match da x i with
   | some (.int j)=>some j
   | _=>none
  | _=>none
 | none=>none
section
variable {X:Cx}{a b c e:Expr}{es:List Expr}{fa fb fc f:aF}{qa qb:lQ}{g:cK}{pos p p1 p2 aC apos:Pos}
theorem Hf(h:QE X (.Name x p1) (iZ n)):QQ X (.Name x p1) (sL n):=⟨have h:=h.o;PE.imp h λσ H Q aj=>by
 obtain⟨ρ,w,t,i,gd,ee,k⟩:=aj;unfold sL at ee;split at ee;next j q e0=>
  cases ee;obtain⟨v,F,h1,h2⟩:=gd.slot n _ _ e0;rw[f_ h2]at h1;exact⟨_,h1,k⟩
 ·cases ee⟩
theorem Hg(h:QE X (.Name x p1) (iZ n))(hb:QQ X b qb)(hs:uq b:=by exact λ_ _=>rfl):QQ X (.Subscript (.Name x p1) b pos) (sM n qb):=⟨have h:=h.o;have hb:=hb.o;PE.imp (vY vZ h hb hs) λσ H Q aj=>by
 obtain⟨ρ,w,t,i,gd,ee,k⟩:=aj;unfold sM at ee;split at ee;next i0 h0=>
  split at ee;next x q e0=>
   split at ee;next j hj=>
    cases ee;obtain⟨v,F,h1,h2⟩:=gd.slot n _ _ e0;refine⟨v,h1,ρ,w,t,i0,gd,h0,?_⟩;cases x with
    | lst ds=>
     obtain⟨p0,vs,q',G,rfl,hq,rs⟩:=h2.pE;obtain⟨u,G',hu,ru,_⟩:=rs.Hd hj;rw[f_ ru]at hu;exact .inl ⟨p0,vs,i0,_,rfl,rfl,hq,hu,k⟩
    | tup ds=>
     obtain⟨p0,vs,rfl,hq,rs⟩:=h2.eI;obtain⟨u,hu,ru⟩:=rs.eR hj;rw[f_ ru]at hu;exact .inr (.inl ⟨p0,vs,i0,_,rfl,rfl,hq,hu,k⟩)
    | _=>cases hj
   ·cases ee
  ·cases ee
 ·cases ee⟩
@[simp] def wG (n:Nat)(qi qj:lQ)(fe:aF):aI:=λρ=>match fe ρ with
 | some (d,_,ρ1)=>match qi ρ1,qj ρ1,ρ1[n]? with
  | some i,some j,some (some (.lst rows,2))=>match kr rows.length i with
   | some m=>match rows[m]? with
    | some (.lst row)=>match kr row.length j with
     | some k=>some (.nx (ρ1.set n (some (.lst (rows.set m (.lst (row.set k d))),2))))
     | none=>none
    | _=>none
   | none=>none
  | _,_,_=>none
 | none=>none
theorem UR(h:QE X (.Name x p1) (iZ n))(ha:QQ X a qa)(hb:QQ X b qb)(he:QD X e f)(hi:uq a:=by exact λ_ _=>rfl)(C3:∀ v,assign (.Subscript (.Subscript (.Name x p1) a p2) b p) X.env v=(do
   let ov <- holding [v] (eval (.Subscript (.Name x p1) a p2) X.env)
   let iv <- holding [v,ov] (eval b X.env)
   standAt p
   holding [v,ov,iv] (setItem ov iv v)
   release [v,ov,iv] []):=by exact λ_=>rfl) (hs:swapsWithSole [.Subscript (.Subscript (.Name x p1) a p2) b p] e pos.line X.env=pure false:=by rfl):lN X (.Assign [.Subscript (.Subscript (.Name x p1) a p2) b p] e pos) (wG n qa qb f):=⟨have h:=h.o;have ha:=ha.o;have hb:=hb.o;have he:=he.o;by
 refine PS.imp (OT he (OS (vY vZ h ha hi) hb Rh C3) hs) λD σ H ⟨ρ,w,o,gd,ee,k⟩=>?_;unfold wG at ee;split at ee;next d q0 ρ1 h1=>
  split at ee;next i j rows hi hj er=>
   split at ee;next m hm=>
    split at ee;next row C4=>
     split at ee;next kk hk=>
      cases ee;refine⟨ρ,w,0,d,q0,ρ1,gd,h1,λv H1 w1 F1 g1 aS r1=>?_⟩;have rv:=r1.drop (o:=.f) (Qj 0);have gg:=g1.drop (t':=0);obtain⟨l,vs,b0,ws,m1,m2,m3,m4,m5,m6,mk⟩:=gg.C1 er C4;refine⟨_,m1,ρ1,dv 0 w1,0,i,gg,hi,.inl ⟨l,vs,i,.ref b0,rfl,rfl,m2,?_,ρ1,dv 0 w1,0,j,gg,hj,b0,ws,j,kk,rfl,rfl,m5,?_,?_⟩⟩
      ·unfold eR;rw[m3,hm];exact m4
      ·rw[<- m6.length];exact hk
      ·obtain⟨n1,n2⟩:=mk _ _ (m6.wF rv kk);exact k _ _ _ rfl n1 ((aS.drop gd.wt).trans n2)
     ·cases ee
    ·cases ee
   ·cases ee
  ·cases ee
 ·cases ee⟩
end
@[simp] def sN (fa fb:aF):aF:=λρ=>match fa ρ with
 | some (.bl b,_,ρ1)=>if b=true then fb ρ1 else some (.bl false,9,ρ1)
 | _=>none
@[simp] def C5 (fa:aF):aF:=λρ=>match fa ρ with
 | some (.bl b,_,ρ1)=>some (.bl (!b),9,ρ1)
 | _=>none
section
variable {X:Cx}{a b c e:Expr}{es bp:List Expr}{fa fb fc f:aF}{g:cK}{pos p p1 p2 aC apos:Pos}
theorem C6{op}(h:QD X a fa):QD X (.BoolOp op [a] pos) fa:=⟨have h:=h.o;Oh h⟩
theorem C7(ha:QD X a fa)(hb:QD X (.BoolOp .And (b::bp) pos) fb):QD X (.BoolOp .And (a::b::bp) pos) (sN fa fb):=⟨have ha:=ha.o;have hb:=hb.o;PE.imp (Oi ha hb) λσ H Q aj=>by
 obtain⟨ρ,w,t,r',q,ρ',gd,ee,k⟩:=aj;unfold sN at ee;split at ee;next b' q1 ρ1 h1=>
  refine⟨ρ,w,t,_,_,_,gd,h1,λv H1 w1 F1 g1 aS r1=>?_⟩;cases r1;refine⟨b',rfl,?_⟩;split at ee
  ·rename_i hb;rw[Qi hb]
   exact⟨ρ1,dv t w1,t,r',q,ρ',g1.drop,ee,λv H2 w2 F g2 cD=>k v H2 w2 F g2 ((aS.drop gd.wt).trans cD)⟩
  ·rename_i hb;rw[Ql hb]
   cases ee;exact k _ H1 w1 [] g1 aS (.bl false)
 ·cases ee⟩
theorem US(ha:QD X a fa):QD X (.UnaryOp .Not a pos) (C5 fa):=⟨have ha:=ha.o;PE.imp (Oj ha) λσ H Q aj=>by
 obtain⟨ρ,w,t,r',q,ρ',gd,ee,k⟩:=aj;unfold C5 at ee;split at ee;next b' q1 ρ1 h1=>
  cases ee;refine⟨ρ,w,t,_,_,_,gd,h1,λv H1 w1 F1 g1 aS r1=>?_⟩;cases r1;exact⟨b',rfl,k _ H1 w1 [] g1 aS (.bl _)⟩
 ·cases ee⟩
end
section
variable {es bp:List Expr}{a b c e:Expr}{pos:Pos}{env:Env}
theorem gp{op}:starEach (.BinOp a op b pos::bp) env=(false,eval (.BinOp a op b pos) env)::starEach bp env:=by simp only[starEach]
theorem UT:starEach (.IfExp a b c pos::bp) env=(false,eval (.IfExp a b c pos) env)::starEach bp env:=by simp only[starEach]
theorem nq{g sc}:starEach (.ListComp a g sc pos::bp) env=(false,eval (.ListComp a g sc pos) env)::starEach bp env:=by simp only[starEach]
theorem bO{k}:starEach (.Call a es k pos::bp) env=(false,eval (.Call a es k pos) env)::starEach bp env:=by simp only[starEach]
theorem zV{v k}:starEach (.Constant v k pos::bp) env=(false,eval (.Constant v k pos) env)::starEach bp env:=by simp only[starEach]
theorem fR:starEach (.Subscript a b pos::bp) env=(false,eval (.Subscript a b pos) env)::starEach bp env:=by simp only[starEach]
theorem cX{x}:starEach (.Name x pos::bp) env=(false,eval (.Name x pos) env)::starEach bp env:=by simp only[starEach]
theorem uM:starEach (.List es pos::bp) env=(false,eval (.List es pos) env)::starEach bp env:=by simp only[starEach]
theorem Hh{k}:starEach (.Tuple es k pos::bp) env=(false,eval (.Tuple es k pos) env)::starEach bp env:=by simp only[starEach]
end
def At (K:PySem.W.Frag)(mg:Str->Option Value)(x:Str)(st:Stmt)(ps:List Str):Prop:=
 ∃ f fd,mV K x x st f fd/\mg x=some (.ref f)/\qy K fd ps []
def aw (P:Program)(w:World)(K:PySem.W.Frag)(mg:Str->Option Value)(base:Heap)(k:Nat)(x:Str)(n:Nat)(F:List D->OD):Prop:=
 ∃ f fd ps,eU P w K mg base jZ k f fd ps (lL K n F)/\mg x=some (.ref f)/\W.keepIn K (.ref f)=true/\qy K fd ps []
theorem aw.mk{w:World}{k:Nat}(a:At K mg x st ps)(S:ag N ps (bB st))
  (h:∀ (f:Addr) (cO:Value) (A:Around) (outer:List Env) (s:Shared) (H:Hp) (E:XK),bA k (A.deeper (envOfC x (bB st) s.heap.objs.size f cO))->zL (mP jZ P w K mg base N x (bB st) f cO A outer s H E).n8 (kR st) body) :
  aw P w K mg base (k+1) x ps.length (bT N.length body):=by obtain⟨f,fd,F,m,b⟩:=a;exact⟨f,fd,ps,GP F S (h f),m,F.kp,b⟩
section
variable {X:Cx}{a b c e:Expr}{es bp:List Expr}{fa fb fc f:aF}{g:cK}{pos p p1 p2 aC apos:Pos}
theorem aZ{j k:Nat}{F:List D->OD}(C:aw X.prog X.w X.K X.mg X.base k x n F)(hr:bA j X.A)(hk:k<=j)(ha:iq X (e::es) g)(hg:Gl X x:=by rfl)(kq:(x==("__debug__":Str))=false:=by decide)(he:starEach (e::es) X.env=(false,eval e X.env)::starEach es X.env:=by rfl)(cA:(backTo pos (starEach es X.env)).any (·.1)=false:=by rfl):QD X (.Call (.Name x p) (e::es) [] pos) (aK F n g):=⟨have ha:=ha.o;by obtain⟨f,fd,ps,G,hm,zW,hb⟩:=C;exact S3 G (hr.mono hk) hm zW hb RG ha hg kq he cA⟩
end
theorem TB.only(h:B6 H)(hn:∀ x∈uv,W.tabIn K x=none):TB K H:=by refine⟨λP ps e=>?_,λP ps e=>?_,λx hx c P e=>by rw[hn x hx]at e;cases e⟩<;>rcases h P with z|⟨o,xs,z⟩<;>rw[e]at z<;>cases z
theorem UU{F:List D->OD}(h:∀ ns:List Int,ns.length<=63->∃ q,F [.lst (ns.map D.int)]=some (.bl true,q)){ns:List Int}(hl:ns.length<=63)(hS:cW K H a (ns.map V.int))(tb:TB K H){E:XK} :
  lL K 1 F [.ref a] H (λv _=>v=.bl true) E:=by
 obtain⟨q,e⟩:=h ns hl;have r:Rep K H (λ_=>none) .f 0 (.lst (ns.map D.int)) (.ref a) []:=by
  rcases cW.cases hS with z|z
  ·exact .shr z rfl (zN ns)
  ·exact .kl z (zN ns)
 exact⟨rfl,[.lst (ns.map D.int)],λ_=>none,.bl true,q,(λa o z=>nomatch z),⟨(λa o z=>nomatch z),tb⟩,.cons (F:=[]) (G:=[]) r .nil nM,e,λv H' w' Fo _ _ rr=>by cases rr;rfl⟩
theorem UW{w:World}{k:Nat}{f:Addr}{fd:FuncData}(F:mV K x x st f fd)(S:ag N ps (bB st))
  (h:∀ (f:Addr) (cO:Value) (A:Around) (outer:List Env) (s:Shared) (H:Hp) (E:XK),bA k (A.deeper (envOfC x (bB st) s.heap.objs.size f cO))->zL (mP jZ P w K mg base N x (bB st) f cO A outer s H E).n8 (kR st) body) :
  eU P w K mg base jZ (k+1) f fd ps (lL K ps.length (bT N.length body)):=GP F S (h f)
section
variable {prog:Program}{w:World}{A:Around}{E:Tl}{s:Shared}
theorem Hi{vs:Array Value}(a:s.heap.IsTupleIter j p n)(b:s.heap.IsTuple p vs)(c:vs[n]? = some v)
  (k:∀ g:Heap,g.IsTupleIter j p (n+1)->Heap.SameBut j s.heap g->Q v { s with heap:=g }):wpAny (model prog w) A (Builtin.SmallTypes.nextOf (.ref j)) Q E s:=by obtain⟨oj,ej,kj,dj⟩:=id a;obtain⟨op,ep,_,mp,dp⟩:=b;unfold Builtin.SmallTypes.nextOf;refine Qa (Za (name:=Str.ofString "__next__") a.typeIs Jn (QY Jn a.typeIs Y4 ?_ (YU _)));show wpAny _ _ (field (.ref j) 0 >>= _) _ _ s;refine Qa (ZI ej dj (x:=.ref p) rfl ?_);show wpAny _ _ (if(Value.ref p==Value.none)=true then _ else _) _ _ s;rw[Ql (show ¬ ((Value.ref p==Value.none)=true)from Zp)];show wpAny _ _ (field (.ref j) 1 >>= _) _ _ s;refine Qa (ZI ej dj (x:=.int n 0) rfl ?_);show wpAny _ _ (seqItems? (.ref p) >>= _) _ _ s;refine Qa (ZL ep dp ?_);simp only[Yt,c];refine Qa (Vg ej dj (by simp) (Qe ⟨v,rfl,Qe (k _ ⟨_,Z0 _ ej (Obj.isFreed_of_fields (Yh dj _)),(Obj.cls_mapFields ..).trans kj,?_⟩ (ZX ..))⟩));rw[Yh dj];simp[rawInt]
theorem Hj{vs:Array Value}{Q:Tl}(hh:A.handled=none)(a:s.heap.IsTupleIter j p n)(b:s.heap.IsTuple p vs)(c:vs[n]? = none)
  (k:∀ (g:Heap) x,Heap.ExtBut j s.heap g->(∃ o,g.get? x=some o/\o.cls=.type "StopIteration")->E (.ref x) { s with heap:=g }):wpAny (model prog w) A (Builtin.SmallTypes.nextOf (.ref j)) Q E s:=by
 obtain⟨oj,ej,kj,dj⟩:=id a;obtain⟨op,ep,_,mp,dp⟩:=b;unfold Builtin.SmallTypes.nextOf;refine Qa (Za (name:=Str.ofString "__next__") a.typeIs Jn (QY Jn a.typeIs Y4 ?_ (YU _)));show wpAny _ _ (field (.ref j) 0 >>= _) _ _ s;refine Qa (ZI ej dj (x:=.ref p) rfl ?_);show wpAny _ _ (if(Value.ref p==Value.none)=true then _ else _) _ _ s;rw[Ql (show ¬ ((Value.ref p==Value.none)=true)from Zp)];show wpAny _ _ (field (.ref j) 1 >>= _) _ _ s;refine Qa (ZI ej dj (x:=.int n 0) rfl ?_);show wpAny _ _ (seqItems? (.ref p) >>= _) _ _ s;refine Qa (ZL ep dp ?_);simp only[Yt,c];refine Qa (Yg (Qa (Vg ej dj (by simp) ?_)));show wpAny _ _ (newExc (.type "StopIteration") [] >>= _) _ _ _;refine Qa ?_;simp only[newExc,newTuple];refine Qa (Q8 ?_ (by size_fits));refine Qa (m:=firstArgMember _ _) (Ui (a:=Value.none) (by first|rfl|(simp only[firstArgMember];rfl)) (Q8 ?_ (by size_fits)));simp only[raiseNew];refine Qa (wpAny_handled ?_);first|rw[show A.in1.handled=none from hh]|rw[hh]
 exact Qa (Qe (wpAny_throw (k _ _ (((ZX ..).extBut.push _).push _) ⟨_,Qp _ rfl,rfl⟩)))
def jw (b:Bool)(h:Heap)(p:Addr)(xs:Array Value):Prop:=if b=true then h.IsList p xs else h.IsTuple p xs
def jJ (b:Bool)(h:Heap)(i p:Addr)(n:Nat):Prop:=if b=true then h.IsListIter i p n else h.IsTupleIter i p n
theorem jw.extBut(x:jw b h a xs)(hs:Heap.ExtBut c h h')(kZ:a≠c):jw b h' a xs:=by
 cases b
 ·exact Heap.IsTuple.extBut (show h.IsTuple a xs from x) hs kZ
 ·exact Heap.IsList.extBut (show h.IsList a xs from x) hs kZ
theorem jJ.at(x:jJ b h a l i)(e:∀ o,h.get? a=some o->h'.get? a=some o):jJ b h' a l i:=by
 cases b
 ·exact Heap.IsTupleIter.at (show h.IsTupleIter a l i from x) e
 ·exact Heap.IsListIter.at (show h.IsListIter a l i from x) e
theorem jJ.extBut(x:jJ b h a l i)(hs:Heap.ExtBut c h h')(kZ:a≠c):jJ b h' a l i:=x.at λo e=>hs a o kZ e
theorem jJ.obj(x:jJ b h a l i):∃ o vs,h.get? a=some o/\o.data=.fields vs:=by
 cases b
 ·obtain⟨o,e,_,d⟩:=(show h.IsTupleIter a l i from x);exact⟨o,_,e,d⟩
 ·obtain⟨o,e,_,d⟩:=(show h.IsListIter a l i from x);exact⟨o,_,e,d⟩
theorem Hk{vs:Array Value}(a:jJ b s.heap j p n)(d:jw b s.heap p vs)(c:vs[n]? = some v)
  (k:∀ g:Heap,jJ b g j p (n+1)->Heap.SameBut j s.heap g->Q v { s with heap:=g }):wpAny (model prog w) A (Builtin.SmallTypes.nextOf (.ref j)) Q E s:=by
 cases b
 ·exact Hi a d c k
 ·exact wpAny_nextOf_list_item a d c k
theorem UX{vs:Array Value}{Q:Tl}(hh:A.handled=none)(a:jJ b s.heap j p n)(d:jw b s.heap p vs)(c:vs[n]? = none)
  (k:∀ (g:Heap) x,Heap.ExtBut j s.heap g->(∃ o,g.get? x=some o/\o.cls=.type "StopIteration")->E (.ref x) { s with heap:=g }):wpAny (model prog w) A (Builtin.SmallTypes.nextOf (.ref j)) Q E s:=by
 cases b
 ·exact Hj hh a d c k
 ·exact wpAny_nextOf_list_end hh a d c k
structure ZT (b:Bool) (h:Heap) (z u o i1 i2 p1 p2:Addr) (f0:Value) (k1 k2:Nat):Prop where
 hz:IsZip h z u o f0
 hu:IsPair h u (.ref i1) (.ref i2)
 ho:∃ a b,IsPair h o a b
 h1:jJ b h i1 p1 k1
 h2:h.IsTupleIter i2 p2 k2
def el (z u o i1 i2:Addr):List Addr:=[z,u,o,i1,i2]
structure ZA (z u o i1 i2:Addr):Prop where
 nd:(el z u o i1 i2).Nodup
theorem ZA.ne{o:Addr}(d:ZA z u o i1 i2):z≠u/\z≠o/\z≠i1/\z≠i2/\u≠o/\u≠i1/\u≠i2/\o≠i1/\o≠i2/\i1≠i2:=by have:=d.nd;simp only[el,Q5,Qs,Qw,Yu,not_or]at this;obtain⟨⟨a,b,c,d⟩,⟨e,f,g⟩,⟨h,i⟩,j,_⟩:=this;exact⟨a,b,c,d,e,f,g,h,i,j⟩
theorem C8{g:Heap}{o:Addr}{a b x:Value}{n:Nat}{Q:Unit->Shared->Prop}(e:IsPair s.heap o a b)
  (k:∀ g:Heap,g.get? o=some { cls:=.type "tuple",data:=.seq ((#[a,b]:Array Value).setIfInBounds n x) }->Heap.SameBut o s.heap g->Q () { s with heap:=g }):wpAny (model prog w) A (updateSeq o (·.setIfInBounds n x)) Q E s:=by refine wpAny_updateSeq e rfl (k _ ?_ (ZX ..));rw[Z0 _ e rfl];simp[Obj.mapSeq]
theorem UY{o:Addr}{x y:Value}{Q:Option Value->Shared->Prop}(d:ZA z u o i1 i2)(Z:ZT bb s.heap z u o i1 i2 p1 p2 .none n n)(t1:jw bb s.heap p1 xs)(t2:s.heap.IsTuple p2 ys)
  (n1:p1 ∉ el z u o i1 i2) (n2:p2 ∉ el z u o i1 i2) (ex:xs[n]? = some x) (ey:ys[n]? = some y)
  (k:∀ g:Heap,ZT bb g z u o i1 i2 p1 p2 (rawInt s.heap.objs.size) (n+1) (n+1)->IsPair g s.heap.objs.size x y->(∀ c q,c ∉ el z u o i1 i2->s.heap.get? c=some q->g.get? c=some q)->Q (some (.ref s.heap.objs.size)) { s with heap:=g }) :
  wpAny (model prog w) A (pyNext (.ref z)) Q E s:=by
 obtain⟨zu,zo,z1,z2,uo,u1,u2,o1,o2,i12⟩:=d.ne;obtain⟨hz,hu,⟨a,b,ho⟩,h1,h2⟩:=Z;have nz:∀ p,p ∉ el z u o i1 i2->p≠z/\p≠o/\p≠i1/\p≠i2:=λp h=>by simp only[el,Qs,Qw,Yu,not_or]at h;exact⟨h.1,h.2.2.1,h.2.2.2.1,h.2.2.2.2⟩
 obtain⟨az,ao,a1,a2⟩:=nz p1 n1;obtain⟨bz,bo,b1,b2⟩:=nz p2 n2;have ty:s.TypeIs (.ref z) "zip":=⟨_,hz,rfl⟩;unfold pyNext;refine Qa (JA (Za (name:=Str.ofString "__next__") ty YV (QY YV ty F.entry_zip_next ?_ (F.args_zip_next_1 _))));show wpAny _ _ (field (.ref z) 2 >>= _) _ _ _;refine Qa (ZI hz rfl (x:=.bool false) rfl ?_);show wpAny _ _ (field (.ref z) 3 >>= _) _ _ _;refine Qa (ZI hz rfl (x:=.ref u) rfl (Qa (ZL hu rfl ?_)));show wpAny _ _ (Builtin.SmallTypes.ownedTupleIsFree (.ref z) >>= _) _ _ _;refine Qa ?_;unfold Builtin.SmallTypes.ownedTupleIsFree;refine Qa (ZI hz rfl (x:=.none) rfl (Qe ?_));simp only[ZC];refine Qa (Yg (Qa (ZI hz rfl (x:=.ref o) rfl (Qa (wpAny_setField_rec hz (by simp) λg1 e1 jK=>?_)))));replace e1:IsZip g1 z u o .ellipsis:=e1;refine Qa ?_;simp only[List.zipIdx_cons,List.zipIdx_nil,V3,Uf];refine Qa (Qa (VD ?_));show wpAny _ _ (Builtin.SmallTypes.nextOf (.ref i1) >>= _) _ _ _;refine Qa (Hk (h1.extBut jK.extBut (Zm z1)) (t1.extBut jK.extBut az) ex λg2 e2 c2=>Qe ?_);have q2:IsPair g2 o a b:=c2.extBut _ _ o1 (jK.extBut _ _ (Zm zo) ho);refine Qa (ZL q2 rfl (Qa (C8 (g:=g2) q2 λg3 e3 c3=>Qa (wpAny_letGo (Qe ?_)))));replace e3:IsPair g3 o x b:=e3;refine Qa (Qa (VD ?_));show wpAny _ _ (Builtin.SmallTypes.nextOf (.ref i2) >>= _) _ _ _;refine Qa (Hi (((h2.extBut jK.extBut (Zm z2)).extBut c2.extBut (Zm i12)).extBut c3.extBut (Zm o2)) (((t2.extBut jK.extBut bz).extBut c2.extBut b1).extBut c3.extBut bo) ey λg4 e4 c4=>Qe ?_);have q4:IsPair g4 o x b:=c4.extBut _ _ o2 e3;refine Qa (ZL q4 rfl (Qa (C8 (g:=g4) q4 λg5 e5 c5=>Qa (wpAny_letGo (Qe (Qe ?_))))));replace e5:IsPair g5 o x y:=e5;refine Qa (ZL e5 rfl (Qa (wpAny_newTuple ?_)));have sz:g5.objs.size=s.heap.objs.size:=by rw[c5.1,c4.1,c3.1,c2.1,jK.1]
 have z5:IsZip g5 z u o .ellipsis:=c5.extBut _ _ zo (c4.extBut _ _ z2 (c3.extBut _ _ zo (c2.extBut _ _ z1 e1)));have kp:∀ c q,c≠z->c≠o->c≠i1->c≠i2->s.heap.get? c=some q->g5.get? c=some q:=λc q x1 x2 x3 x4 e=>c5.extBut _ _ x2 (c4.extBut _ _ x4 (c3.extBut _ _ x2 (c2.extBut _ _ x3 (jK.extBut _ _ x1 e))));have w1:jJ bb g5 i1 p1 (n+1):=((e2.extBut c3.extBut (Zm o1)).extBut c4.extBut i12).extBut c5.extBut (Zm o1);have w2:g5.IsTupleIter i2 p2 (n+1):=e4.extBut c5.extBut (Zm o2);have zl:z<g5.objs.size:=Qq z5;show wpAny _ _ (Builtin.SmallTypes.ownedTupleHandOut (.ref z) (.ref g5.objs.size) >>= _) _ _ _;refine Qa ?_;unfold Builtin.SmallTypes.ownedTupleHandOut;have z6:IsZip (g5.push { cls:=.type "tuple",data:=.seq #[x,y] }) z u o .ellipsis:=Qd _ z5;refine Qa (wpAny_setField_rec z6 (by simp) λg7 e7 c7=>?_);replace e7:IsZip g7 z u o (rawInt g5.objs.size):=e7;refine wpAny_setField_rec e7 (by simp) λg8 e8 c8=>?_;replace e8:IsZip g8 z u o (rawInt g5.objs.size):=e8;have up:∀ c q,c≠z->g5.get? c=some q->g8.get? c=some q:=λc q h e=>c8.extBut _ _ h (c7.extBut _ _ h (Qd _ e));have nw:IsPair g8 g5.objs.size x y:=c8.extBut _ _ (Y2 zl) (c7.extBut _ _ (Y2 zl) (Qp _ rfl));rw[sz]at e8 nw;refine Qe ⟨_,rfl,Qe ?_⟩;show Q (some (.ref g5.objs.size)) _;rw[sz];refine k g8 ⟨e8,up _ _ (Zm zu) (kp _ _ (Zm zu) uo u1 u2 hu),⟨x,y,up _ _ (Zm zo) e5⟩,w1.at λq e=>up _ q (Zm z1) e,w2.at λq e=>up _ q (Zm z2) e⟩ nw λc q h e=>?_;obtain⟨y1,y2,y3,y4⟩:=nz c h;exact up c q y1 (kp c q y1 y2 y3 y4 e)
theorem UZ{o:Addr}{Q:Option Value->Shared->Prop}(hh:A.handled=none)(d:ZA z u o i1 i2)(Z:ZT bb s.heap z u o i1 i2 p1 p2 .none n n)(t1:jw bb s.heap p1 xs)(t2:s.heap.IsTuple p2 ys)
  (n1:p1 ∉ el z u o i1 i2) (n2:p2 ∉ el z u o i1 i2) (en:xs[n]? = none\/ys[n]? = none)
  (k:∀ g:Heap,(∀ c q,c ∉ el z u o i1 i2->s.heap.get? c=some q->g.get? c=some q)->Q none { s with heap:=g }) :
  wpAny (model prog w) A (pyNext (.ref z)) Q E s:=by
 obtain⟨zu,zo,z1,z2,uo,u1,u2,o1,o2,i12⟩:=d.ne;obtain⟨hz,hu,⟨a,b,ho⟩,h1,h2⟩:=Z;have nz:∀ p,p ∉ el z u o i1 i2->p≠z/\p≠o/\p≠i1/\p≠i2:=λp h=>by simp only[el,Qs,Qw,Yu,not_or]at h;exact⟨h.1,h.2.2.1,h.2.2.2.1,h.2.2.2.2⟩
 obtain⟨az,ao,a1,a2⟩:=nz p1 n1;obtain⟨bz,bo,b1,b2⟩:=nz p2 n2;have ty:s.TypeIs (.ref z) "zip":=⟨_,hz,rfl⟩;unfold pyNext;refine Qa (JA (Za (name:=Str.ofString "__next__") ty YV (QY YV ty F.entry_zip_next ?_ (F.args_zip_next_1 _))));show wpAny _ _ (field (.ref z) 2 >>= _) _ _ _;refine Qa (ZI hz rfl (x:=.bool false) rfl ?_);show wpAny _ _ (field (.ref z) 3 >>= _) _ _ _;refine Qa (ZI hz rfl (x:=.ref u) rfl (Qa (ZL hu rfl ?_)));show wpAny _ _ (Builtin.SmallTypes.ownedTupleIsFree (.ref z) >>= _) _ _ _;refine Qa ?_;unfold Builtin.SmallTypes.ownedTupleIsFree;refine Qa (ZI hz rfl (x:=.none) rfl (Qe ?_));simp only[ZC];refine Qa (Yg (Qa (ZI hz rfl (x:=.ref o) rfl (Qa (wpAny_setField_rec hz (by simp) λg1 e1 jK=>?_)))));replace e1:IsZip g1 z u o .ellipsis:=e1;refine Qa ?_;simp only[List.zipIdx_cons,List.zipIdx_nil,V3,Uf];have away:∀ (g:Heap) x,IsZip g z u o .ellipsis->(∃ q,g.get? x=some q/\q.cls=.type "StopIteration")->x≠z:=λg x e ⟨q,e',c'⟩ h=>by subst h;rw[e]at e';cases e';simp at c'
 refine Qa (Qa (VD ?_));show wpAny _ _ (Builtin.SmallTypes.nextOf (.ref i1) >>= _) _ _ _;cases ex:xs[n]? with
 | none=>
  refine Qa (UX hh (h1.extBut jK.extBut (Zm z1)) (t1.extBut jK.extBut az) ex λg2 x c2 hx=>?_);have e2:IsZip g2 z u o .ellipsis:=c2 _ _ z1 e1;have xz:=away g2 x e2 hx;obtain⟨q,hq,cq⟩:=hx;refine wpAny_setField_rec e2 (by simp) λg3 _ c3=>?_;refine Qa (Z5 (T:="StopIteration") (b:=true) ⟨q,c3.extBut _ _ xz hq,cq⟩ Vh (Qe (k g3 λc r h e=>?_)));obtain⟨y1,y2,y3,y4⟩:=nz c h;exact c3.extBut _ _ y1 (c2 _ _ y3 (jK.extBut _ _ y1 e))
 | some x=>
  have ey:ys[n]? = none:=by rcases en with h|h;rw[ex]at h;cases h;exact h
  refine Qa (Hk (h1.extBut jK.extBut (Zm z1)) (t1.extBut jK.extBut az) ex λg2 e2 c2=>Qe ?_);have q2:IsPair g2 o a b:=c2.extBut _ _ o1 (jK.extBut _ _ (Zm zo) ho);refine Qa (ZL q2 rfl (Qa (C8 (g:=g2) q2 λg3 e3 c3=>Qa (wpAny_letGo (Qe ?_)))));refine Qa (Qa (VD ?_));show wpAny _ _ (Builtin.SmallTypes.nextOf (.ref i2) >>= _) _ _ _;refine Qa (Hj hh (((h2.extBut jK.extBut (Zm z2)).extBut c2.extBut (Zm i12)).extBut c3.extBut (Zm o2)) (((t2.extBut jK.extBut bz).extBut c2.extBut b1).extBut c3.extBut bo) ey λg4 x' c4 hx=>?_);have e4:IsZip g4 z u o .ellipsis:=c4 _ _ z2 (c3.extBut _ _ zo (c2.extBut _ _ z1 e1));have xz:=away g4 x' e4 hx;obtain⟨q,hq,cq⟩:=hx;refine wpAny_setField_rec e4 (by simp) λg5 _ c5=>?_;refine Qa (Z5 (T:="StopIteration") (b:=true) ⟨q,c5.extBut _ _ xz hq,cq⟩ Vh (Qe (k g5 λc r h e=>?_)));obtain⟨y1,y2,y3,y4⟩:=nz c h;exact c5.extBut _ _ y1 (c4 _ _ y4 (c3.extBut _ _ y2 (c2.extBut _ _ y3 (jK.extBut _ _ y1 e))))
set_option maxHeartbeats 1000000 in
theorem U0(t1:jw bb s.heap p1 xs)(t2:s.heap.IsTuple p2 ys)
  (k:∀ g:Heap,ZT bb g (s.heap.objs.size+4) (s.heap.objs.size+2) (s.heap.objs.size+3) s.heap.objs.size (s.heap.objs.size+1) p1 p2 .none 0 0->(∀ c q,s.heap.get? c=some q->g.get? c=some q)->Q (.ref (s.heap.objs.size+4)) { s with heap:=g }) :
  wpAny (model prog w) A (call (.type "zip") [.ref p1,.ref p2]) Q E s:=by
 let g1:=s.heap.push { cls:=.type (if bb=true then "list_iterator" else "tuple_iterator"),data:=.fields #[.ref p1,.int 0 0] }
 let g2:=g1.push { cls:=.type "tuple_iterator",data:=.fields #[.ref p2,.int 0 0] }
 let g3:=g2.push { cls:=.type "tuple",data:=.seq #[.ref s.heap.objs.size,.ref g1.objs.size] }
 let g4:=g3.push { cls:=.type "tuple",data:=.seq #[.none,.none] }
 let g5:=g4.push { cls:=.type "zip",data:=.fields #[.none,.bool false,.bool false,.ref g2.objs.size,.ref g3.objs.size] }
 have mt:Meets (Builtin.«zip.__new__» ⟨[.type "zip",.ref p1,.ref p2],[]⟩) (λ_ R s'=>s'=s/\R (.ok (.ret (.ref g4.objs.size))) { s with heap:=g5 }):=.of_wp λprog w A R s' h=>by
  obtain⟨rfl,h⟩:=h;have eV:=sub_zip;obtain⟨hp,gn,dr,tk,os⟩:=s';cases bb
  ·have q1:Heap.IsTuple (Shared.heap ⟨hp,gn,dr,tk,os⟩) p1 xs:=t1;have q2:Heap.IsTuple (Shared.heap ⟨hp.push { cls:=.type "tuple_iterator",data:=.fields #[.ref p1,.int 0 0] },gn,dr,tk,os⟩) p2 ys:=t2.push _;wp_walk using JK q1,JK q2
   exact⟨_,rfl,h⟩
  ·have q1:Heap.IsList (Shared.heap ⟨hp,gn,dr,tk,os⟩) p1 xs:=t1;have q2:Heap.IsTuple (Shared.heap ⟨hp.push { cls:=.type "list_iterator",data:=.fields #[.ref p1,.int 0 0] },gn,dr,tk,os⟩) p2 ys:=t2.push _;wp_walk using Yr q1,JK q2
   exact⟨_,rfl,h⟩
 refine callType_new F.called_zip (by decide) (F.typeCall_zip_2 _ _) (F.newCall_zip_2 _ _) (λobj=>F.args_object_init_3 obj _ _) F.entry_zip_new mt ⟨rfl,?_⟩;have s1:g1.objs.size=s.heap.objs.size+1:=Zt ..;have s2:g2.objs.size=s.heap.objs.size+2:=by rw[Zt,s1]
 have s3:g3.objs.size=s.heap.objs.size+3:=by rw[Zt,s2]
 have s4:g4.objs.size=s.heap.objs.size+4:=by rw[Zt,s3]
 have a5:g5.get? g4.objs.size=some { cls:=.type "zip",data:=.fields #[.none,.bool false,.bool false,.ref g2.objs.size,.ref g3.objs.size] }:=Qp _ rfl;have zX:∀ {c q},g3.get? c=some q->g5.get? c=some q:=λe=>Qd _ (Qd _ e);have a4:g5.get? g3.objs.size=some { cls:=.type "tuple",data:=.seq #[.none,.none] }:=Qd _ (Qp _ rfl);have a3:g5.get? g2.objs.size=some { cls:=.type "tuple",data:=.seq #[.ref s.heap.objs.size,.ref g1.objs.size] }:=zX (Qp _ rfl);have a2:g5.get? g1.objs.size=some { cls:=.type "tuple_iterator",data:=.fields #[.ref p2,.int 0 0] }:=zX (Qd _ (Qp _ rfl));have a1:g5.get? s.heap.objs.size=some { cls:=.type (if bb=true then "list_iterator" else "tuple_iterator"),data:=.fields #[.ref p1,.int 0 0] }:=zX (Qd _ (Qd _ (Qp _ rfl)));rw[s2,s3,s4]at a5;rw[s3]at a4;rw[s1,s2]at a3;rw[s1]at a2;show _/\_;rw[s4];exact⟨⟨_,a5,rfl⟩,k g5 ⟨a5,a3,⟨_,_,a4⟩,(by cases bb;exact⟨_,a1,rfl,rfl⟩;exact⟨_,a1,rfl,rfl⟩),⟨_,a2,rfl,rfl⟩⟩ λc q e=>zX (Qd _ (Qd _ (Qd _ e)))⟩
end
theorem Hl{t':Nat}{ch:List Addr}(I:Inv X Tk σ H s)(k:∀ b o,b ∉ ch->s.heap.get? b=some o->h'.get? b=some o)(hf:∀ b∈ch,mH X Tk H b) :
  Inv X Tk σ H { s with heap:=h',toks:=t' }:=by
 have vO:∀ b u,H b=some u->b ∉ ch:=λb u e z=>by rw[(hf b z).1]at e;cases e
 refine I.step (g':=s.gens) (d':=s.drawn) (ch:=ch) (λb hb=>?_) (λb o _ _ hc e _=>k b o hc e) (λb o _ _ hc e _=>⟨o.slots,k b o hc e⟩) (λ_ _ _ _ n=>n)
  (λb o hc e=>⟨o,k b o hc e⟩) (λ_ _ e=>e) (λ_ _ _ e=>e) (λb ps e=>⟨#[],by rw[e];simp⟩) (λm hm=>?_) (λb u e=>?_) I.bare
 ·obtain⟨f0,f1,f2,f3,f4,f5⟩:=hf b hb;exact⟨f3,f1,f4,f5⟩
 ·obtain⟨o,es,ep,ho,r⟩:=hm;exact⟨o,es,ep,k _ o (λz=>(hf _ z).2.1 rfl) ho,r⟩
 ·refine(I.aG b u e).ix (λc v hc q=>k c v ?_ q) (λ_ q=>q) λ_ _ q=>q;rcases hc with z|z
  ·rw[z];exact vO b u e
  ·exact vO c _ z
def oD (b:Bool)(K:PySem.W.Frag)(H:Hp)(p:Addr)(xs:List V):Prop:=if b=true then cW K H p xs else cG K H p xs
theorem zY{xs:List V}(I:Inv X Tk σ H s)(h:oD b X.K H a xs):∃ aq:List Value,bc xs aq/\jw b s.heap a aq.toArray:=by
 cases b
 ·obtain⟨aq,r,t,_⟩:=I.tuple (show cG X.K H a xs from h);exact⟨aq,r,t⟩
 ·obtain⟨aq,r,t,_⟩:=I.list (show cW X.K H a xs from h);exact⟨aq,r,t.isList⟩
theorem U1{xs ys:List V}(I:Inv X Tk σ H s)(h:oD b X.K H a xs)(h':oD b X.K H a ys):xs=ys:=by
 cases b
 ·exact I.fE h h'
 ·exact I.jD h h'
def C9 (K:PySem.W.Frag)(bb:Bool)(p1 p2:Addr):It:=
 ⟨λi H=>∃ xs ys x y,oD bb K H p1 xs/\cG K H p2 ys/\xs[i]? = some x/\ys[i]? = some y,
  λi H v H'=>∃ T x y,v=.ref T/\H T=none/\(∀ xs,oD bb K H p1 xs->xs[i]? = some x)/\(∀ ys,cG K H p2 ys->ys[i]? = some y)/\H'=upd H T (.tup [x,y]),
  λi H=>∃ xs ys,oD bb K H p1 xs/\cG K H p2 ys/\(xs.length<=i\/ys.length<=i)⟩
theorem U2{w:World}{elts:List Expr}{kt:Nat}{tp:Pos}(bb:Bool)(z u o i1 i2 p1 p2:Addr)(d:ZA z u o i1 i2)(n1:p1 ∉ el z u o i1 i2)(n2:p2 ∉ el z u o i1 i2) :
  Turn P w K (.Tuple elts kt tp) (C9 K bb p1 p2) (el z u o i1 i2) z (λi h=>ZT bb h z u o i1 i2 p1 p2 .none i i) where
 mem:=by simp[el]
 obj:=λi h st b hb=>by
  obtain⟨hz,hu,⟨a,c,ho⟩,s1,⟨o2,e2,c2,d2⟩⟩:=st;obtain⟨o1,_,e1,d1⟩:=s1.obj;simp only[el,Qs,Qw,Yu]at hb;rcases hb with rfl|rfl|rfl|rfl|rfl
  ·exact⟨_,hz,λv e=>nomatch e⟩
  ·exact⟨_,hu,λv e=>nomatch e⟩
  ·exact⟨_,ho,λv e=>nomatch e⟩
  ·exact⟨_,e1,λv e=>by rw[d1]at e;cases e⟩
  ·exact⟨_,e2,λv e=>by rw[d2]at e;cases e⟩
 keep:=λi h h' st k=>by obtain⟨hz,hu,⟨a,c,ho⟩,h1,h2⟩:=st;exact⟨k z (by simp[el]) _ hz,k u (by simp[el]) _ hu,⟨a,c,k o (by simp[el]) _ ho⟩,h1.at λq e=>k i1 (by simp[el]) q e,h2.at λq e=>k i2 (by simp[el]) q e⟩
 item:=by
  intro X hP hw hK hc i Tk s σ H E I hf st hg;subst hP hw hK;obtain⟨xs,ys,x,y,q1,q2,ex,ey⟩:=hg;obtain⟨as,ra,ta⟩:=zY I q1;obtain⟨bs,rb,tb,_⟩:=I.tuple q2;obtain⟨ux,hx,rx⟩:=ra.get ex;obtain⟨uy,hy,ry⟩:=rb.get ey;refine UY d st ta (show s.heap.IsTuple p2 bs.toArray from tb) n1 n2 (by simpa using hx) (by simpa using hy) λg Z nw kp=>?_;refine⟨_,rfl,wpAny_letOwnedTupleGo_zip (s:={ s with heap:=g }) Z.hz λg' sO sb=>?_⟩;have fr:H s.heap.objs.size=none:=I.aG.fresh (Qj _);have I1:Inv X Tk σ (upd H s.heap.objs.size (.tup [x,y])) { s with heap:=s.heap.push { cls:=.type "tuple",data:=.seq #[ux,uy] } }:=
   I.laid (t':=s.toks) (λb q e=>Qd _ e) (Qj _) (show dA X.prog X.w _ _ _ (.tup _)from⟨(by show 2<=sizeLine;decide),[ux,uy],.cons rx (.cons ry .nil),lD.new _ _⟩)
  have lt:∀ b∈el z u o i1 i2,b<s.heap.objs.size:=λb hb=>by
   obtain⟨hz,hu,⟨a,c,ho⟩,s1,⟨o2,e2,_⟩⟩:=st;obtain⟨o1,_,e1,_⟩:=s1.obj;simp only[el,Qs,Qw,Yu]at hb;rcases hb with rfl|rfl|rfl|rfl|rfl
   ·exact Qq hz
   ·exact Qq hu
   ·exact Qq ho
   ·exact Qq e1
   ·exact Qq e2
  have hn:∀ b∈el z u o i1 i2,upd H s.heap.objs.size (.tup [x,y]) b=none:=λb hb=>by rw[a_ (Q4 (lt b hb))];exact(hf b hb).1
  have I2:Inv X Tk σ (upd H s.heap.objs.size (.tup [x,y])) { s with heap:=g' }:=Hl (s:={ s with heap:=s.heap.push { cls:=.type "tuple",data:=.seq #[ux,uy] } }) (t':=s.toks) (ch:=el z u o i1 i2) I1 (λb q nb e=>by
   have bz:b≠z:=λh=>nb (by simp[el,h]);rcases Heap.get?_push_cases e with⟨rfl,rfl⟩|e'
   ·exact sb.extBut _ _ bz nw
   ·exact sb.extBut _ _ bz (kp b q nb e')) λb hb=>by obtain⟨f0,f1,f2,f3,f4,f5⟩:=hf b hb;exact⟨hn b hb,f1,f2,f3,f4,f5⟩
  refine⟨.ref s.heap.objs.size,_,I2,rfl,⟨s.heap.objs.size,x,y,rfl,fr,λzs hz=>?_,λzs hz=>?_,rfl⟩,?_,hn⟩
  ·rw[U1 I hz q1];exact ex
  ·rw[I.fE hz q2];exact ey
  ·obtain⟨_,hu,⟨a,c,ho⟩,h1,h2⟩:=Z;obtain⟨zu,zo,z1,z2,_⟩:=d.ne;exact⟨sO,sb.extBut _ _ (Zm zu) hu,⟨a,c,sb.extBut _ _ (Zm zo) ho⟩,h1.extBut sb.extBut (Zm z1),h2.extBut sb.extBut (Zm z2)⟩
 done:=by intro X hP hw hK hc i Tk s σ H E I hf st hg;subst hP hw hK;obtain⟨xs,ys,q1,q2,hx⟩:=hg;obtain⟨as,ra,ta⟩:=zY I q1;obtain⟨bs,rb,tb,_⟩:=I.tuple q2;have la:=ra.length;have lb:=rb.length;refine UZ (I.ok.hd hc) d st ta (show s.heap.IsTuple p2 bs.toArray from tb) n1 n2 (by rcases hx with h|h;exact .inl (by simp;omega);exact .inr (by simp;omega)) λg kp=>⟨rfl,?_⟩;exact Hl (t':=s.toks) (ch:=el z u o i1 i2) I (λb q nb e=>kp b q nb e) hf
 self:=λ_ _ _ _ _ st h=>wpAny_pyIter_zip st.hz h
section
variable {X:Cx}{a b c e:Expr}{es elts:List Expr}{fa fb fc f:aF}{g:cK}{pos p p1 p2 tp:Pos}{kt:Nat}
def Hm (K:PySem.W.Frag)(ta:TA):TI:=λσ H R=>ta σ H λvs H1=>∃ bb p1 p2,vs=[.ref p1,.ref p2]/\(∃ xs,oD bb K H1 p1 xs)/\(∃ ys,cG K H1 p2 ys)/\R (C9 K bb p1 p2) H1
theorem U3{ta:TA}(hg:Gl X "zip")(hm:X.mg "zip" = none)(ha:PA X [a,b] ta)(hs:starEach [a,b] X.env=[(false,eval a X.env),(false,eval b X.env)]:=by rfl)(mr:starEach [b] X.env=[(false,eval b X.env)]:=by rfl) :
  PI X (.Tuple elts kt tp) (.Call (.Name "zip" p) [a,b] [] pos) (Hm X.K ta):=by
 intro Tk s σ H R I h;refine Call_ (uj I hg hm boot_zip (Ji (bg (ha pos Tk s σ H _ I h) λus s1 ⟨vs,H1,I1,r1,q1⟩=>?_) (by rw[hs,mr]) (by rw[mr];rfl)));obtain⟨bb,p1,p2,e,⟨xs,hx⟩,⟨ys,hy⟩,q⟩:=q1;subst e;cases r1 with
 | cons r rr=>
  cases rr with
  | cons r' rr=>
   cases rr;cases r;cases r';obtain⟨as,ra,Ho⟩:=zY I1 hx;obtain⟨bs,rb,tb,_⟩:=I1.tuple hy;have l1:p1<s1.heap.objs.size:=by cases bb<;>(obtain⟨_,e,_⟩:=Ho;exact Qq e)
   have l2:p2<s1.heap.objs.size:=by obtain⟨_,e,_⟩:=tb;exact Qq e
   refine U0 Ho (show s1.heap.IsTuple p2 bs.toArray from tb) λg Z kp=>?_;have I2:Inv X Tk σ H1 { s1 with heap:=g }:=I1.kept (t':=s1.toks) kp;refine wpAny_pyIter_zip Z.hz ?_;have dd:ZA (s1.heap.objs.size+4) (s1.heap.objs.size+2) (s1.heap.objs.size+3) s1.heap.objs.size (s1.heap.objs.size+1):=⟨by generalize s1.heap.objs.size=n;unfold el;simp only[Q5,Qs,Qw,Yu,not_or,not_false_eq_true,JE,and_true];have ne:∀ {x y:Nat},x≠y->(x:Addr)≠(y:Addr):=λh=>h;refine⟨⟨ne ?_,ne ?_,ne ?_,ne ?_⟩,⟨ne ?_,ne ?_,ne ?_⟩,⟨ne ?_,ne ?_⟩,ne ?_⟩<;>(intro h;have h':(_:Nat)=(_:Nat):=h;omega)⟩
   have zZ:∀ b∈el (s1.heap.objs.size+4) (s1.heap.objs.size+2) (s1.heap.objs.size+3) s1.heap.objs.size (s1.heap.objs.size+1),s1.heap.objs.size<=b:=λb hb=>by simp only[el,Qs,Qw,Yu]at hb;rcases hb with rfl|rfl|rfl|rfl|rfl<;>first|exact Qj _|exact Jk _ _
   refine⟨s1.heap.objs.size+4,el (s1.heap.objs.size+4) (s1.heap.objs.size+2) (s1.heap.objs.size+3) s1.heap.objs.size (s1.heap.objs.size+1),_,_,H1,rfl,I2,U2 _ _ _ _ _ _ p1 p2 dd (λh=>absurd (zZ _ h) (Nat.not_le_of_lt l1)) (λh=>absurd (zZ _ h) (Nat.not_le_of_lt l2)),Z,λb hb=>?_,q⟩;exact I1.o5 (zZ b hb) (I1.aG.fresh (zZ b hb))
@[simp] def z_ (g:cK):kU:=λρ=>match g ρ with
 | some ([.lst ds,.tup es],ρ1)=>if ds.length<=1000 then some ((ds.zip es).map λx=>.tup [x.1,x.2],ρ1)else none
 | some ([.tup ds,.tup es],ρ1)=>if ds.length<=1000 then some ((ds.zip es).map λx=>.tup [x.1,x.2],ρ1)else none
 | _=>none
def sP (bb:Bool)(K:PySem.W.Frag)(H:Hp)(w:Wn)(p:Addr)(vs:List V):Prop:=if bb=true then(KL K p vs\/(Rd H p (.lst vs)/\w p=none))else cG K H p vs
theorem sP.sq{p:Addr}(h:sP bb K H w p vs):oD bb K H p vs:=by
 cases bb
 ·exact h
 ·exact(show KL K p vs\/(Rd H p (.lst vs)/\w p=none)from h).elim (λz=>z.sq) λz=>.inl z.1
theorem sP.go{H':Hp}{w':Wn}{p:Addr}(wl:WL K w H)(st:dY H w H' w')(h:sP bb K H w p vs):sP bb K H' w' p vs:=by
 cases bb
 ·exact cG.go wl st h
 ·exact(show KL K p vs\/(Rd H p (.lst vs)/\w p=none)from h).elim .inl λz=>.inr (zr.go st z.2 z.1)
theorem It.zip{p1 p2:Addr}{ds es:List D}(l1:ds.length=vs.length)(l2:es.length=us.length):m9 K (C9 K bb p1 p2) ((ds.zip es).map λx=>.tup [x.1,x.2]) λH w=>sP bb K H w p1 vs/\cG K H p2 us/\af K H w .f 0 ds vs []/\af K H w .f 0 es us []:=by
 refine⟨λi H w p hi=>?_,λi H w x H' d p wl hd y=>?_,λH w p=>⟨vs,us,p.1.sq,p.2.1,?_⟩,λH w H' w' p wl st=>⟨p.1.go wl st,cG.go wl st p.2.1,af.go wl st p.2.2.1 nM,af.go wl st p.2.2.2 nM⟩⟩
 ·have bS:i<vs.length/\i<us.length:=by simp[Js]at hi;omega
  exact⟨vs,us,vs[i]'bS.1,us[i]'bS.2,p.1.sq,p.2.1,by simp[bS.1],by simp[bS.2]⟩
 ·obtain⟨T,v,u,rfl,hT,hv,hu,rfl⟩:=y;obtain⟨q1,q2,r1,r2⟩:=p;rw[Qm]at hd;cases hz:(ds.zip es)[i]? with
  | none=>rw[hz]at hd;cases hd
  | some de=>
   rw[hz]at hd;cases hd;obtain⟨e1,e2⟩:=Vq.mp hz;obtain⟨v',U4,rv⟩:=r1.get e1;obtain⟨u',m7,ru⟩:=r2.get e2;have ev:v'=v:=by have:=hv vs q1.sq;rw[U4]at this;exact QL this
   have eu:u'=u:=by have:=hu us q2;rw[m7]at this;exact QL this
   subst ev eu;have mo:∀ a o,H a=some o->upd H T (.tup [v',u']) a=some o:=λa o e=>by rw[a_ (gC e hT)];exact e
   have st:dY H w (upd H T (.tup [v',u'])) w:=λa x e n=>⟨sm (mo a x e),n⟩;exact⟨⟨mo,λt=>t.upd rfl (.inl hT)⟩,.tup fD (.cons (F:=[]) (G:=[]) (Rep.mi rv wl st) (.cons (F:=[]) (G:=[]) (Rep.mi ru wl st) .nil nM) nM),q1.go wl st,cG.go wl st q2,r1.mi wl st,r2.mi wl st⟩
 ·simp[Js];omega
theorem U5(hm:X.mg "zip" = none)(ha:iq X [a,b] g)(hg:Gl X "zip":=by rfl)(hs:starEach [a,b] X.env=[(false,eval a X.env),(false,eval b X.env)]:=by rfl)(mr:starEach [b] X.env=[(false,eval b X.env)]:=by rfl):uG X (.Tuple elts kt tp) (.Call (.Name "zip" p) [a,b] [] pos) (z_ g):=⟨have ha:=ha.o;PI.imp (U3 hg hm ha hs mr) λσ H R aj=>by
 obtain⟨ρ,w,t,ds,ρ',gd,ee,k⟩:=aj;have fin:∀ {x:D} {d1 d2:List D} {ρ1:aW},g ρ=some ([x,.tup d2],ρ1)->(x=.lst d1\/x=.tup d1)->d1.length<=1000->ds=(d1.zip d2).map (λx=>.tup [x.1,x.2])->ρ'=ρ1->Hm X.K (zH X.K g) σ H R:=λ{x d1 d2 ρ1} h1 hx hl e1 e2=>by
  subst e1 e2;refine⟨ρ,w,t,_,_,gd,h1,λvs H1 w1 g1 aS r1=>?_⟩;obtain⟨v,v',rfl,rv,U6⟩:=two r1;obtain⟨p2,bs,rfl,q2,s2⟩:=U6.eI;have hs:∃ bb p1 as,v=.ref p1/\sP bb X.K H1 w1 p1 as/\af X.K H1 w1 .f 0 d1 as []:=by
   rcases hx with rfl|rfl
   ·cases rv with
    | kl h r=>exact⟨true,_,_,rfl,.inl h,r⟩
    | shr h n r=>exact⟨true,_,_,rfl,.inr ⟨h,n⟩,r⟩
   ·obtain⟨p1,as,e,q1,s1⟩:=rv.eI;exact⟨false,p1,as,e,q1,s1⟩
  obtain⟨bb,p1,as,rfl,q1,s1⟩:=hs;refine⟨bb,p1,p2,rfl,⟨_,q1.sq⟩,⟨_,q2⟩,k _ _ H1 w1 g1 aS (It.zip s1.length s2.length) ⟨q1,q2,s1,s2⟩ (pf ?_)⟩;simp[Js];omega
 unfold z_ at ee;split at ee;next d1 d2 ρ1 h1=>
  split at ee;next hl=>
   cases ee;exact fin h1 (.inl rfl) hl rfl rfl
  ·cases ee
 next d1 d2 ρ1 h1=>
  split at ee;next hl=>
   cases ee;exact fin h1 (.inr rfl) hl rfl rfl
  ·cases ee
 ·cases ee⟩
end
abbrev pN:=List D->aW->Option aW
def U7 (K:PySem.W.Frag)(b:Nat)(pt:pN):oZ:=λvs σ H Q=>∃ ds ρ w t ρ',Good K ρ σ H w t/\af K H w .f 0 ds vs []/\pt ds ρ=some ρ'/\∀ aO H' w',aO.length=σ.length->(∀ i,i<b->aO[i]? = σ[i]?)->Good K ρ' aO H' w' t->Go H w H' w'->Q aO H'
theorem n9.imp{tg:List Expr}{t t':oZ}(h:n9 X tg t)(i:∀ v σ H Q,t' v σ H Q->t v σ H Q):n9 X tg t':=λTk s σ H v u Q I r q=>h Tk s σ H v u Q I r (i v σ H Q q)
abbrev U8 (X:Cx)(b:Nat)(tg:List Expr)(pt:pN):Prop:=n9 X tg (U7 X.K b pt)
structure pO (X:Cx) (b:Nat) (e:List Expr) (f:pN):Prop where mk::o:U8 X b e f
@[simp] def gq:pN:=λds ρ=>match ds with
 | []=>some ρ
 | _=>none
@[simp] def bU (pt:gE)(ps:pN):pN:=λds ρ=>match ds with
 | []=>none
 | d::r=>match pt d ρ with
  | some ρ1=>ps r ρ1
  | none=>none
@[simp] def gX (ps:pN):gE:=λd ρ=>match d with
 | .tup ds=>ps ds ρ
 | _=>none
section
variable {X:Cx}{k b:Nat}{e:Expr}{es:List Expr}{pt:gE}{ps:pN}{pos:Pos}
theorem oE:pO X b [] gq:=⟨n9.imp ON λv σ H Q aj=>by
 obtain⟨ds,ρ,w,t,ρ',g,r,e,k⟩:=aj;unfold gq at e;split at e
 ·cases e;generalize hF:([]:List Addr)=F at r;cases r;exact⟨rfl,k σ H w rfl (λ_ _=>rfl) g Go.refl⟩
 ·cases e⟩
theorem gK(h1:uH X b e pt)(h2:pO X b es ps)(hs:(assignEach (e::es) X.env).map (·.2)=assign e X.env::(assignEach es X.env).map (·.2):=by rfl):pO X b (e::es) (bU pt ps):=⟨have h1:=h1.o;have h2:=h2.o;n9.imp (OO h1 h2 hs) λv σ H Q aj=>by
 obtain⟨ds,ρ,w,t,ρ',g,r,e,k⟩:=aj;unfold bU at e;split at e
 ·cases e
 next d bp=>
  split at e;next ρ1 h1=>
   generalize hF:([]:List Addr)=F at r;cases r with
   | cons ra rb _=>
    have z1:=ra.zero;have z2:=rb.zero;subst z1 z2;refine⟨_,_,rfl,d,ρ,w,t,ρ1,g,ra,h1,λrN H1 w1 l1 s1 g1 aS=>⟨bp,ρ1,w1,t,ρ',g1,rb.mi g.wl aS.cI,e,λmJ H2 w2 l2 s2 g2 cD=>k mJ H2 w2 (l2.trans l1) (λi hi=>(s2 i hi).trans (s1 i hi)) g2 (aS.trans cD)⟩⟩
  ·cases e⟩
theorem oF(hc:X.calm=true)(h:pO X b es ps)(hl:∀ ds ρ ρ',ps ds ρ=some ρ'->ds.length=n)(hn:(assignEach es X.env).length=n:=by rfl)(ik:(assignEach es X.env).findIdx? (·.1)=none:=by rfl):uH X b (.Tuple es k pos) (gX ps):=⟨have h:=h.o;PG.imp (OQ hc h hn ik) λv σ H Q aj=>by
 obtain⟨d,ρ,w,t,ρ',g,r,e,k⟩:=aj;unfold gX at e;split at e;next ds=>
  obtain⟨a,vs,rfl,hq,rs⟩:=r.eI;exact⟨a,vs,rfl,hq,by rw[<- rs.length];exact hl _ _ _ e,ds,ρ,w,t,ρ',g,rs,e,k⟩
 ·cases e⟩
theorem uN{p q:gE}:∀ ds ρ ρ',bU p (bU q gq) ds ρ=some ρ'->ds.length=2:=λds ρ ρ' h=>by
 match ds with
 | []=>cases h
 | [_]=>unfold bU at h;simp at h;split at h<;>cases h
 | [_,_]=>rfl
 | _::_::_::_=>
  exfalso;unfold bU at h;simp at h;split at h
  ·split at h<;>cases h
  ·cases h
end
theorem Hq:∀ {bs:List Bool} {us:List Value},bc (bs.map V.bl) us->LSm.BoolsAre us bs
 | [],_,h=>by cases h;exact .nil
 | b::bs,_,h=>by
  cases h with
  | cons r rr=>
   cases r;exact .cons b (Hq rr)
section
variable {X:Cx}{a b c e:Expr}{es:List Expr}{fa fb fc f:aF}{g:cK}{pos p p1 p2:Pos}
theorem U9(hc:X.calm=true):kO X (.builtin "all") (λxs H Q=>∃ (a:Addr) (bs:List Bool),xs=[.ref a]/\cW X.K H a (bs.map V.bl)/\Q (.bl (bs.all id)) H):=by
 intro Tk s σ H xs us Q I r h;obtain⟨l,bs,rfl,hq,q⟩:=h;obtain⟨u,rfl,ru⟩:=mM r;cases ru;obtain⟨aq,rv,pl,hz⟩:=I.list hq;have hb:=Hq rv;have hl:s.heap.IsList l aq.toArray:=pl.isList;have lt:l<s.heap.objs.size:=by obtain⟨_,e,_⟩:=hl;exact Qq e
 refine call_all_walk (Yr hl ⟨s.heap.objs.size,[s.heap.objs.size,l],[s.heap.objs.size],aq.toArray.size,_,_,λi=>(bs[i]?).getD true,rfl,Walks.list (A:=X.A.in1) (I.ok.hd hc) _ l (Q4 lt) aq.toArray,
  ⟨⟨_,Qp _ rfl,rfl,rfl⟩,hl.push _⟩,λi v s' Q' E' hP hQ=>?_,λh' tk hk=>?_⟩)
 ·obtain⟨b,e,rfl⟩:=hb.get i v (by simpa using hP);simp only[e,Option.getD_some]at hQ;exact Z9 hQ
 ·have e:((range aq.toArray.size).all λi=>(bs[i]?).getD true)=bs.all id:=by rw[Qo,hb.length];exact LSm.range_all bs
  rw[e];exact⟨.bl (bs.all id),H,I.kept λb o z=>hk b o (λm=>by rw[QF.mp m]at z;exact QT _ (Qq z)) (Qd _ z),rfl,q⟩
def qP:List D->Option (List Bool)
 | []=>some []
 | .bl b::r=>(qP r).map (b :: ·)
 | _=>none
def qQ:List D->Option D
 | [.lst ds]=>(qP ds).map λbs=>.bl (bs.all id)
 | _=>none
theorem Hr:∀ {ds:List D} {vs:List V} {bs:List Bool},af K H w o 0 ds vs []->qP ds=some bs->vs=bs.map V.bl
 | ds,vs,bs,r,e=>by
  generalize hF:([]:List Addr)=F at r;cases r with
  | nil=>cases e;rfl
  | @cons _ d v eG ip F' G' r1 r2 _=>
   have h2:G'=[]:=r2.zero;subst h2;cases r1 with
   | bl b=>
    unfold qP at e;cases e':qP eG with
    | none=>rw[e']at e;cases e
    | some oG=>
     rw[e']at e;cases e;rw[Hr r2 e'];rfl
   | _=>cases e
theorem Hs(hc:X.calm=true)(hm:X.mg "all" = none)(ha:iq X [a] g)(hg:Gl X "all":=by rfl)(he:starEach [a] X.env=(false,eval a X.env)::starEach [] X.env:=by rfl)(cA:(backTo pos (starEach [] X.env)).any (·.1)=false:=by rfl):QD X (.Call (.Name "all" p) [a] [] pos) (eB qQ g):=⟨have ha:=ha.o;PE.imp (o9 (U9 hc) hg hm PyProof.Rows.boot_all ha (by decide) (by decide) he cA) (CS λds d h=>by
  unfold qQ at h;split at h;next U_=>
   cases e:qP U_ with
   | none=>rw[e]at h;cases h
   | some bs=>
    rw[e]at h;cases h;refine⟨_,rfl,λH w vs wl r Q hq=>?_⟩;obtain⟨v,rfl,rv⟩:=one r;obtain⟨p,ys,rfl,hs,rs⟩:=rv.fM;rw[Hr rs e]at hs;exact⟨p,bs,rfl,hs,hq⟩
  ·cases h)⟩
theorem Ht{α:Type}(l:List α)(f:α->Bool):qP (l.map λi=>.bl (f i))=some (l.map f):=by
 induction l with
 | nil=>rfl
 | cons a l ih=>rw[Qx,qP,ih];rfl
end
inductive IT where
 | int|bool|tuple|list|str
def IT.nm:IT->String
 | .int=>"int"
 | .bool=>"bool"
 | .tuple=>"tuple"
 | .list=>"list"
 | .str=>"str"
def gY:IT->D->Bool
 | .int,.int _=>true
 | .int,.bl _=>true
 | .bool,.bl _=>true
 | .tuple,.tup _=>true
 | .list,.lst _=>true
 | .str,.str _=>true
 | _,_=>false
def Hu:D->String
 | .bK=>"NoneType"
 | .bl _=>"bool"
 | .int _=>"int"
 | .str _=>"str"
 | .tup _=>"tuple"
 | .gS _ _=>"dict"
 | .exc _=>"object"
 | .ob _ _ _ _=>"function"
 | .mp _ _=>"dict"
 | .lst _=>"list"
section
variable {X:Cx}{Tk:List (Addr×Obj)}{σ:St}{H:Hp}{s:Shared}
theorem V_{x:V}{u c:Value}{A:Around}{E:Tl}(I:Inv X Tk σ H s)(rx:bP x u)(r:Rep X.K H w o q d x F)
  (e:W.kitOne X.K (.type (Hu d)) c=some b) (hx:∀ nm,d ≠ .exc nm) (hi:∀ C fs p ds,d ≠ .mp (.i C fs p) ds) (h:∀ tk,Q (.bool b) { s with toks:=tk }):wpAny (model X.prog X.w) A (call (.builtin "isinstance") [u,c]) Q E s:=by
 cases r with
 | exc _ _ _=>exact absurd rfl (hx _)
 | ob h1 h2 x r=>
  cases rx;obtain⟨e1,_⟩:=(show dA X.prog X.w H s.heap _ (.ij _ _)from I.aG _ _ h1);exact Zr SS I.iA ⟨_,e1,x.1⟩ e (λz=>nomatch z) h
 | bK=>exact ko I rx .bK e h
 | bl y=>exact ko I rx (.bl y) e h
 | int i=>exact ko I rx (.int i) e h
 | str y=>exact ko I rx (.str y) e h
 | tup ha _=>exact ko I rx (.tup ha) e h
 | gS ha _ _=>exact ko I rx (.dK ha) e h
 | kl ha _=>
  obtain⟨ob,aq,n,hk,hc,hd,_⟩:=ha;cases rx;exact Zr Vv I.iA ⟨ob,I.iA _ _ hk,hc⟩ e (λz=>nomatch z) h
 | shr ha _ _=>
  rcases ha with ha|⟨ob,ha⟩
  ·exact ko I rx (.lst ha) e h
  ·exact ko I rx (.ij ha) e h
 | own ha _ _ _=>exact ko I rx (.lst ha) e h
 | @qH a vs ds k y ha i _ _ _=>
  cases k with
  | t ks=>cases i;exact ko I rx (.dT ha) e h
  | k ks=>cases i;exact ko I rx (.dK ha) e h
  | i C fs p=>exact absurd rfl (hi _ _ _ _)
 | @px q a vs ds k y ha i _ _ _=>
  cases k with
  | t ks=>cases i;exact ko I rx (.dT ha) e h
  | k ks=>cases i;exact ko I rx (.dK ha) e h
  | i C fs p=>exact absurd rfl (hi _ _ _ _)
theorem Wa{C:Str}{fs:List Str}{pn:Option Addr}{x:V}{u:Value}{A:Around}{E:Tl}(I:Inv X Tk σ H s)(rx:bP x u)(r:Rep X.K H w o q (.mp (.i C fs pn) ds) x F)
  (T:IT) (h:∀ tk,Q (.bool false) { s with toks:=tk }):wpAny (model X.prog X.w) A (call (.builtin "isinstance") [u,.type T.nm]) Q E s:=by
 cases r with
 | qH ha i _ _ _=>
  obtain⟨C,dx,_,rfl,c,_⟩:=i;exact ko I rx (.ins ha c.cl c.ha c.hn c.vT c.hm) (c.no _ (by cases T<;>simp[IT.nm])) h
 | px ha i _ _ _=>
  obtain⟨C,dx,_,rfl,c,_⟩:=i;exact ko I rx (.ins ha c.cl c.ha c.hn c.vT c.hm) (c.no _ (by cases T<;>simp[IT.nm])) h
theorem Wb(T:IT)(d:D)(hx:∀ nm,d ≠ .exc nm):W.kitOne K (.type (Hu d)) (.type T.nm)=some (gY T d):=by cases T<;>cases d<;>first|rfl|exact absurd rfl (hx _)
end
section
variable {X:Cx}{a b c e:Expr}{es:List Expr}{fa fb fc f:aF}{ga gb:cS}{g:cK}{pos p p1 p2 pT:Pos}
theorem Wc(T:IT):kO X (.builtin "isinstance") (λxs H Q=>∃ x w o q F d,xs=[x,.ty T.nm]/\Rep X.K H w o q d x F/\Q (.bl (gY T d)) H):=by
 intro Tk s σ H xs us Q I r h;obtain⟨x,w,o,q,F,d,rfl,rd,hq⟩:=h;obtain⟨u,v,rfl,ru,rv⟩:=FN r;cases rv;by_cases hx:∃ nm,d=.exc nm
 ·obtain⟨nm,rfl⟩:=hx;cases rd with
  | exc ha xo _=>
   obtain⟨C,hc,k⟩:=xo;cases ru;obtain⟨e1,_⟩:=(show dA X.prog X.w H s.heap _ (.ij _ _)from I.aG _ _ ha);have hT:gY T (.exc nm)=false:=by cases T<;>rfl
   rw[hT]at hq;refine SH (x:=_) I.iA ⟨e1,hc⟩ k.xc (by cases T<;>kernel_rfl) (k.no _ (by cases T<;>simp[IT.nm])) ⟨.bl false,H,I.tok _,rfl,hq⟩
 ·by_cases hi:∃ C fs p ds,d=.mp (.i C fs p) ds
  ·obtain⟨C,fs,p,ds,rfl⟩:=hi;exact Wa I ru rd T λtk=>⟨.bl (gY T (.mp (.i C fs p) ds)),H,I.tok _,by cases T<;>rfl,hq⟩
  ·exact V_ I ru rd (Wb T d λnm z=>hx ⟨nm,z⟩) (λnm z=>hx ⟨nm,z⟩) (λC fs p ds z=>hi ⟨C,fs,p,ds,z⟩) λtk=>⟨.bl (gY T d),H,I.tok _,rfl,hq⟩
@[simp] def sQ (T:IT)(fa:aF):aF:=λρ=>match fa ρ with
 | some (d,_,ρ1)=>some (.bl (gY T d),9,ρ1)
 | none=>none
theorem wH(T:IT){t:Str}(hm:X.mg "isinstance" = none)(Wd:X.mg t=none)(We:bootBuiltins t=some (.type T.nm))(ha:QD X a fa)(hg:Gl X "isinstance":=by rfl)(Wf:Gl X t:=by rfl)(Wg:t ≠ "__name__":=by decide)(Wh:(t==("__debug__":Str))=false:=by decide)(hs:starEach [a,.Name t pT] X.env=(false,eval a X.env)::starEach [.Name t pT] X.env:=by rfl)(cA:(backTo pos (starEach [.Name t pT] X.env)).any (·.1)=false:=by rfl):QD X (.Call (.Name "isinstance" p) [a,.Name t pT] [] pos) (sQ T fa):=⟨have ha:=ha.o;PE.imp (o9 (Wc T) hg hm PyProof.Rows.boot_isinstance (ma ha (ma (N7 (v:=.ty T.nm) Wf Wd We rfl Wg Wh) mO cX) hs) (by decide) (by decide) hs cA) λσ H Q aj=>by
 obtain⟨ρ,w,t,r',q,ρ',gd,ee,k⟩:=aj;unfold sQ at ee;split at ee;next d q1 ρ1 h1=>
  cases ee;refine⟨ρ,w,t,_,_,_,gd,h1,λv H1 w1 F1 g1 aS r1=>?_⟩;exact⟨v,w1,_,_,F1,d,rfl,r1,k _ H1 (dv t w1) [] g1.drop.up (aS.drop gd.wt) (.bl _)⟩
 ·cases ee⟩
@[simp] def Aa (g1 g2:D->D->Option D)(fa fb fc:aF):aF:=λρ=>match fa ρ with
 | some (x,_,ρ1)=>match fb ρ1 with
  | some (y,_,ρ2)=>match g1 x y with
   | some (.bl true)=>match fc ρ2 with
    | some (z,_,gG)=>match g2 y z with
     | some d=>some (d,9,gG)
     | none=>none
    | none=>none
   | some (.bl false)=>some (.bl false,9,ρ2)
   | _=>none
  | none=>none
 | none=>none
theorem Wi{op rQ:CmpOp}{g1 g2:Int->Int->Option D}{h1 h2:Int->Int->V}(ho:dO X (compareOp op) (mL h1))(fZ:dO X (compareOp rQ) (mL h2))(e1:∀ i j d,g1 i j=some d->pD d=some (h1 i j))(pP:∀ i j d,g2 i j=some d->pD d=some (h2 i j))
  (ha:PD X a fa) (hb:PD X b fb) (hc:PD X c fc) (hm:lastMarks [op,rQ] [b,c]=false:=by with_unfolding_all rfl):PD X (.Compare a [op,rQ] [b,c] pos) (Aa (gI g1) (gI g2) fa fb fc):=PE.imp (Pp ho fZ ha hb hc hm) λσ H Q aj=>by
 obtain⟨ρ,w,t,r',q,ρ',gd,ee,k⟩:=aj;unfold Aa at ee;split at ee;next x q1 ρ1 a1=>
  split at ee;next y q2 ρ2 a2=>
   refine su gd a1 a2 λu v H2 w2 F1 F2 Hv cD r1 r2=>?_;have gg:=Hv.drop (t':=t);split at ee;next hg=>
    obtain⟨i,j,rfl,rfl,wI⟩:=wx hg;refine⟨i,j,f_ r1,f_ r2,true,by have:=e1 i j _ wI;simpa [pD]using this.symm,?_⟩;rw[Qi rfl];split at ee;next z q3 gG a3=>
     refine⟨ρ2,dv t w2,t,z,q3,gG,gg,a3,λv3 H3 w3 F3 g3 ng r3=>?_⟩;split at ee;next d hd=>
      cases ee;obtain⟨j',l,ej,rfl,gP⟩:=wx hd;cases ej;exact⟨j,l,f_ r2,f_ r3,oo k gd g3 ((cD.drop gd.wt).trans ng) (CD (pP j l _ gP))⟩
     ·cases ee
    ·cases ee
   next hg=>
    obtain⟨i,j,rfl,rfl,wI⟩:=wx hg;cases ee;refine⟨i,j,f_ r1,f_ r2,false,by have:=e1 i j _ wI;simpa [pD]using this.symm,?_⟩;rw[Ql (by decide)];exact oo k gd Hv cD (.bl false)
   ·cases ee
  ·cases ee
 ·cases ee
theorem Wj(ha:QD X a fa)(hb:QD X b fb)(hc:QD X c fc)(hm:lastMarks [.LtE,.Lt] [b,c]=false:=by with_unfolding_all rfl):QD X (.Compare a [.LtE,.Lt] [b,c] pos) (Aa GI m8 fa fb fc):=⟨have ha:=ha.o;have hb:=hb.o;have hc:=hc.o;Wi Pk FI (λi j d h=>by cases h;rfl) (λi j d h=>by cases h;rfl) ha hb hc hm⟩
@[simp] def k2k (fa:aF):aF:=λρ=>match fa ρ with
 | some (.int i,_,ρ1)=>some (.int (-i),9,ρ1)
 | _=>none
section
variable {prog:Program}{w:World}{A:Around}{E:Tl}{s:Shared}
theorem Wk(l b:Addr)(us vs:Array Value)(n m:Nat)(d1 d2:Option Addr)(s1 s2:Array (Option Value))(h0:us.isEmpty=true) :
  Meets (Builtin.«tuple.__add__» ⟨[.ref l,.ref b],[]⟩) (λ_ R s=>s.heap.get? l=some { cls:=.type "tuple",dict:=d1,data:=.seq us n,slots:=s1 }/\s.heap.get? b=some { cls:=.type "tuple",dict:=d2,data:=.seq vs m,slots:=s2 }/\R (.ok (.ret (.ref b))) s):=
 .of_wp λprog w A R s h=>by
  obtain⟨hp,g,d,tk,os⟩:=s;obtain⟨hl,hb,h⟩:=h;have f2:=AutoSeq1.sub_tuple_tuple;wp_walk using wpAny_loadPart' hl,wpAny_loadPart' hb
  exact⟨_,rfl,h⟩
theorem Wl{t b:Addr}{ws:List Value}(ht:IsTup s.heap t #[])(hb:IsTup s.heap b ws.toArray)(h:Q (.ref b) s):wpAny (model prog w) A (binaryOp .Add (.ref t) (.ref b)) Q E s:=by obtain⟨⟨c1,d1,a1,s1⟩,e1,qM,n1,wJ⟩:=id ht;obtain⟨⟨c2,d2,a2,s2⟩,e2,og,n2,Hw⟩:=id hb;simp only at qM wJ og Hw;subst qM wJ og Hw;exact VQ ⟨_,e1,rfl⟩ ⟨_,e2,rfl⟩ VH seq_tuple_add Yo Yj (Yb _ _) (Wk t b #[] ws.toArray n1 n2 d1 d2 s1 s2 rfl) ⟨e1,e2,h⟩
end
theorem Wm:dO X (binaryOp .Add) (λx y H Q=>∃ a b ys,x=.ref a/\y=.ref b/\cG X.K H a []/\cG X.K H b ys/\Q (.ref b) H):=by intro Tk s σ H x y v u Q I rx ry h;obtain⟨a,b,ys,rfl,rfl,ha,hb,q⟩:=h;cases rx;cases ry;obtain⟨aq,r1,p1,_⟩:=I.tuple ha;obtain⟨iC,r2,p2,_⟩:=I.tuple hb;cases r1;exact Wl p1 p2 ⟨.ref b,H,I,rfl,q⟩
theorem dO.or{f:Value->Value->Sem Value}{r r':R2}(h:dO X f r)(h':dO X f r'):dO X f (λx y H Q=>r x y H Q\/r' x y H Q):=λTk s σ H x y v u Q I rx ry q=>q.elim (λz=>h Tk s σ H x y v u Q I rx ry z) λz=>h' Tk s σ H x y v u Q I rx ry z
@[simp] def Ab (fa fb:aF):aF:=λρ=>match fa ρ with
 | some (.tup ds,_,ρ1)=>match fb ρ1 with
  | some (.tup es,_,ρ2)=>if ds.length+es.length<=1000 then some (.tup (ds++es),9,ρ2)else none
  | _=>none
 | _=>none
theorem Hx(ha:QD X a fa)(hb:QD X b fb):QD X (.BinOp a .Add b pos) (Ab fa fb):=⟨have ha:=ha.o;have hb:=hb.o;PE.imp (qw (dO.or Wm P_) ha hb) λσ H Q aj=>by
 obtain⟨ρ,w,t,r',q,ρ',gd,ee,k⟩:=aj;unfold Ab at ee;split at ee;next ds q1 ρ1 h1=>
  split at ee;next es q2 ρ2 h2=>
   split at ee;next hl=>
    cases ee;refine su gd h1 h2 λu u' H2 w2 F1 F2 g2 go r1 r2=>?_;have sR:=r1.drop (o:=.f) (Qj t);have Ac:=r2.drop (o:=.f) (Yk t);have gg:=g2.drop (t':=t);have qR:=go.drop gd.wt;obtain⟨p1,vs,rfl,pQ,s1⟩:=sR.eI;obtain⟨p2,us,rfl,Ad,s2⟩:=Ac.eI;have l1:=s1.length;have l2:=s2.length;cases ds with
    | nil=>
     have:vs=[]:=ZO.mp (by rw[<- l1];rfl);subst this;refine .inl ⟨p1,p2,us,rfl,rfl,pQ,Ad,k _ H2 (dv t w2) [] gg.up qR ?_⟩;exact(Rep.go gg.wl (λa x e n=>⟨sm e,n⟩) Ac nM:Rep X.K H2 (dv t w2) (.t t) 0 _ _ []).dC rfl |>.2 9
    | cons d ds=>
     refine .inr ⟨p1,p2,vs,us,rfl,rfl,pQ,Ad,(λz=>by rw[z]at l1;cases l1),qJ (by rw[<- l1,<- l2];exact hl),λz=>?_,λ_ p hp=>?_⟩
     ·have:es=[]:=ZO.mp (by rw[l2,z];rfl);subst this;rw[ZM]at k;exact k _ H2 (dv t w2) [] gg.up qR ((Rep.go gg.wl (λa x e n=>⟨sm e,n⟩) sR nM:Rep X.K H2 (dv t w2) (.t t) 0 _ _ []).dC rfl |>.2 9)
     ·obtain⟨a1,a2,a3⟩:=uz gg hp (s2.app s1);exact k _ _ _ _ a1 (qR.trans a2) a3
   ·cases ee
  ·cases ee
 ·cases ee⟩
abbrev sS:=aW->Option (Option Int×aW)
def Wp (K:PySem.W.Frag)(f:sS):TO:=λσ H Q=>∃ ρ w t o ρ',Good K ρ σ H w t/\f ρ=some (o,ρ')/\∀ H' w',Good K ρ' σ H' w' t->Go H w H' w'->Q o H'
abbrev Wq (X:Cx)(e:Option Expr)(f:sS):Prop:=PO X e (Wp X.K f)
structure Ae (X:Cx) (e:Option Expr) (f:sS):Prop where mk::o:Wq X e f
@[simp] def wK:sS:=λρ=>some (none,ρ)
@[simp] def uO (f:aF):sS:=λρ=>match f ρ with
 | some (.int i,_,ρ1)=>some (some i,ρ1)
 | _=>none
theorem PO.imp{e:Option Expr}{t t':TO}(h:PO X e t)(i:∀ σ H Q,t' σ H Q->t σ H Q):PO X e t':=λTk s σ H Q I q=>h Tk s σ H Q I (i σ H Q q)
theorem C_:Ae X none wK:=⟨PO.imp P2 λσ H Q aj=>by obtain⟨ρ,w,t,o,ρ',gd,ee,k⟩:=aj;cases ee;exact k H w gd Go.refl⟩
theorem Dc(h:QD X e f):Ae X (some e) (uO f):=⟨have h:=h.o;PO.imp (P4 h) λσ H Q aj=>by
 obtain⟨ρ,w,t,o,ρ',gd,ee,k⟩:=aj;unfold uO at ee;split at ee;next i q1 ρ1 h1=>
  cases ee;exact⟨ρ,w,t,_,_,_,gd,h1,λv H1 w1 F1 g1 aS r1=>⟨i,f_ r1,k H1 (dv t w1) g1.drop (aS.drop gd.wt)⟩⟩
 ·cases ee⟩
section
variable {prog:Program}{w:World}{A:Around}{E:Tl}{s:Shared}
theorem Wr{t sl:Addr}{us:Array Value}{vl vu:Value}{lo hi:Option Int}(ht:IsTup s.heap t us)(hs:s.heap.IsSliceOf sl vl vu .none)(pl:IsPart vl lo)(pu:IsPart vu hi)
  (hw:HT.bH us.size 0 lo=0/\HT.bH us.size us.size hi=us.size) (h:Q (.ref t) s):wpAny (model prog w) A (getItem (.ref t) (.ref sl)) Q E s:=by
 obtain⟨os,rV,y7,vX⟩:=id hs;have ts:s.TypeIs (.ref sl) "slice":=⟨os,rV,y7⟩;unfold getItem
 try with_reducible refine Zc ?_
 first|refine Qa (Qe ?_)|skip
 refine Qa (wpAny_sequenceKey ht.typeIs (by decide) (Qa (Za (name:=Str.ofString "__getitem__") ht.typeIs Zq (QY Zq ht.typeIs entry_tuple_getitem ?_ (args_tuple_getitem _ _)))));show wpAny _ _ (Builtin.Tuple.tupleItemsOf (.ref t) >>= _) _ _ s;refine Qa (tupleItemsOf_ ht (Qa (Yp ts ?_)));rw[Qi (by decide)];refine Qa (HT.FZ hs pl pu ?_);have yes:(((HT.bH us.size 0 lo:Nat):Int)==0&&(1:Int)==1&&(HT.bH us.size us.size hi-HT.bH us.size 0 lo)==us.size)=true:=by rw[hw.1,hw.2];simp
 show wpAny _ _ (if(((HT.bH us.size 0 lo:Nat):Int)==0&&(1:Int)==1&&(HT.bH us.size us.size hi-HT.bH us.size 0 lo)==us.size)=true then _ else _) _ _ s;rw[Qi yes];refine Qa (m:=Builtin.Tuple.tupleIsExact _) ?_;unfold Builtin.Tuple.tupleIsExact;refine Qa (Yp ht.typeIs (Qe ?_));rw[Qi (by decide)];exact Qa (Yg (Qe ⟨_,rfl,Qe h⟩))
end
def pR (xs:List D)(lo hi:Option Int):List D:=(xs.drop (HT.bH xs.length 0 lo)).take (HT.bH xs.length xs.length hi-HT.bH xs.length 0 lo)
@[simp] def uP (fa:aF)(fl fh:sS):aF:=λρ=>match fa ρ with
 | some (.tup ds,_,ρ1)=>match fl ρ1 with
  | some (lo,ρ2)=>match fh ρ2 with
   | some (hi,gG)=>some (.tup (pR ds lo hi),9,gG)
   | none=>none
  | none=>none
 | _=>none
theorem af.qS:∀ {ds:List D} {vs:List V} (i:Nat),af K H w .f 0 ds vs []->af K H w .f 0 (ds.take i) (vs.take i) []
 | _,_,0,_=>by rw[Uj,Uj];exact .nil
 | ds,vs,i+1,r=>by
  generalize hF:([]:List Addr)=F at r;cases r with
  | nil=>exact .nil
  | cons r s _=>
   have h2:=s.zero;have h1:=r.zero;subst h2;subst h1;exact .cons (F:=[]) (G:=[]) r (af.qS i s) nM
theorem Ws:qA X (λx lo hi H Q=>∃ a xs,x=.ref a/\cG X.K H a xs/\(HT.bH xs.length 0 lo=0/\HT.bH xs.length xs.length hi=xs.length)/\Q (.ref a) H):=by
 intro Tk s σ H x v vl vu lo hi sl Q I rx hs pl pu h;obtain⟨a,xs,rfl,hx,hw,q⟩:=h;cases rx;obtain⟨aq,r,ht,hz⟩:=I.tuple hx;have hlen:aq.toArray.size=xs.length:=by rw[Qo];exact r.length.symm
 exact⟨"tuple",_,Zq.lookup,ht.typeIs,Wr ht hs pl pu (by rw[hlen];exact hw) ⟨.ref a,H,I,rfl,q⟩⟩
theorem Dd{lo hi:Option Expr}{fl fh:sS}(ha:QD X a fa)(hl:Ae X lo fl)(hh:Ae X hi fh):QD X (.Subscript a (.Slice lo hi none p2) pos) (uP fa fl fh):=⟨have ha:=ha.o;have hl:=hl.o;have hh:=hh.o;PE.imp (P6 (Ws.or P8) ha hl hh) λσ H Q aj=>by
 obtain⟨ρ,w,t,r',q,ρ',gd,ee,k⟩:=aj;unfold uP at ee;split at ee;next ds q1 ρ1 h1=>
  split at ee;next lo ρ2 h2=>
   split at ee;next hi gG h3=>
    cases ee;refine⟨ρ,w,t,_,_,_,gd,h1,λv H1 w1 F1 g1 aS r1=>?_⟩;have Hy:=g1.drop (t':=t);have r0:=r1.drop (o:=.f) (Qj t);refine⟨ρ1,dv t w1,t,_,_,Hy,h2,λH2 w2 g2 cD=>⟨ρ2,w2,t,_,_,g2,h3,λH3 w3 g3 ng=>?_⟩⟩;have r3:=(r0.mi Hy.wl cD.cI).mi g2.wl ng.cI;obtain⟨p1,vs,rfl,pQ,s1⟩:=r3.eI;have l1:=s1.length;by_cases hw:HT.bH ds.length 0 lo=0/\HT.bH ds.length ds.length hi=ds.length
    ·have ec:pR ds lo hi=ds:=by unfold pR;rw[hw.1,hw.2,List.drop_zero,Nat.sub_zero,Jl]
     rw[ec]at k;refine .inl ⟨p1,vs,rfl,pQ,by rw[<- l1];exact hw,?_⟩;exact k _ H3 w3 [] g3.up (((aS.drop gd.wt).trans cD).trans ng) ((Rep.go g3.wl (λa x e n=>⟨sm e,n⟩) r3 nM:Rep X.K H3 w3 (.t t) 0 _ _ []).dC rfl |>.2 9)
    ·refine .inr ⟨p1,vs,rfl,pQ,by rw[<- l1];exact hw,λp hp=>?_⟩;have s4:af X.K H3 w3 .f 0 (pR ds lo hi) (qB vs lo hi) []:=by unfold pR qB;rw[<- l1];exact(s1.qL _).qS _
     obtain⟨a1,a2,a3⟩:=uz g3 hp s4;exact k _ _ _ _ a1 ((((aS.drop gd.wt).trans cD).trans ng).trans a2) a3
   ·cases ee
  ·cases ee
 ·cases ee⟩
end
section
variable {X:Cx}{k b n:Nat}{a c e tg:Expr}{es:List Expr}{pt:gE}{ps:pN}{pos:Pos}{fa fb f:aF}
theorem Af{p q r:gE}:∀ ds ρ ρ',bU p (bU q (bU r gq)) ds ρ=some ρ'->ds.length=3:=λds ρ ρ' h=>by
 match ds with
 | []=>cases h
 | [_]=>unfold bU at h;simp at h;split at h<;>cases h
 | [_,_]=>unfold bU at h;simp at h;split at h;(split at h<;>cases h);cases h
 | [_,_,_]=>rfl
 | _::_::_::_::_=>
  exfalso;unfold bU at h;simp at h;split at h
  ·split at h
   ·split at h<;>cases h
   ·cases h
  ·cases h
end
theorem Wt:fillsNumberSlot (.type "tuple") "mul" = pure false:=PySem.fillsNumberSlot_seq (id:="tuple.__mul__") (r:=some (.builtin "tuple.__rmul__")) YH.lookup (by decide +kernel) F.slot_tuple_rmul.lookup (by decide +kernel)
theorem Wu:seqRepeat? (.type "tuple")=pure (some (.builtin "tuple.__mul__")):=by unfold seqRepeat?;rw[PySem.seqSlot_of (T:="tuple") (name:="__mul__") (id:="tuple.__mul__") YH.lookup (by decide +kernel),PySem.seqSlot_of (T:="tuple") (name:="__rmul__") (id:="tuple.__rmul__") F.slot_tuple_rmul.lookup (by decide +kernel)];rfl
theorem Wv(a:Int)(t:Tok)(l:Addr)(us:Array Value)(n:Nat)(dd:Option Addr)(sl:Array (Option Value)) :
  Meets (Builtin.«int.__rmul__» ⟨[.int a t,.ref l],[]⟩) (λ_ R s=>s.heap.get? l=some { cls:=.type "tuple",dict:=dd,data:=.seq us n,slots:=sl }/\R (.ok (.ret Value.notImplemented)) s):=.of_wp λprog w A R s h=>by
 obtain⟨hp,g,d,tk,os⟩:=s;obtain⟨hl,h⟩:=h;wp_walk
 exact⟨_,rfl,h⟩
theorem Ww(t:Tok)(l:Addr)(us:Array Value)(n:Nat)(dd:Option Addr)(sl:Array (Option Value)) :
  Meets (Builtin.«tuple.__mul__» ⟨[.ref l,.int 1 t],[]⟩) (λ_ R s=>s.heap.get? l=some { cls:=.type "tuple",dict:=dd,data:=.seq us n,slots:=sl }/\R (.ok (.ret (.ref l))) s):=.of_wp λprog w A R s h=>by
 obtain⟨hp,g,d,tk,os⟩:=s;obtain⟨hl,h⟩:=h;have f1:=AutoSeq1.idx_int;wp_walk using wpAny_loadPart' hl
 exact⟨_,rfl,h⟩
theorem Wx(k:Int)(t:Tok)(l:Addr)(us:Array Value)(n:Nat)(dd:Option Addr)(sl:Array (Option Value))(h2:¬ (decide (k < -(2 ^ 63))||decide (k ≥ 2 ^ 63))=true)(h3:¬ (us.isEmpty||k==1)=true)(h4:¬ (decide (k<=0)||us.isEmpty)=true)(h5:¬ (us.size:Int)*k > (2 ^ 63-1) / 8)(h6:¬ Builtin.Tuple.tupleTooMany ((us.size:Int)*k)=true)(hsz:(List.foldl (· ++ ·) #[] (replicate k.toNat us)).size<=sizeLine) :
  Meets (Builtin.«tuple.__mul__» ⟨[.ref l,.int k t],[]⟩) (λ_ R s=>s.heap.get? l=some { cls:=.type "tuple",dict:=dd,data:=.seq us n,slots:=sl }/\R (.ok (.ret (.ref s.heap.objs.size))) { s with heap:=s.heap.push { cls:=.type "tuple",data:=.seq (List.foldl (· ++ ·) #[] (replicate k.toNat us)) } }):=.of_wp λprog w A R s h=>by
 obtain⟨hp,g,d,tk,os⟩:=s;obtain⟨hl,h⟩:=h;have f1:=AutoSeq1.idx_int;wp_walk using wpAny_loadPart' hl
 rw[Ql h2];wp_walk using wpAny_loadPart' hl
 rw[Ql h5];wp_walk using wpAny_loadPart' hl
 exact⟨_,rfl,h⟩
section
variable {X:Cx}{a b c e:Expr}{fa fb fc f:aF}{pos:Pos}
theorem Wz:dO X (binaryOp .Mult) (λx y H Q=>∃ a k xs,x=.ref a/\y=.int k/\cG X.K H a xs/\xs ≠ []/\1<=k/\xs.length*k.toNat<=1000/\(k=1->Q (.ref a) H)/\(k≠1->∀ p,H p=none->Q (.ref p) (upd H p (.tup (replicate k.toNat xs).flatten)))):=by
 intro Tk s σ H x y v u Q I rx ry h;obtain⟨l,k,xs,rfl,rfl,hq,il,h1,hz,q1,q2⟩:=h;cases rx;obtain⟨t,rfl⟩:=ry;obtain⟨aq,r,pt,_⟩:=I.tuple hq;obtain⟨⟨c1,d1,a1,s1⟩,e,qM,n1,wJ⟩:=id pt;simp only at qM wJ;subst qM wJ;have hl:=r.length;have nr:0<aq.length:=by rw[<- hl];exact YZ.mpr il
 refine Vo (T:="tuple") (U:="int") (by decide) ⟨_,e,rfl⟩ (λs'=>VR s' k t) Wt F.fills_int_mul YS Wu F.slot_int_index.lookup
  (J4 YS (VR s k t) F.entry_int_rmul (F.args_int_rmul_2 _ _) (Wv k t l aq.toArray n1 d1 s1) ⟨e,rfl,⟨_,e,rfl⟩,?_⟩)
 by_cases hk:k=1
 ·subst hk;exact J4 YH ⟨_,e,rfl⟩ F.entry_tuple_mul (F.args_tuple_mul_2 _ _) (Ww t l aq.toArray n1 d1 s1) ⟨e,⟨.ref l,H,I,rfl,q1 rfl⟩⟩
 ·have hm:aq.length*k.toNat<=1000:=by rw[<- hl];exact hz
  have qT:k.toNat<=1000:=by have:=Nat.le_mul_of_pos_left k.toNat nr;omega
  have f0:List.foldl (λx1 x2=>x1++x2) #[] (replicate k.toNat aq.toArray)=(replicate k.toNat aq).flatten.toArray:=by have:=BZ aq k.toNat [];rw[List.nil_append]at this;exact this
  have lf:(replicate k.toNat aq).flatten.length<=1000:=by rw[B1,VS];exact hm
  have em:((aq.toArray.size:Nat):Int)*k=((aq.length*k.toNat:Nat):Int):=by rw[Qo,Int.natCast_mul,Jg (by omega)]
  refine J4 YH ⟨_,e,rfl⟩ F.entry_tuple_mul (F.args_tuple_mul_2 _ _) (Wx k t l aq.toArray n1 d1 s1 (by simp;omega) (by simp[hk];exact Vs nr) (by simp;exact⟨by omega,Vs nr⟩) (by rw[em];omega) (by
   unfold Builtin.Tuple.tupleTooMany;rw[em];simp only[gt_iff_lt,ZB,Int.not_lt];have:(1000:Nat)<=sizeLine:=by decide
   omega) (by rw[f0,Qo];exact qJ lf)) ⟨e,?_⟩
  rw[f0];refine⟨.ref s.heap.objs.size,_,I.laid (t':=s.toks) (o:=.tup (replicate k.toNat xs).flatten) (λb ob q=>Qd _ q) (Qj _) ?_,rfl,q2 hk _ (I.aG.fresh (Qj _))⟩;exact⟨qJ (by rw[B1,VS];exact hz),_,r.rep k.toNat,lD.new _ _⟩
@[simp] def Ag (fa fb:aF):aF:=λρ=>match fa ρ with
 | some (.tup ds,_,ρ1)=>match fb ρ1 with
  | some (.int n,_,ρ2)=>if ds.isEmpty=false/\1<=n/\ds.length*n.toNat<=1000 then some (.tup (replicate n.toNat ds).flatten,9,ρ2)else none
  | _=>none
 | _=>none
theorem WA(ha:QD X a fa)(hb:QD X b fb):QD X (.BinOp a .Mult b pos) (Ag fa fb):=⟨have ha:=ha.o;have hb:=hb.o;PE.imp (qw Wz ha hb) λσ H Q aj=>by
 obtain⟨ρ,w,t,r',q,ρ',gd,ee,k⟩:=aj;unfold Ag at ee;split at ee;next ds q1 ρ1 h1=>
  split at ee;next n q2 ρ2 h2=>
   split at ee;next hl=>
    cases ee;obtain⟨hd,hn,hz⟩:=hl;refine su gd h1 h2 λu u' H2 w2 F1 F2 g2 go r1 r2=>?_;have sR:=r1.drop (o:=.f) (Qj t);have gg:=g2.drop (t':=t);have qR:=go.drop gd.wt;obtain⟨p1,vs,rfl,pQ,s1⟩:=sR.eI;have l1:=s1.length;refine⟨p1,n,vs,rfl,f_ r2,pQ,λz=>?_,hn,by rw[<- l1];exact hz,λz=>?_,λ_ p hp=>?_⟩
    ·subst z;have:ds=[]:=ZO.mp l1;subst this;cases hd
    ·subst z;have e:(replicate (Int.toNat 1) ds).flatten=ds:=by show(replicate 1 ds).flatten=ds;simp
     rw[e]at k;exact k _ H2 (dv t w2) [] gg.up qR ((Rep.go gg.wl (λa x e n=>⟨sm e,n⟩) sR nM:Rep X.K H2 (dv t w2) (.t t) 0 _ _ []).dC rfl |>.2 9)
    ·obtain⟨a1,a2,a3⟩:=uz gg hp (s1.times n.toNat);exact k _ _ _ _ a1 (qR.trans a2) a3
   ·cases ee
  ·cases ee
 ·cases ee⟩
end
section
variable {X:Cx}{a b c e:Expr}{es:List Expr}{fa fb fc f:aF}{ga gb:cS}{g:cK}{pos p p1 p2 aC apos:Pos}
@[simp] def uQ (i:Nat)(f:aF):aF:=λρ=>if pL ρ[i]? = true then match f ρ with
 | some (.lst es,1,ρ1)=>match ρ1[i]? with
  | some (some (.lst ds,1))=>if ds.length+es.length<=1000 then some (.bK,9,ρ1.set i (some (.lst (ds++es),1)))else none
  | _=>none
 | _=>none
 else none
theorem Hz(h:QE X (.Name x p1) (iZ i))(ha:QD X e f)(cw:attributeBase (.Name x p1) "extend" X.env (eval (.Name x p1) X.env)=eval (.Name x p1) X.env:=by rfl)(fF:((backTo aC (starEach [e] X.env)).all (λx=>!x.1)&&(backToKw aC (keywordEach [] X.env)).all (λx=>x.1.isSome)
   && decide ([e].length+([]:List Keyword).length+(if([]:List Keyword).isEmpty then 0 else 1)<30))=true:=by rfl) (cy:(apos.endLine==aC.line)=true:=by rfl) (hs:starEach [e] X.env=(false,eval e X.env)::starEach [] X.env:=by rfl) (dB:(backTo aC (starEach [] X.env)).any (·.1)=false:=by rfl):QD X (.Call (.Attribute (.Name x p1) "extend" apos) [e] [] aC) (uQ i f):=⟨have h:=h.o;have ha:=ha.o;PE.imp (y9 Yl PySem.F.slot_list_extend PySem.F.type_list_extend Rt h (ma ha mO hs) cw fF cy hs dB) λσ H Q aj=>by
 obtain⟨ρ,w,t,r',q,ρ',gd,ee,k⟩:=aj;unfold uQ at ee;split at ee;next hl=>
  obtain⟨l,ef,us,hq⟩:=gd.cR hl;split at ee;next jY ρ1 h1=>
   split at ee;next ds e1=>
    split at ee;next hlen=>
     cases ee;refine⟨_,ef,.inl ⟨rfl,us,hq⟩,ρ,w,t,_,_,_,gd,h1,λv H1 w1 F1 g1 aS r1=>?_⟩;obtain⟨l',ws,dw,hH,rs,mk⟩:=g1.mut e1;rw[ef]at dw;cases dw;cases r1 with
     | own hb _ rz _=>
      have z0:=rz.zero;subst z0;have HA:af X.K H1 w1 .f 0 jY _ []:=rz.any g1.wl;obtain⟨m1,m2⟩:=mk _ _ (HA.app rs);refine⟨l,_,ws,_,rfl,rfl,hH,hb,qJ (by rw[<- rs.length,<- HA.length];exact hlen),?_⟩;exact k .bK _ w1 [] m1 (aS.trans m2) .bK
    ·cases ee
   ·cases ee
  ·cases ee
 ·cases ee⟩
end
section
variable {X:Cx}{a b c e:Expr}{es:List Expr}{fa fb fc f:aF}{ga gb gc:cS}{g:cK}{qa qb:lQ}{s:aI}{pos p p1 p2 aC apos:Pos}
@[simp] def wL:aI:=λ_=>none
theorem De:lN X st wL:=⟨PS.imp OI λD σ H aj=>by obtain⟨ρ,w,o,g,ee,k⟩:=aj;cases ee⟩
def nu (c:cS)(b:aI):Nat->aW->Option Out
 | 0,_=>none
 | m+1,ρ=>match c ρ with
  | none=>none
  | some (t,ρ1)=>if t=true then match b ρ1 with
    | none=>none
    | some (.nx ρ2)=>nu c b m ρ2
    | some (.ct ρ2)=>nu c b m ρ2
    | some (.bk ρ2)=>some (.nx ρ2)
    | some (.rt d q)=>some (.rt d q)
   else some (.nx ρ1)
def Ah (c:cS)(b:aI):aI:=nu c b 1000
theorem HB{body:List Stmt}(hp:PassesOwn (model X.prog X.w) X.A X.env X.xe)(hc:jt X c gc)(hb:iI X body s):lN X (.While c body [] pos) (Ah gc s):=⟨have hc:=hc.o;have hb:=hb.o;PS.imp (OW hp hc hb) λD σ H aj=>by
 obtain⟨ρ,w,o,g,ee,k⟩:=aj;refine⟨λm aO H'=>aO.length=σ.length/\∃ ρ' w',Good X.K ρ' aO H' w' 0/\nu gc s m ρ'=some o/\ou X.K D σ.length H' w' o,⟨1000,rfl,ρ,w,g,ee,k⟩,?_⟩;rintro m aO H' ⟨ef,ρ',w',g',e',k'⟩;cases m with
 | zero=>cases e'
 | succ m=>
  unfold nu at e';split at e'
  ·cases e'
  next t ρ1 h1=>
   refine⟨ρ',w',0,t,ρ1,g',h1,λH1 w1 g1 aS=>?_⟩;cases t with
   | true=>
    rw[Qi rfl]at e' ⊢;refine⟨λmJ H2=>mJ.length=σ.length/\∃ ρ2 w2,Good X.K ρ2 mJ H2 w2 0/\nu gc s m ρ2=some o/\ou X.K D σ.length H2 w2 o,λmJ H2 n2=>⟨m,ZG m,n2⟩,?_⟩;have nx:∀ {ju:aW},nu gc s m ju=some o->∀ kz H5 w5,kz.length=aO.length->Good X.K ju kz H5 w5 0->Go H1 w1 H5 w5->kz.length=σ.length/\∃ ρ2 w2,Good X.K ρ2 kz H5 w2 0/\nu gc s m ρ2=some o/\ou X.K D σ.length H5 w2 o:=λ{ju} e5 kz H5 w5 l5 g5 jG=>⟨by rw[l5,ef],ju,w5,g5,e5,k'.trans (aS.trans jG)⟩;cases h6:s ρ1 with
    | none=>rw[h6]at e';cases e'
    | some o6=>
     rw[h6]at e';refine⟨ρ1,w1,o6,g1,h6,?_⟩;cases o6 with
     | nx ju=>exact nx e'
     | ct ju=>exact nx e'
     | bk ju=>
      cases e';exact λkz H5 w5 l5 g5 jG=>k' kz H5 w5 (by rw[l5,ef]) g5 (aS.trans jG)
     | rt d q=>
      cases e';exact λv H5 w5 F CM jG r5=>k' v H5 w5 F CM (aS.trans jG) r5
   | false=>
    rw[Ql (by decide)]at e' ⊢;cases e';exact k' aO H1 w1 ef g1 aS⟩
@[simp] def k2f (n:Nat)(qi:lQ)(fe:aF):aI:=λρ=>match fe ρ with
 | some (d,_,ρ1)=>match qi ρ1,ρ1[n]? with
  | some i,some (some (.lst ds,1))=>match kr ds.length i with
   | some m=>some (.nx (ρ1.set n (some (.lst (ds.set m d),1))))
   | none=>none
  | _,_=>none
 | none=>none
def WB (K:PySem.W.Frag):R2:=λx y H Q=>∃ l b xs zs,x=.ref l/\y=.ref b/\cW K H l xs/\cW K H b zs/\xs.length+zs.length<=sizeLine/\∀ p,H p=none->Q (.ref p) (upd H p (.lst (xs++zs)))
theorem WC:dO X (binaryOp .Add) (WB X.K):=by
 intro Tk s σ H x y v u Q I rx ry h;obtain⟨l,b,xs,zs,rfl,rfl,hH,hB,hz,q⟩:=h;cases rx;cases ry;obtain⟨aq,r,pl,z⟩:=I.list hH;obtain⟨iC,r2,Df,z2⟩:=I.list hB;obtain⟨⟨cls,dd,data,sl⟩,n,ho,hc,_,hd⟩:=pl;obtain⟨⟨BU,yZ,data2,y6⟩,n2,rT,og,_,hd2⟩:=Df;simp only at hc hd og hd2;subst hc hd og hd2;have l1:=r.length;have l2:=r2.length;refine VQ ⟨_,ho,rfl⟩ ⟨_,rT,rfl⟩ noFill_list_add seq_list_add PySem.F.slot_list_add PySem.F.entry_list_add (PySem.F.args_list_add_2 _ _) (list_addW l b aq.toArray iC.toArray n n2 dd yZ sl y6 (by rw[Qo,Qo,<- l1,<- l2];exact hz)) ⟨ho,rT,?_⟩;have e:aq.toArray++iC.toArray=(aq++iC).toArray:=by simp
 rw[e];exact⟨.ref _,_,I.v7 (t':=s.toks) (r.append r2) (by rw[Qn];omega),rfl,q _ I.fresh⟩
@[simp] def sT (fa fb:aF):aF:=λρ=>match fa ρ with
 | some (.lst ds,_,ρ1)=>match fb ρ1 with
  | some (.lst es,_,ρ2)=>if ds.length+es.length<=1000 then some (.lst (ds++es),1,ρ2)else none
  | _=>none
 | _=>none
theorem HC(ha:QD X a fa)(hb:QD X b fb):QD X (.BinOp a .Add b pos) (sT fa fb):=⟨have ha:=ha.o;have hb:=hb.o;PE.imp (qw WC ha hb) λσ H Q aj=>by
 obtain⟨ρ,w,t,r',q,ρ',gd,ee,k⟩:=aj;unfold sT at ee;split at ee;next ds q1 ρ1 h1=>
  split at ee;next es q2 ρ2 h2=>
   split at ee;next hl=>
    cases ee;refine su gd h1 h2 λu u' H2 w2 F1 F2 g2 go r1 r2=>?_;have sR:=r1.drop (o:=.f) (Qj t);have Ac:=r2.drop (o:=.f) (Yk t);have gg:=g2.drop (t':=t);have qR:=go.drop gd.wt;obtain⟨p1,vs,rfl,pQ,s1⟩:=sR.fM;obtain⟨p2,us,rfl,Ad,s2⟩:=Ac.fM;refine⟨p1,p2,vs,us,rfl,rfl,pQ,Ad,qJ (by rw[<- s1.length,<- s2.length];exact hl),λp hp=>?_⟩;obtain⟨a1,a2,a3⟩:=oq gg hp (s2.app s1);exact k _ _ _ _ a1 (qR.trans a2) a3
   ·cases ee
  ·cases ee
 ·cases ee⟩
end
section
variable {X:Cx}{a b c e:Expr}{es:List Expr}{fa fb fc f:aF}{ga gb gc:cS}{g:cK}{qa qb:lQ}{s:aI}{pos p p1 p2 p3 aC apos:Pos}
@[simp] def qU (n:Nat)(c:Int):lQ:=λρ=>match ρ[n]? with
 | some (some (.tup es,_))=>match L2.eR es c with
  | some d=>match gm d with
   | some m=>some (Int.ofNat m)
   | none=>none
  | none=>none
 | _=>none
theorem HD{n j:Nat}{c:Int}(hm:X.mg "len" = none)(h:QE X (.Name x p1) (iZ n))(hg:Gl X "len":=by rfl)(hs:uq (.Constant (.int c) j p2):=by exact λ_ _=>rfl)(he:starEach [.Subscript (.Name x p1) (.Constant (.int c) j p2) p3] X.env=(false,eval (.Subscript (.Name x p1) (.Constant (.int c) j p2) p3) X.env)::starEach [] X.env:=by rfl)(cA:(backTo pos (starEach [] X.env)).any (·.1)=false:=by rfl):QQ X (.Call (.Name "len" p) [.Subscript (.Name x p1) (.Constant (.int c) j p2) p3] [] pos) (qU n c):=⟨have h:=h.o;PE.imp (o9 BX hg hm Ug (ma (vY vZ h BC hs) mO he) (by decide) (by decide) he cA) λσ H Q aj=>by
 obtain⟨ρ,w,t,i,gd,ee,k⟩:=aj;unfold qU at ee;split at ee;next es q e0=>
  split at ee;next d hd=>
   split at ee;next m gJ=>
    cases ee;obtain⟨v,F,h1,h2⟩:=gd.slot n _ _ e0;obtain⟨p0,vs,rfl,hq,rs⟩:=h2.eI;obtain⟨u,hu,ru⟩:=rs.eR hd;obtain⟨p',ys,rfl,sk,hl⟩:=ru.len gJ;exact⟨_,h1,.inr (.inl ⟨p0,vs,c,_,rfl,rfl,hq,hu,p',ys,rfl,sk,by rw[hl];exact k⟩)⟩
   ·cases ee
  ·cases ee
 ·cases ee⟩
@[simp] def wM (k l:Str)(qa qb:lQ):aF:=λρ=>match qa ρ,qb ρ with
 | some i,some j=>some (.gS [k,l] [.int i,.int j],9,ρ)
 | _,_=>none
theorem WD{t:Nat}{H1:Hp}{p:Addr}{ks:List Str}{w1:Wn}(g:Good K ρ σ H1 w1 t)(hp:H1 p=none)(r:af K H1 w1 .f 0 ds vs []) :
  Good K ρ σ (upd H1 p (.dK (mY ks vs))) w1 (t+1)/\Go H1 w1 (upd H1 p (.dK (mY ks vs))) w1/\Rep K (upd H1 p (.dK (mY ks vs))) w1 (.t t) 9 (.gS ks ds) (.ref p) []:=by
 have ne:∀ a x,H1 a=some x->a≠p:=λa x e=>gC e hp;have nw:∀ a o,w1 a=some o->a≠p:=λa o e=>by obtain⟨vs,q⟩:=g.wl a o e;exact ne a _ q
 have st:dY H1 w1 (upd H1 p (.dK (mY ks vs))) w1:=λa x e n=>⟨sm (by rw[a_ (ne a x e)];exact e),n⟩;refine⟨⟨⟨λa o e=>?_,g.wl.tb.upd rfl (.inl hp)⟩,g.ws,λa i e=>ZJ (g.wt a i e),g.len,λi d q e=>?_⟩,⟨st,λa o e _=>⟨a_ (nw a o e),e⟩⟩,?_⟩
 ·obtain⟨us,q⟩:=g.wl a o e;exact⟨us,by rw[a_ (nw a o e)];exact q⟩
 ·obtain⟨v,F,h1,h2⟩:=g.slot i d q e;exact⟨v,F,h1,Rep.go g.wl st h2 λa m=>⟨a_ (nw a _ (h2.aM a m)),h2.aM a m⟩⟩
 ·exact .gS fD (by
   cases q:w1 p with
   | none=>rfl
   | some o=>exact absurd rfl (nw p o q)) (af.go g.wl st r nM)
theorem WE{k l:Str}{j1 j2:Nat}(WG:k≠l)(ha:QQ X a qa)(hb:QQ X b qb):QD X (.Dict [some (.Constant (.str k) j1 p1),some (.Constant (.str l) j2 p2)] [a,b] pos) (wM k l qa qb):=⟨have ha:=ha.o;have hb:=hb.o;PE.imp (RZ (Gm BD ha (Gm BD hb RX)) rfl rfl (by simp) (by show 2<=15;decide)) λσ H Q aj=>by
 obtain⟨ρ,w,t,r',q,ρ',gd,ee,kk⟩:=aj;unfold wM at ee;split at ee;next i j hi hj=>
  cases ee;intro p0 hp;have ne:∀ a x,H a=some x->upd H p0 (.dK []) a=some x:=λa x e=>by rw[a_ (gC e hp)];exact e
  obtain⟨g1,aS⟩:=gd.more ⟨ne,λt=>t.upd rfl (.inl hp)⟩;refine⟨ρ,w,t,i,g1,hi,ρ,w,t,j,g1,hj,fD,[(.inr k,.int i),(.inr l,.int j)],rfl,by show 2<=15;decide,?_⟩;have e:sf [] [((.inr k:Key),V.int i),(.inr l,.int j)]=mY [k,l] [.int i,.int j]:=by have Dg:¬ ((Sum.inr k:Key)=.inr l):=λz=>WG (Vu z);simp[sf,i6,mY,Dg]
  rw[e,NU];obtain⟨a1,a2,a3⟩:=WD (ks:=[k,l]) (ds:=[.int i,.int j]) (vs:=[.int i,.int j]) gd hp (.cons (F:=[]) (G:=[]) (.int i) (.cons (F:=[]) (G:=[]) (.int j) .nil nM) nM);exact kk _ _ _ _ a1 a2 a3
 ·cases ee⟩
def j8:List Str->List D->Str->Option D
 | x::ks,d::ds,k=>if x=k then some d else j8 ks ds k
 | _,_,_=>none
@[simp] def Dh (fo fe ff:aF):aF:=λρ=>match fo ρ with
 | some (.gS ks ds,_,ρ1)=>match fe ρ1 with
  | some (.str k,_,ρ2)=>match ff ρ2 with
   | some (z,_,gG)=>some ((j8 ks ds k).getD z,c_ ((j8 ks ds k).getD z),gG)
   | none=>none
  | _=>none
 | _=>none
theorem HE(k:Str):∀ {ks:List Str} {ds:List D} {vs:List V},af K H w o 0 ds vs []->
  (∀ d,j8 ks ds k=some d->∃ v,jq (mY ks vs) (.inr k)=some v/\Rep K H w o 0 d v [])/\(j8 ks ds k=none->jq (mY ks vs) (.inr k)=none)
 | [],ds,vs,r=>by refine⟨λd h=>?_,λ_=>rfl⟩;unfold j8 at h;cases h
 | x::ks,ds,vs,r=>by
  generalize hF:([]:List Addr)=F at r;cases r with
  | nil=>exact⟨(λd h=>by unfold j8 at h;cases h),λ_=>rfl⟩
  | @cons _ d' v' eG ip F' G' r s _=>
   have h1:F'=[]:=r.zero;have h2:G'=[]:=s.zero;subst h1 h2;have ih:=HE k (ks:=ks) s;by_cases hx:x=k
   ·subst hx;refine⟨λd h=>?_,λh=>?_⟩
    ·unfold j8 at h;rw[Qi rfl]at h;cases h;exact⟨v',wa rfl,r⟩
    ·unfold j8 at h;rw[Qi rfl]at h;cases h
   ·have hk:¬ ((Sum.inr x:Key)=.inr k):=λz=>hx (Vu z);have e:jq (mY (x::ks) (v'::ip)) (.inr k)=jq (mY ks ip) (.inr k):=wb hk;rw[e];unfold j8;rw[Ql hx];exact ih
theorem WH{k:Nat}(hr:bA k X.A)(ho:QD X a fa)(he:QD X b fb)(hf:QD X c fc)(cw:attributeBase a "get" X.env (eval a X.env)=eval a X.env:=by rfl)(fF:((backTo aC (starEach [b,c] X.env)).all (λx=>!x.1)&&(backToKw aC (keywordEach [] X.env)).all (λx=>x.1.isSome)
   && decide (([b,c]:List Expr).length+([]:List Keyword).length+(if([]:List Keyword).isEmpty then 0 else 1)<30))=true:=by rfl) (cy:(apos.endLine==aC.line)=true:=by rfl) (Di:backTo aC (starEach [b,c] X.env)=[(false,eval b X.env),(false,eval c X.env)]:=by rfl):QD X (.Call (.Attribute a "get" apos) [b,c] [] aC) (Dh fa fb fc):=⟨have ho:=ho.o;have he:=he.o;have hf:=hf.o;PE.imp (Gq (zb hr) ho he hf ⟨cw,fF,cy,Di⟩) λσ H Q aj=>by
 obtain⟨ρ,w,t,r',q,ρ',gd,ee,kk⟩:=aj;unfold Dh at ee;split at ee;next ks ds q1 ρ1 h1=>
  split at ee;next k0 q2 ρ2 h2=>
   split at ee;next z q3 gG h3=>
    cases ee;refine⟨ρ,w,t,_,_,_,gd,h1,λx H1 w1 F1 g1 aS r1=>?_⟩;have WI:=r1;cases WI with
    | @gS _ a0 _ R3 _ WJ _ _=>
     refine⟨a0,rfl,.inl ⟨_,.inl WJ⟩,ρ1,w1,t+1,_,_,_,g1,h2,λy H2 w2 F2 g2 cD r2=>⟨ρ2,w2,t+2,_,_,_,g2,h3,λzv H3 w3 F3 g3 ng r3=>?_⟩⟩;have hy:y=kV (.inr k0):=by cases r2;rfl
     subst hy;have WK:=(r1.gone g1.wl (cD.trans ng)).drop (o:=.t t) (Qj t);have rz:=r3.drop (o:=.t t) (t':=t) (by omega);have go:=(aS.trans cD).trans ng;cases WK with
     | @gS _ _ _ vs _ hH _ rs=>
      obtain⟨v1,v2⟩:=HE (ks:=ks) k0 rs;refine⟨_,lJ.k hH,?_⟩;cases hg:j8 ks ds k0 with
      | none=>
       rw[v2 hg];rw[hg]at kk;exact oo kk gd g3 go rz.j0
      | some d=>
       obtain⟨v,ev,rv⟩:=v1 d hg;rw[ev];rw[hg]at kk;exact oo kk gd g3 go rv.j0
   ·cases ee
  ·cases ee
 ·cases ee⟩
theorem WM{bp:List Expr}{env:Env}{ks:List (Option Expr)}{vs:List Expr}:starEach (.Dict ks vs pos::bp) env=(false,eval (.Dict ks vs pos) env)::starEach bp env:=by simp only[starEach]
end
end L3
namespace L3
open PySem PySem.Spec PyProof.Rows PySem.W L2
structure WN (P:Program) (w:World) (outer:List Env) (H:Hp) (s:Shared) (a C t:Addr) (B:Heap) (H':Hp) (s':Shared):Prop where
 os:s'.os=s.os
 bare:AllBare s'.gens
 un:Un (jX outer) [] H H' s.heap s'.heap
 aG:dQ P w H' s'.heap
 fl:Heap.FlyingW B outer a (.ref C) (.ref t) s'.heap
 old:∀ b o,s.heap.get? b=some o->H b=none->b ∉ jX outer->B.get? b=some o
 WO:∀ b o,s.heap.get? b=some o->b ∉ jX outer->∃ o',B.get? b=some o'
 vJ:∀ b u o,H' b=some u->s'.heap.get? b=some o->B.get? b=some o
 free:H' a=none
abbrev k2m:=aW->Option Str
theorem Good.grow{K:PySem.W.Frag}{ρ:aW}{σ:St}{H H':Hp}{w:Wn}{t:Nat}(g:Good K ρ σ H w t)(h:∀ b o,H b=some o->Sm o (H' b))(tb:TB K H'):Good K ρ σ H' w t/\Go H w H' w:=by
 have st:dY H w H' w:=λa x e n=>⟨h a x e,n⟩;have kp:∀ a o,w a=some o->H' a=H a:=λa o e=>by obtain⟨vs,q⟩:=g.wl a o e;rw[q,(h a _ q).eq (by cases vs<;>rfl)]
 refine⟨⟨⟨λa o e=>?_,tb⟩,g.ws,g.wt,g.len,λi d q e=>?_⟩,st,λa o e _=>⟨kp a o e,e⟩⟩
 ·obtain⟨vs,q⟩:=g.wl a o e;exact⟨vs,(h a _ q).eq (by cases vs<;>rfl)⟩
 ·obtain⟨v,F,h1,h2⟩:=g.slot i d q e;exact⟨v,F,h1,Rep.go g.wl st h2 λa m=>⟨kp a _ (h2.aM a m),h2.aM a m⟩⟩
end L3
namespace L3
open PySem PySem.Spec PyProof.Rows PySem.W L2 PySem.SeqAt
end L3
namespace L3
open PySem PySem.Spec PyProof.Rows L2
end L3
namespace L3
open PySem PySem.Spec PyProof.Rows PySem.W L2
abbrev k2n:=aW->Option (Str×aW)
def CE (Y:Cx)(Tk:List (Addr×Obj))(σ:St)(H:Hp)(w:Wn)(nm:Str)(ρ1:aW)(ev:Value)(s':Shared):Prop:=
 ∃ s1 H1 w1 a C t B H',ev=.ref a/\Inv Y.n8 Tk σ H1 s1/\Good Y.K ρ1 σ H1 w1 0/\Go H w H1 w1/\WN Y.prog Y.w Y.stack H1 s1 a C t B H' s'/\nsIn Y.K mainGlobals nm=some (some (.ref C))/\(∀ b o,H1 b=some o->Sm o (H' b))/\TB Y.K H'
end L3
namespace L3
open PySem PySem.Spec PyProof.Rows L2
theorem Rep.Dj{K:PySem.W.Frag}{H:Hp}{w:Wn}{o:Ow}{q:Nat}{ds:List D}{v:V}{F:List Addr}(r:Rep K H w o q (.lst ds) v F)(hq:q<=1):∃ a vs,v=.ref a/\cW K H a vs/\af K H w o 0 ds vs []:=by
 cases r with
 | kl h r=>exact⟨_,_,rfl,h.sq,r⟩
 | shr h n r=>exact⟨_,_,rfl,.inl h,r⟩
 | own h n r ne=>
  rename_i q' _ _ _
  obtain rfl:q'=0:=by omega
  have e:=r.zero;subst e;exact⟨_,_,rfl,cW.of h,r⟩
end L3
namespace L3
open PySem PySem.Spec PyProof.Rows PySem.W L2
variable {Q:Bool->Shared->Prop}
theorem WQ:isSubtype (.type "tuple") (.type "set")=pure false:=by rw[JF];kernel_rfl
theorem WR:isSubtype (.type "tuple") (.type "frozenset")=pure false:=by rw[JF];kernel_rfl
abbrev met (ks:List Int):List Int:=firstMet (λi=>ks.getD i 0) ks.length
theorem HF{K:PySem.W.Frag}{H:Hp}{w:Wn}{o:Ow}:∀ {ks:List Int} {vs:List V} {F:List Addr},af K H w o 0 (ks.map D.int) vs F->vs=ks.map V.int
 | [],_,_,h=>by cases h;rfl
 | k::ks,_,_,h=>by
  cases h with
  | cons r rs _=>rw[f_ r,HF rs];rfl
def bl (m:Nat):List Nat:=(range 5).filter λi=>m.testBit i
def bt (m:Nat)(led:Bool):SetTable:={ mask:=if(bl m).length<5 then 7 else 31,place:=(bl m).toArray,dummies:=#[],finger:=0,led:=led,moves:=if(bl m).length<5 then 0 else 1,plain:=true }
def Dk (m:Nat)(z:Nat->Tok):Array (Int×Value):=((bl m).map λv:Nat=>(Int.ofNat v,Value.int (Int.ofNat v) (z v))).toArray
def so (m:Nat)(z:Nat->Tok)(ep:Nat)(led:Bool):Obj:={ cls:=.type "set",dict:=none,data:=.set (Dk m z) ep (bt m led) }
def bor (m v:Nat):Nat:=m ||| 1 <<< v
def mb (val:Nat->Nat):Nat->Nat
 | 0=>0
 | i+1=>bor (mb val i) (val i)
section
variable {prog:Program}{w:World}{A:Around}{E:Tl}{s:Shared}
abbrev gL (w:World):Bool:=w.params.followText "set-order"
theorem HG(led:Bool):(so 0 (λ_=>0) 0 led)={ cls:=.type "set",dict:=none,data:=.set #[] 0 (.fresh 0 0 led) }:=by unfold so;congr 1
theorem WS(a:Value){Q₁:Tl}(h:Q₁ (.ref s.heap.objs.size) { s with heap:=s.heap.push (so 0 (λ_=>0) 0 (!gL w)) }) :
  codeAny (model prog w) A (.call (.builtin "set.__new__") ⟨[.type "set",a],[]⟩) (wants Q₁ E) s:=by
 refine codeAny_of_tree ?_;show wpAny _ A.in1 (do checkBuiltinCall "set.__new__" ⟨[.type "set",a],[]⟩;again (.builtin "set.__new__" ⟨[.type "set",a],[]⟩)) _ _ s;refine Qa (Ui (PySem.F.newCall_set_1 a) (Qe ⟨plainId_quiet V9 _,Jf PySem.F.entry_set_new ?_⟩));rw[Jy V9 _];unfold Builtin.«set.__new__» Builtin.Frozenset.newClass;have eV:=sub_set_self;obtain⟨hp,g,d,tk,os⟩:=s;dsimp only;wp_walk
 refine VM (Qe ?_);dsimp only;simp only[newObj];refine Qa (wpAny_alloc (Qe ?_));rw[HG]at h;exact Qe h
end
theorem HH{α:Type}(next:Nat->Nat):∀ (fuel k:Nat) (bR:List α) (out:Array α),bR.length=fuel->(pickOrder.go next fuel k bR out).toList.Perm (out.toList++bR)
 | 0,k,bR,out,h=>by rw[List.eq_nil_of_length_eq_zero h,ZM];exact .rfl
 | fuel+1,k,bR,out,h=>by
  unfold pickOrder.go;have dR:next k % bR.length<bR.length:=VU _ (by omega)
  rw[Qb dR];dsimp only;refine(HH next fuel (k+1) _ _ (by rw[Uk,Qi dR];omega)).trans ?_;rw[Array.toList_push,Jb];refine Ua _ ?_;rw[JC];have e:bR=bR.take (next k % bR.length)++bR[next k % bR.length]::bR.drop (next k % bR.length+1):=by rw[List.getElem_cons_drop];exact(JY _ _).symm
  conv=>rhs;rw[e]
  show List.Perm (bR[next k % bR.length]::(bR.take (next k % bR.length)++bR.drop (next k % bR.length+1))) _;exact List.perm_middle.symm
theorem WT{α:Type}(next:Nat->Nat)(xs:Array α):(pickOrder next xs).toList.Perm xs.toList:=by unfold pickOrder;exact HH next _ 0 _ #[] (by simp)
theorem WU:entryFor table "set.__iter__" = some Builtin.«frozenset.__iter__»:=
 entryFor_alias (id':="frozenset.__iter__") (by kernel_rfl) rfl (by decide +kernel) (by kernel_rfl)
theorem uR:Slot "set_iterator" "__next__" "set_iterator.__next__" :=
 .of (owner:="set_iterator") (n:="__next__") (by rw[YT,JX];kernel_rfl) (by decide +kernel) (by decide +kernel) (by decide +kernel)
  (by first|exact .inl (by decide +kernel)|exact .inr (by decide +kernel)) (by rw[JF];kernel_rfl)
theorem HI:entryFor table "set_iterator.__next__" = some Builtin.«set_iterator.__next__»:=entryFor_of_tree (by kernel_rfl)
theorem HJ(a:Value):argsOk "set_iterator.__next__" ⟨[a],[]⟩:=by unfold argsOk;kernel_rfl
theorem HK:Slot "set_iterator" "__iter__" "set_iterator.__iter__" :=
 .of (owner:="set_iterator") (n:="__iter__") (by rw[YT,JX];kernel_rfl) (by decide +kernel) (by decide +kernel) (by decide +kernel)
  (by first|exact .inl (by decide +kernel)|exact .inr (by decide +kernel)) (by rw[JF];kernel_rfl)
theorem WV(a:Value):argsOk "set_iterator.__iter__" ⟨[a],[]⟩:=by unfold argsOk;kernel_rfl
theorem WW:entryFor table "set_iterator.__iter__" = some Builtin.«dict_keyiterator.__iter__»:=
 entryFor_alias (id':="dict_keyiterator.__iter__") (by kernel_rfl) rfl (by decide +kernel) (by kernel_rfl)
def io (a:Addr)(sl i n ep:Nat):Obj:={ cls:=.type "set_iterator",dict:=none,data:=.fields #[.int (Int.ofNat sl) 0,.int (Int.ofNat i) 0,.ref a,.int (Int.ofNat n) 0,.int (Int.ofNat ep) 0],slots:=#[] }
def wk (w:World)(a:Addr)(m:Nat)(z:Nat->Tok)(ep:Nat):Array (Int×Value):=if gL w then pickOrder (w.params.setOrder a ep) (Dk m z)else Dk m z
section
variable {prog:Program}{w:World}{A:Around}{E:Tl}{s:Shared}{a I:Addr}{m ep:Nat}{z:Nat->Tok}
theorem Dl(h:Q (gL w) s):wpAny (model prog w) A setsByText Q E s:=by unfold setsByText;exact Qa (VM (Qe h))
theorem WX(hT:s.TypeIs (.ref a) "set")(h:Q false s):wpAny (model prog w) A (Builtin.List.listLengthHint (.ref a)) Q E s:=by
 unfold Builtin.List.listLengthHint;refine Qa (JV hT PySem.F.slot_set_len.lookup ?_);generalize HL:("set.__len__":String)=WY
 wp_delta
 rw[show splitId WY=some ("set","__len__")from by subst HL;decide +kernel];subst HL;refine Qa (Z5 (T:="set") (b:=true) hT (by rw[JF];kernel_rfl) ?_);refine wpAny_ite_split (λkZ=>absurd kZ (by decide)) (λ_=>?_);refine wpAny_ite_split (λ_=>?_) (λkZ=>absurd (by decide +kernel) kZ);refine Qa (Yp hT ?_);exact Qe h
end
section
variable {X:Cx}{Tk:List (Addr×Obj)}{σ:St}{H:Hp}{s:Shared}{a:Addr}{h1 h':Heap}{o:HO}{t':Nat}
theorem Dm{P:Program}{w:World}{h:Heap}(x:dQ P w H h)(k:∀ b u,h.get? b=some u->h1.get? b=some u)(hp:h1.objs.size<=a):H a=none:=by
 cases q:H a with
 | none=>rfl
 | some u=>exact absurd (QB ((x a u q).ix (h':=h1) (H':=H) (λb u _ e=>k b u e) (λ_ e=>e) (λ_ _ e=>e)).lt hp) (QT _)
theorem HM(I:Inv X Tk σ H s)(k1:∀ b u,s.heap.get? b=some u->h1.get? b=some u)(hp:h1.objs.size<=a)(k:∀ b u,s.heap.get? b=some u->h'.get? b=some u)(new:dA X.prog X.w (upd H a o) h' a o) :
  Inv X Tk σ (upd H a o) { s with heap:=h',toks:=t' }:=by
 have hn:=Dm I.aG k1 hp;refine I.un ⟨λb u q _ _ _=>k b u q,λb u q _ _ _=>⟨u.slots,k b u q⟩,λb u q n _=>?_,λb u q _=>⟨u,k b u q⟩,λb xs q=>by rw[a_ (gC q hn)];exact q,λb u xs q=>by rw[a_ (gC q hn)];exact q,
  λb ps q=>⟨#[],by rw[a_ (gC q hn),q];simp⟩⟩ λb u e=>?_
 ·rw[a_ (Q4 (QB (Qq (k1 b u q)) hp))];exact n
 ·by_cases hb:b=a
  ·subst hb;rw[fD]at e;cases e;exact new
  ·rw[a_ hb]at e;exact(I.aG b u e).ix (λc v _ q=>k c v q) (λc q=>by rw[a_ (gC q hn)];exact q) λc xs q=>by rw[a_ (gC q hn)];exact q
end
theorem y_:∀ {ks:List Int} {us:List Value},IntsAre us ks->bc (ks.map V.int) us
 | _,_,.nil=>.nil
 | _,_,.cons k t r=>.cons ⟨t,rfl⟩ (y_ r)
end L3
namespace L3
open PySem PySem.Spec PyProof.Rows L2
end L3
namespace L3
open PySem PySem.Spec PyProof.Rows PySem.W L2
end L3
namespace L3
open PySem PySem.Spec PyProof.Rows L2
end L3
namespace L3
open PySem PySem.Spec PyProof.Rows PySem.W L2
end L3
namespace L3
open PySem PySem.Spec PyProof.Rows L2
end L3
namespace L3
open PySem PySem.Spec PyProof.Rows PySem.W L2
theorem HN{α β:Type}{f:α->β}{ps qs:List β}(h:ps.Perm qs):∀ {l:List α},qs=l.map f->∃ l':List α,l'.Perm l/\ps=l'.map f:=by
 induction h with
 | nil=>
  intro l e;have:=Y0.mp e.symm;subst this;exact⟨[],.nil,rfl⟩
 | cons x _ ih=>
  intro l e;cases l with
  | nil=>cases e
  | cons a l=>
   rw[Qx]at e;cases e;obtain⟨l',p,e'⟩:=ih rfl;exact⟨a::l',p.cons a,by rw[e'];rfl⟩
 | swap x y _=>
  intro l e
  match l,e with
  | [],e=>cases e
  | [a],e=>simp at e
  | a::b::l,e=>
   rw[Qx,Qx]at e;cases e;exact⟨b::a::l,.swap a b l,rfl⟩
 | trans _ _ pz pA=>
  intro l e;obtain⟨l2,p2,e2⟩:=pA e;obtain⟨l1,p1,e1⟩:=pz e2;exact⟨l1,p1.trans p2,e1⟩
end L3
namespace L3
open PySem PySem.SetTable
variable {e i j mask n:Nat}{hs:List Int}{xs:Array Nat}
def Rs (xs:Array Nat):Prop:=∀ a b,a<b->b<xs.size->xs.getD a 0<xs.getD b 0
theorem HP(h:i<xs.size)(a b:Nat):xs.getD i a=xs.getD i b:=by unfold Array.getD;rw[VW h,VW h]
theorem Dp(r:Rs xs)(j:Nat):∀ (fuel lo hi:Nat),hi-lo<=fuel->lo<=hi->hi<=xs.size->(∀ i,i<lo->xs.getD i 0<j)->(∀ i,hi<=i->i<xs.size->j<=xs.getD i 0)->
  below.go xs j fuel lo hi<=xs.size/\(∀ i,i<below.go xs j fuel lo hi->xs.getD i 0<j)/\(∀ i,below.go xs j fuel lo hi<=i->i<xs.size->j<=xs.getD i 0)
 | 0,lo,hi,hf,hl,hs,h1,h2=>by unfold below.go;exact⟨by omega,h1,λi a b=>h2 i (by omega) b⟩
 | fuel+1,lo,hi,hf,hl,hs,h1,h2=>by
  unfold below.go;by_cases c:lo<hi
  ·rw[Qi c];have hm:(lo+hi) / 2<xs.size:=by omega
   by_cases d:xs.getD ((lo+hi) / 2) j<j
   ·rw[Qi d];rw[HP hm j 0]at d;refine Dp r j fuel _ hi (by omega) (by omega) hs (λi bS=>?_) h2;by_cases e:i=(lo+hi) / 2
    ·rw[e];exact d
    ·exact JJ (r i _ (by omega) hm) d
   ·rw[Ql d];rw[HP hm j 0]at d;refine Dp r j fuel lo _ (by omega) (by omega) (by omega) h1 (λi a b=>?_);by_cases e:i=(lo+hi) / 2
    ·rw[e];omega
    ·have:=r ((lo+hi) / 2) i (by omega) b;omega
  ·rw[Ql c];exact⟨by omega,h1,λi a b=>h2 i (by omega) b⟩
theorem sU(r:Rs xs)(j:Nat):below xs j<=xs.size/\(∀ i,i<below xs j->xs.getD i 0<j)/\(∀ i,below xs j<=i->i<xs.size->j<=xs.getD i 0):=
 Dp r j xs.size 0 xs.size (by omega) (by omega) (Qj _) (λ_ h=>absurd h (Zk _)) (λi a b=>by omega)
theorem WZ(r:Rs xs)(h:xs[i]? = some j):below xs j=i:=by
 obtain⟨a,b,c⟩:=sU r j;have hi:i<xs.size:=(Jo.mp h).1;have e:xs.getD i 0=j:=by rw[QP,h];rfl
 by_cases l:i<below xs j
 ·have:=b i l;omega
 ·by_cases l2:below xs j<i
  ·have h1:=c (below xs j) (Qj _) (by omega);have h2:=r (below xs j) i l2 hi;omega
  ·omega
theorem wN{t:SetTable}(r:Rs t.place)(h:t.place[i]? = some j):t.slot j=.live i:=by unfold SetTable.slot;rw[WZ r h];show(if(t.place[i]? == some j)=true then Slot.live i else _)=_;rw[h];simp
theorem W2{t:SetTable}(hd:t.dummies = #[])(h:∀ i:Nat,t.place[i]? ≠ some j):t.slot j=.empty:=by
 unfold SetTable.slot SetTable.has;rw[hd];have:(t.place[below t.place j]? == some j)=false:=by rw[ZV];exact h _
 simp[this]
theorem wO{t:SetTable}(r:Rs t.place)(hd:t.dummies = #[])(j:Nat):(∃ i:Nat,t.place[i]? = some j/\t.slot j=.live i)\/((∀ i:Nat,t.place[i]? ≠ some j)/\t.slot j=.empty):=by
 by_cases h:∃ i:Nat,t.place[i]? = some j
 ·obtain⟨i,e⟩:=h;exact .inl ⟨i,e,wN r e⟩
 ·have h':∀ i:Nat,t.place[i]? ≠ some j:=λi e=>h ⟨i,e⟩;exact .inr ⟨h',W2 hd h'⟩
def k5 (mask:Nat)(p:Probe):Probe:=if p.more > 0 then { p with j:=p.j+1,more:=p.more-1 }else { p with j:=(leap mask p.i p.perturb).1,more:=runEnd mask (leap mask p.i p.perturb).1-(leap mask p.i p.perturb).1,i:=(leap mask p.i p.perturb).1,perturb:=(leap mask p.i p.perturb).2 }
def b_ (mask:Nat)(h:Int):Probe:={ j:=bits h % (mask+1),more:=runEnd mask (bits h % (mask+1))-bits h % (mask+1),i:=bits h % (mask+1),perturb:=bits h,dummy:=none }
def bh (mask:Nat)(p:Probe):Nat->Probe
 | 0=>p
 | m+1=>bh mask (k5 mask p) m
theorem nv(mask:Nat):∀ (m k:Nat) (p:Probe),bh mask p (m+k)=bh mask (bh mask p m) k
 | 0,k,p=>by rw[Yv];rfl
 | m+1,k,p=>by rw[Uy];exact nv mask m k (k5 mask p)
def lp (mask a pb:Nat):Probe:={ j:=a,more:=runEnd mask a-a,i:=a,perturb:=pb,dummy:=none }
theorem Dq(mask:Nat):∀ (k:Nat) (p:Probe),k<=p.more->bh mask p k={ p with j:=p.j+k,more:=p.more-k }
 | 0,p,_=>rfl
 | k+1,p,h=>by
  show bh mask (k5 mask p) k=_;have e:k5 mask p={ p with j:=p.j+1,more:=p.more-1 }:=by unfold k5;rw[Qi (by omega)]
  rw[e,Dq mask k _ (by show k<=p.more-1;omega)];show({ p with j:=p.j+1+k,more:=p.more-1-k }:Probe)={ p with j:=p.j+(k+1),more:=p.more-(k+1) };congr 1
  ·omega
  ·omega
theorem W3(mask a:Nat):runEnd mask a-a<=9:=by unfold runEnd;split<;>omega
theorem HQ(mask a pb:Nat):bh mask (lp mask a pb) (runEnd mask a-a+1)=lp mask (leap mask a pb).1 (leap mask a pb).2:=by rw[nv,Dq mask (runEnd mask a-a) (lp mask a pb) (Qj _)];show k5 mask { lp mask a pb with j:=a+(runEnd mask a-a),more:=runEnd mask a-a-(runEnd mask a-a) }=_;unfold k5;rw[Ql (by show ¬ runEnd mask a-a-(runEnd mask a-a) > 0;omega)];rfl
def lst (mask:Nat):Nat->Nat×Nat->Nat×Nat
 | 0,x=>x
 | s+1,x=>lst mask s (leap mask x.1 x.2)
theorem HR(mask:Nat):∀ (s:Nat) (x:Nat×Nat),∃ m,m<=10*s/\bh mask (lp mask x.1 x.2) m=lp mask (lst mask s x).1 (lst mask s x).2
 | 0,x=>⟨0,Qj _,rfl⟩
 | s+1,x=>by obtain⟨m,hm,e⟩:=HR mask s (leap mask x.1 x.2);have h:=W3 mask x.1;refine⟨runEnd mask x.1-x.1+1+m,by omega,?_⟩;rw[nv,HQ];exact e
theorem HS(mask:Nat):∀ (s r:Nat) (x:Nat×Nat),lst mask (s+r) x=lst mask r (lst mask s x)
 | 0,r,x=>by rw[Yv];rfl
 | s+1,r,x=>by rw[Uy];exact HS mask s r _
theorem HU(mask:Nat):∀ (s:Nat) (x:Nat×Nat),(lst mask s x).2=x.2 / 32 ^ s
 | 0,x=>by rw[Nat.pow_zero,Nat.div_one];rfl
 | s+1,x=>by show(lst mask s (leap mask x.1 x.2)).2=_;rw[HU mask s,Nat.pow_succ'];show x.2 / 32 / 32 ^ s=_;rw[Nat.div_div_eq_div_mul]
theorem HV(mask:Nat):∀ (s:Nat) (x:Nat×Nat),x.1<=mask->(lst mask s x).1<=mask
 | 0,_,h=>h
 | s+1,x,_=>HV mask s _ (by show(x.1*5+1+x.2 / 32) % (mask+1)<=mask;exact YW.mp (VU _ (JL mask)))
def oH (mask:Nat):Nat->Nat->Nat
 | 0,a=>a
 | s+1,a=>oH mask s ((a*5+1) % (mask+1))
theorem HW(mask:Nat):∀ (s a:Nat),lst mask s (a,0)=(oH mask s a,0)
 | 0,_=>rfl
 | s+1,a=>by show lst mask s ((a*5+1+0 / 32) % (mask+1),0 / 32)=_;rw[Nat.zero_div,Nat.add_zero];exact HW mask s _
theorem Ai(mask:Nat):∀ (s r a:Nat),oH mask (s+r) a=oH mask r (oH mask s a)
 | 0,r,a=>by rw[Yv];rfl
 | s+1,r,a=>by rw[Uy];exact Ai mask s r _
def Ds (mask:Nat):Nat->Nat->List Nat
 | 0,_=>[]
 | s+1,a=>a::Ds mask s ((a*5+1) % (mask+1))
theorem HX(mask:Nat):∀ (n a:Nat) {e:Nat},e∈Ds mask n a->∃ s,s<n/\oH mask s a=e
 | 0,_,_,h=>nomatch h
 | n+1,a,e,h=>by
  rcases Qs.mp h with rfl|h
  ·exact⟨0,JL _,rfl⟩
  ·obtain⟨s,hs,q⟩:=HX mask n _ h;exact⟨s+1,Nat.succ_lt_succ hs,q⟩
structure Mk (mask:Nat):Prop where
 all:∀ e,e<=mask->∃ s,s<mask+1/\oH mask s 0=e
 back:oH mask (mask+1) 0=0
 odd:mask % 2=1
 iE:mask<=511
theorem Mk.of(mask:Nat)(o:mask % 2=1)(fw:mask<=511)(h:((range (mask+1)).all λe=>(Ds mask (mask+1) 0).contains e)=true)(b:oH mask (mask+1) 0=0):Mk mask:=
 ⟨λe he=>HX mask _ 0 (by have:=Z3.mp h e (Qv.mpr (by omega));exact List.contains_iff_mem.mp this),b,o,fw⟩
theorem HY:Mk 7:=.of 7 rfl (by decide) (by decide +kernel) (by decide +kernel)
theorem W4:Mk 31:=.of 31 rfl (by decide) (by decide +kernel) (by decide +kernel)
theorem W5:Mk 127:=.of 127 rfl (by decide) (by decide +kernel) (by decide +kernel)
theorem W6:Mk 511:=.of 511 rfl (by decide) (by decide +kernel) (by decide +kernel)
theorem Mk.any(k:Mk mask){a:Nat}(ha:a<=mask)(he:e<=mask):∃ s,s<mask+1/\oH mask s a=e:=by
 obtain⟨s0,h0,e0⟩:=k.all a ha;obtain⟨s1,h1,e1⟩:=k.all e he;by_cases c:s0<=s1
 ·refine⟨s1-s0,by omega,?_⟩;rw[<- e0,<- Ai,show s0+(s1-s0)=s1 by omega];exact e1
 ·refine⟨s1+(mask+1)-s0,by omega,?_⟩;rw[<- e0,<- Ai,show s0+(s1+(mask+1)-s0)=(mask+1)+s1 by omega,Ai,k.back];exact e1
theorem W7(h:Int):bits h<2 ^ 64:=by unfold bits;omega
theorem Dt(k:Mk mask)(h:Int)(he:e<=mask):∃ m,m<10*turns mask/\(bh mask (b_ mask h) m).j=e/\∃ s,s<turns mask/\(lst mask s (bits h % (mask+1),bits h)).1=e:=by
 have h0:bits h % (mask+1)<=mask:=YW.mp (VU _ (JL mask));have z:(lst mask 13 (bits h % (mask+1),bits h)).2=0:=by rw[HU];exact Nat.div_eq_of_lt (QB (W7 h) (by decide))
 have W8:=HV mask 13 (bits h % (mask+1),bits h) h0;obtain⟨s,hs,es⟩:=k.any W8 he;have e1:lst mask (13+s) (bits h % (mask+1),bits h)=(e,0):=by
  rw[HS];have:lst mask 13 (bits h % (mask+1),bits h)=((lst mask 13 (bits h % (mask+1),bits h)).1,0):=by rw[<- z]
  rw[this,HW,es]
 obtain⟨m,hm,em⟩:=HR mask (13+s) (bits h % (mask+1),bits h);rw[e1]at em;refine⟨m,by unfold turns;omega,?_,13+s,by unfold turns;omega,by rw[e1]⟩;have:b_ mask h=lp mask (bits h % (mask+1)) (bits h):=rfl;rw[this,em];rfl
theorem HZ(mask:Nat):∀ (m:Nat) (p:Probe),p.dummy=none->(bh mask p m).dummy=none
 | 0,_,h=>h
 | m+1,p,h=>HZ mask m _ (by unfold k5;split<;>exact h)
theorem H0(t:SetTable)(hashAt:Nat->Int)(h:Int)(r:Rs t.place)(hd:t.dummies = #[]):∀ (fuel:Nat) (p:Probe),p.dummy=none->(∃ m,m<fuel/\t.slot (bh t.mask p m).j=.empty)->
  ∃ m,m<fuel/\(∀ m',m'<m->∃ i,t.slot (bh t.mask p m').j=.live i/\hashAt i≠h)/\((t.slot (bh t.mask p m).j=.empty/\probe.go t hashAt h fuel p=some (.empty (bh t.mask p m).j none))\/∃ i,t.slot (bh t.mask p m).j=.live i/\hashAt i=h/\probe.go t hashAt h fuel p=some (.candidate (bh t.mask p m).j i (bh t.mask p (m+1))))
 | 0,_,_,⟨m,hm,_⟩=>absurd hm (Zk _)
 | fuel+1,p,hp,⟨M,hM,eM⟩=>by
  rcases wO r hd p.j with⟨i,_,e⟩|⟨_,e⟩
  ·by_cases c:hashAt i=h
   ·refine⟨0,JL _,λ_ z=>absurd z (Zk _),.inr ⟨i,e,c,?_⟩⟩;show probe.go t hashAt h (fuel+1) p=some (.candidate p.j i (k5 t.mask p));unfold probe.go;rw[e];show(if(hashAt i==h)=true then _ else _)=_;rw[Qi (by rw[c];exact Zy h)];rfl
   ·have n0:M≠0:=λz=>by subst z;have:t.slot p.j=.empty:=eM;rw[e]at this;cases this
    obtain⟨M',rfl⟩:=YL n0;have mf:(k5 t.mask p).dummy=none:=by unfold k5;split<;>exact hp
    obtain⟨m,hm,a,b⟩:=H0 t hashAt h r hd fuel (k5 t.mask p) mf ⟨M',by omega,eM⟩;have go:probe.go t hashAt h (fuel+1) p=probe.go t hashAt h fuel (k5 t.mask p):=by
     conv=>lhs;unfold probe.go
     rw[e];show(if(hashAt i==h)=true then _ else _)=_;rw[Ql (by rw[J5];exact c)];rfl
    refine⟨m+1,by omega,λm' gJ=>?_,?_⟩
    ·match m' with
     | 0=>exact⟨i,e,c⟩
     | m'+1=>exact a m' (by omega)
    ·rw[go];exact b
  ·refine⟨0,JL _,λ_ z=>absurd z (Zk _),.inl ⟨e,?_⟩⟩;show probe.go t hashAt h (fuel+1) p=some (.empty p.j none);unfold probe.go;rw[e];show some (Met.empty p.j p.dummy)=_;rw[hp]
structure gr (t:SetTable) (hs:List Int):Prop where
 sz:t.place.size=hs.length
 rs:Rs t.place
 nd:t.dummies = #[]
 rd:Mk t.mask
 le:∀ (i j:Nat),t.place[i]? = some j->j<=t.mask
 room:hs.length<=t.mask
 wQ:∀ (i j:Nat) (h:Int),t.place[i]? = some j->hs[i]? = some h->∃ m,m<10*turns t.mask/\(bh t.mask (b_ t.mask h) m).j=j/\∀ m',m'<m->∃ i',t.slot (bh t.mask (b_ t.mask h) m').j=.live i'
theorem Du:∀ {l l':List Nat},l.Nodup->(∀ x∈l,x∈l')->l.length<=l'.length
 | [],_,_,_=>Q6 _
 | a::l,l',nd,h=>by
  have ha:=h a Qh;have i:=Du (l:=l) (l':=l'.erase a) (Q5.mp nd).2 λx hx=>by have ne:x≠a:=λz=>(Q5.mp nd).1 (z ▸ hx);exact(YM ne).mpr (h x (Qf _ hx))
  rw[Yc ha]at i;have:0<l'.length:=Yw ha;show l.length+1<=l'.length;omega
section
variable {t:SetTable}{hs:List Int}(T:gr t hs)
include T
theorem gr.hole:∃ e,e<=t.mask/\t.slot e=.empty:=by
 by_cases h:∃ e,e<=t.mask/\t.slot e=.empty
 ·exact h
 ·have all:∀ e∈range (t.mask+1),e∈t.place.toList:=λe he=>by
   have Dv:=Qv.mp he;rcases wO T.rs T.nd e with⟨i,a,_⟩|⟨_,a⟩
   ·obtain⟨hi,q⟩:=Jo.mp a;rw[<- q];exact YK.mpr (Vx hi)
   ·exact absurd ⟨e,by omega,a⟩ h
  have:=Du Jm all;rw[QI,QA,T.sz]at this;have:=T.room;omega
theorem gr.met(h:Int):∃ m,m<10*turns t.mask/\t.slot (bh t.mask (b_ t.mask h) m).j=.empty/\∀ m',m'<m->∃ i,t.slot (bh t.mask (b_ t.mask h) m').j=.live i:=by
 obtain⟨e,he,q⟩:=T.hole;obtain⟨M,hM,eM,_⟩:=Dt T.rd h he;have ex:∃ m,t.slot (bh t.mask (b_ t.mask h) m).j=.empty:=⟨M,by rw[eM];exact q⟩;have key:∀ k,(∃ m,m<k/\t.slot (bh t.mask (b_ t.mask h) m).j=.empty)->∃ m,m<k/\t.slot (bh t.mask (b_ t.mask h) m).j=.empty/\∀ m',m'<m->t.slot (bh t.mask (b_ t.mask h) m').j ≠ .empty:=by
  intro k;induction k with
  | zero=>exact λ⟨m,hm,_⟩=>absurd hm (Zk _)
  | succ k ih=>
   intro ⟨m,hm,em⟩;by_cases c:∃ m,m<k/\t.slot (bh t.mask (b_ t.mask h) m).j=.empty
   ·obtain⟨m',a,b⟩:=ih c;exact⟨m',by omega,b⟩
   ·exact⟨m,hm,em,λm' gJ z=>c ⟨m',by omega,z⟩⟩
 obtain⟨m,hm,em,bm⟩:=key (10*turns t.mask) ⟨M,hM,by rw[eM];exact q⟩;refine⟨m,hm,em,λm' gJ=>?_⟩;rcases wO T.rs T.nd (bh t.mask (b_ t.mask h) m').j with⟨i,_,a⟩|⟨_,a⟩
 ·exact⟨i,a⟩
 ·exact absurd a (bm m' gJ)
end
theorem um{α:Type}(xs:Array α)(p:Nat)(x:α)(hp:p<=xs.size)(i:Nat):(insertAt xs p x)[i]? = if i<p then xs[i]? else if i=p then some x else xs[i-1]?:=by
 have e:(insertAt xs p x).toList=xs.toList.take p++x::xs.toList.drop p:=by unfold insertAt;simp;exact Yx (by rw[Z1,QA];exact Qj _)
 rw[<- Zd,e];by_cases h1:i<p
 ·rw[Qi h1,Q1 (by rw[Zi,QA];omega),Z7 h1,Zd]
 ·rw[Ql h1,Zs (by rw[Zi,QA];omega),Zi,QA,Nat.min_eq_left hp];by_cases h2:i=p
  ·rw[Qi h2,h2,Uz];rfl
  ·rw[Ql h2];obtain⟨k,rfl⟩:∃ k,i=p+k+1:=⟨i-p-1,by omega⟩;rw[show p+k+1-p=k+1 by omega,Zl,List.getElem?_drop,Zd];rfl
theorem H9{α:Type}(xs:Array α)(p:Nat)(x:α)(hp:p<=xs.size):(insertAt xs p x).size=xs.size+1:=by unfold insertAt;simp;omega
theorem Dw(h:xs[i]? = some j):xs.getD i 0=j:=by rw[QP,h];rfl
theorem Aj(h:i<xs.size):xs[i]? = some (xs.getD i 0):=by unfold Array.getD;rw[VW h];exact Zn h
theorem W9(r:Rs xs)(hj:∀ i:Nat,xs[i]? ≠ some j):Rs (insertAt xs (below xs j) j):=by
 obtain⟨a,b,c⟩:=sU r j;have sz:=H9 xs (below xs j) j a;have g:∀ i,i<xs.size+1->(insertAt xs (below xs j) j).getD i 0=if i<below xs j then xs.getD i 0 else if i=below xs j then j else xs.getD (i-1) 0:=λi hi=>by
  refine Dw ?_;rw[um xs _ j a];by_cases h1:i<below xs j
  ·rw[Qi h1,Qi h1];exact Aj (by omega)
  ·rw[Ql h1,Ql h1];by_cases h2:i=below xs j
   ·rw[Qi h2,Qi h2]
   ·rw[Ql h2,Ql h2];exact Aj (by omega)
 have c':∀ i,below xs j<=i->i<xs.size->j<xs.getD i 0:=λi h1 h2=>by have:=c i h1 h2;have ne:xs.getD i 0≠j:=λz=>hj i (by rw[Aj h2,z]);omega
 intro x y k7 hy;rw[sz]at hy;rw[g x (by omega),g y hy];by_cases h1:y<below xs j
 ·rw[Qi (by omega),Qi h1];exact r x y k7 (by omega)
 ·rw[Ql h1];by_cases h2:y=below xs j
  ·rw[Qi h2,Qi (by omega)];exact b x (by omega)
  ·rw[Ql h2];by_cases h3:x<below xs j
   ·rw[Qi h3];have:=b x h3;have:=c' (y-1) (by omega) (by omega);omega
   ·rw[Ql h3];by_cases h4:x=below xs j
    ·rw[Qi h4];exact c' (y-1) (by omega) (by omega)
    ·rw[Ql h4];exact r (x-1) (y-1) (by omega) (by omega)
def iK {α:Type}(l:List α)(p:Nat)(x:α):List α:=l.take p++x::l.drop p
theorem Dx{α:Type}(l:List α)(p:Nat)(x:α)(hp:p<=l.length)(i:Nat):(iK l p x)[i]? = if i<p then l[i]? else if i=p then some x else l[i-1]?:=by
 unfold iK;by_cases h1:i<p
 ·rw[Qi h1,Q1 (by rw[Zi];omega),Z7 h1]
 ·rw[Ql h1,Zs (by rw[Zi];omega),Zi,Nat.min_eq_left hp];by_cases h2:i=p
  ·rw[Qi h2,h2,Uz];rfl
  ·rw[Ql h2];obtain⟨k,rfl⟩:∃ k,i=p+k+1:=⟨i-p-1,by omega⟩;rw[show p+k+1-p=k+1 by omega,Zl,List.getElem?_drop];rfl
theorem sV{α:Type}(l:List α)(p:Nat)(x:α):(iK l p x).length=l.length+1:=by unfold iK;rw[Qn,Qz,Zi,Z1];omega
theorem gr.put{t:SetTable}(T:gr t hs){h:Int}{m:Nat}(hm:m<10*turns t.mask)(em:t.slot (bh t.mask (b_ t.mask h) m).j=.empty)(bm:∀ m',m'<m->∃ i,t.slot (bh t.mask (b_ t.mask h) m').j=.live i)(hj:(bh t.mask (b_ t.mask h) m).j<=t.mask)(hr:hs.length+1<=t.mask) :
  (t.put (bh t.mask (b_ t.mask h) m).j).2<=hs.length/\(t.put (bh t.mask (b_ t.mask h) m).j).1.mask=t.mask/\gr (t.put (bh t.mask (b_ t.mask h) m).j).1 (iK hs (t.put (bh t.mask (b_ t.mask h) m).j).2 h):=by
 generalize W_:(bh t.mask (b_ t.mask h) m).j=j at *
 have ne:∀ i:Nat,t.place[i]? ≠ some j:=λi e=>by rw[wN T.rs e]at em;cases em
 have pe:t.put j=({ t with place:=insertAt t.place (below t.place j) j,dummies:=#[] },below t.place j):=by unfold SetTable.put SetTable.has;rw[T.nd];simp
 rw[pe];obtain⟨a,b,c⟩:=sU T.rs j;have sz:=T.sz;have uK:Rs (insertAt t.place (below t.place j) j):=W9 T.rs ne;have lv:∀ (k i:Nat),t.slot k=.live i->∃ i',({ t with place:=insertAt t.place (below t.place j) j,dummies:=#[] }:SetTable).slot k=.live i':=λk i e=>by
  rcases wO T.rs T.nd k with⟨i',e',_⟩|⟨_,e'⟩
  ·refine⟨if i'<below t.place j then i' else i'+1,wN uK ?_⟩;show(insertAt t.place (below t.place j) j)[_]? = some k;rw[um t.place _ j a];by_cases h1:i'<below t.place j
   ·rw[Qi h1,Qi h1];exact e'
   ·rw[Ql h1,Ql (by omega),Ql (by omega)];exact e'
  ·rw[e]at e';cases e'
 refine⟨by show below t.place j<=hs.length;omega,rfl,?_⟩;refine⟨by show(insertAt t.place (below t.place j) j).size=_;rw[H9 _ _ _ a,sV];omega,uK,rfl,T.rd,λi k e=>?_,by rw[sV];exact hr,λi k h' e eh=>?_⟩
 ·have e':(insertAt t.place (below t.place j) j)[i]? = some k:=e;rw[um t.place _ j a]at e';by_cases h1:i<below t.place j
  ·rw[Qi h1]at e';exact T.le i k e'
  ·rw[Ql h1]at e';by_cases h2:i=below t.place j
   ·rw[Qi h2]at e';cases e';exact hj
   ·rw[Ql h2]at e';exact T.le _ k e'
 ·have e':(insertAt t.place (below t.place j) j)[i]? = some k:=e;have qV:(iK hs (below t.place j) h)[i]? = some h':=eh;rw[um t.place _ j a]at e';rw[Dx hs _ h (by omega)]at qV;have old:∀ i0,t.place[i0]? = some k->hs[i0]? = some h'->∃ m,m<10*turns t.mask/\(bh t.mask (b_ t.mask h') m).j=k/\∀ m',m'<m->∃ i',({ t with place:=insertAt t.place (below t.place j) j,dummies:=#[] }:SetTable).slot (bh t.mask (b_ t.mask h') m').j=.live i':=λi0 x y=>by obtain⟨m0,q1,q2,q3⟩:=T.wQ i0 k h' x y;refine⟨m0,q1,q2,λm' gJ=>?_⟩;obtain⟨i',q⟩:=q3 m' gJ;exact lv _ _ q
  by_cases h1:i<below t.place j
  ·rw[Qi h1]at e' qV;exact old _ e' qV
  ·rw[Ql h1]at e' qV;by_cases h2:i=below t.place j
   ·rw[Qi h2]at e' qV;cases e';cases qV;refine⟨m,hm,W_,λm' gJ=>?_⟩;obtain⟨i',q⟩:=bm m' gJ;exact lv _ _ q
   ·rw[Ql h2]at e' qV;exact old _ e' qV
theorem wR(mask:Nat)(h:Int)(m:Nat):(bh mask (b_ mask h) m).j<=mask:=by
 have key:∀ (m:Nat) (p:Probe),p.j+p.more<=mask->(bh mask p m).j<=mask:=by
  intro m;induction m with
  | zero=>intro p hp;show p.j<=mask;omega
  | succ m ih=>
   intro p hp;refine ih _ ?_;unfold k5;split
   ·show p.j+1+(p.more-1)<=mask;omega
   ·show(leap mask p.i p.perturb).1+(runEnd mask (leap mask p.i p.perturb).1-(leap mask p.i p.perturb).1)<=mask;have:(leap mask p.i p.perturb).1<=mask:=YW.mp (VU _ (JL mask));unfold runEnd;split<;>omega
 refine key m _ ?_;show bits h % (mask+1)+(runEnd mask (bits h % (mask+1))-bits h % (mask+1))<=mask;have:bits h % (mask+1)<=mask:=YW.mp (VU _ (JL mask));unfold runEnd;split<;>omega
theorem gr.fresh(finger moves:Nat)(led:Bool):gr (.fresh finger moves led) []:=
 ⟨rfl,λa b _ h=>absurd h (Zk _),rfl,HY,λi j e=>by
   have:(#[]:Array Nat)[i]? = some j:=e;simp at this,Q6 _,λi j h e _=>by have:(#[]:Array Nat)[i]? = some j:=e;simp at this⟩
abbrev mv:=Array (Option Nat)
def jx (ow:mv)(j:Nat):Bool:=(ow.getD j (some 0)).isNone
theorem Xa{p:Nat->Bool}:(∃ k,k<n/\(range n).find? p=some k/\p k=true/\∀ k',k'<k->p k'=false)\/((range n).find? p=none/\∀ k',k'<n->p k'=false):=by
 cases h:(range n).find? p with
 | none=>exact .inr ⟨rfl,λk' hk=>by have:=List.find?_eq_none.mp h k' (Qv.mpr hk);simpa using this⟩
 | some k=>
  rw[List.find?_range_eq_some]at h;refine .inl ⟨k,Qv.mp h.2.1,rfl,h.1,λk' qT=>?_⟩;have:=h.2.2 k' qT;simpa using this
theorem H_(mask:Nat)(ow:mv):∀ (fuel:Nat) (x:Nat×Nat),(∃ s,s<fuel/\jx ow (lst mask s x).1=true)->∃ m,layClean.free mask ow fuel x.1 x.2=some (bh mask (lp mask x.1 x.2) m).j/\jx ow (bh mask (lp mask x.1 x.2) m).j=true/\∀ m',m'<m->jx ow (bh mask (lp mask x.1 x.2) m').j=false
 | 0,_,⟨s,hs,_⟩=>absurd hs (Zk _)
 | fuel+1,x,⟨s,hs,es⟩=>by
  have run:∀ k,k<=runEnd mask x.1-x.1->(bh mask (lp mask x.1 x.2) k).j=x.1+k:=λk hk=>by rw[Dq mask k _ hk];rfl
  have ge:x.1<=runEnd mask x.1:=by unfold runEnd;split<;>omega
  rcases Xa (n:=runEnd mask x.1+1-x.1) (p:=λk=>(ow.getD (x.1+k) (some 0)).isNone)with⟨k,hk,e,pk,bk⟩|⟨e,bk⟩
  ·refine⟨k,?_,?_,λm' gJ=>?_⟩
   ·unfold layClean.free;rw[e,run k (by omega)]
   ·rw[run k (by omega)];exact pk
   ·rw[run m' (by omega)];exact bk m' gJ
  ·have s0:s≠0:=λz=>by subst z;have h1:(ow.getD (x.1+0) (some 0)).isNone=false:=bk 0 (by omega);have h2:(ow.getD x.1 (some 0)).isNone=true:=es;rw[Nat.add_zero,h2]at h1;cases h1
   obtain⟨s',rfl⟩:=YL s0;obtain⟨m,a,b,c⟩:=H_ mask ow fuel (leap mask x.1 x.2) ⟨s',by omega,es⟩;have go:∀ m,bh mask (lp mask x.1 x.2) (runEnd mask x.1-x.1+1+m)=bh mask (lp mask (leap mask x.1 x.2).1 (leap mask x.1 x.2).2) m:=λm=>by rw[nv,HQ]
   refine⟨runEnd mask x.1-x.1+1+m,?_,?_,λm' gJ=>?_⟩
   ·rw[go,<- a]
    conv=>lhs;unfold layClean.free
    rw[e]
   ·rw[go];exact b
   ·by_cases h1:m'<=runEnd mask x.1-x.1
    ·rw[run m' h1];exact bk m' (by omega)
    ·obtain⟨q,rfl⟩:∃ q,m'=runEnd mask x.1-x.1+1+q:=⟨m'-(runEnd mask x.1-x.1+1),by omega⟩;rw[go];exact c q (by omega)
def fT (mask:Nat)(ow:mv):List (Nat×Nat):=(range (mask+1)).filterMap λj=>(ow.getD j none).map (j,·)
theorem Dy{α β:Type}{f g:α->Option β}:∀ {l:List α},(∀ x∈l,g x=f x)->l.filterMap g=l.filterMap f
 | [],_=>rfl
 | x::l,h=>by rw[JD,JD,h x Qh,Dy λy hy=>h y (Qf _ hy)]
theorem Ie{α β:Type}[DecidableEq α]{f g:α->Option β}{a:α}{b:β}(hf:f a=none)(hg:g a=some b):∀ {l:List α},l.Nodup->a∈l->(∀ x∈l,x≠a->g x=f x)->(l.filterMap g).Perm (b::l.filterMap f)
 | [],_,h,_=>nomatch h
 | x::l,nd,h,e=>by
  by_cases c:x=a
  ·subst c;have same:l.filterMap g=l.filterMap f:=Dy λy hy=>e y (Qf _ hy) λz=>(Q5.mp nd).1 (z ▸ hy);rw[JB hg,Yd hf,same]
  ·have ha:a∈l:=by
    rcases Qs.mp h with z|z
    ·exact absurd z.symm c
    ·exact z
   have ih:=Ie hf hg (Q5.mp nd).2 ha λy hy=>e y (Qf _ hy);have ex:=e x Qh c;cases q:f x with
   | none=>
    rw[q]at ex;rw[Yd ex,Yd q];exact ih
   | some y=>
    rw[q]at ex;rw[JB ex,JB q];exact(ih.cons y).trans (List.Perm.swap b y _)
structure i_ (mask:Nat) (hs:List Int) (ow:mv) (js:List Nat):Prop where
 sz:ow.size=mask+1
 pm:(fT mask ow).Perm js.zipIdx
 wQ:∀ j k,j<=mask->ow.getD j none=some k->∃ h m,hs[k]? = some h/\m<10*turns mask/\(bh mask (b_ mask h) m).j=j/\∀ m',m'<m->jx ow (bh mask (b_ mask h) m').j=false
theorem wU{ow:mv}(h:j<ow.size):jx ow j=(ow.getD j none).isNone:=by unfold jx Array.getD;rw[VW h,VW h]
theorem Ak{ow:mv}{k:Nat}:(j,k)∈fT mask ow ↔ j<=mask/\ow.getD j none=some k:=by
 unfold fT;rw[Y8];constructor
 ·rintro ⟨x,hx,e⟩;rw[QC]at e;obtain⟨y,a,b⟩:=e;cases b;exact⟨by have:=Qv.mp hx;omega,a⟩
 ·rintro ⟨a,b⟩;exact⟨j,Qv.mpr (by omega),by rw[b];rfl⟩
theorem Xb{ow:mv}(sz:ow.size=mask+1)(h:(fT mask ow).length<=mask):∃ e,e<=mask/\jx ow e=true:=by
 by_cases c:∃ e,e<=mask/\jx ow e=true
 ·exact c
 ·have all:∀ e∈range (mask+1),e∈(fT mask ow).map (·.1):=λe he=>by
   have Dv:=Qv.mp he;cases q:ow.getD e none with
   | none=>exact absurd ⟨e,by omega,by rw[wU (by omega),q];rfl⟩ c
   | some k=>exact Qk.mpr ⟨(e,k),Ak.mpr ⟨by omega,q⟩,rfl⟩
  have:=Du Jm all;rw[QI,Qc]at this;omega
theorem i_.add(K:Mk mask){ow:mv}{js:List Nat}(O:i_ mask hs ow js)(h:Int)(hh:hs[js.length]? = some h)(room:js.length<=mask) :
  ∃ j,layClean.free mask ow (turns mask) (bits h % (mask+1)) (bits h)=some j/\i_ mask hs (ow.setIfInBounds j (some js.length)) (js++[j]):=by
 have len:(fT mask ow).length=js.length:=by rw[O.pm.length_eq,List.length_zipIdx]
 obtain⟨e,he,q⟩:=Xb O.sz (by omega);obtain⟨_,_,_,s,sk,es⟩:=Dt K h he;obtain⟨m,a,b,c⟩:=H_ mask ow (turns mask) (bits h % (mask+1),bits h) ⟨s,sk,by rw[es];exact q⟩;have a':layClean.free mask ow (turns mask) (bits h % (mask+1)) (bits h)=some (bh mask (b_ mask h) m).j:=a;have b':jx ow (bh mask (b_ mask h) m).j=true:=b;have c':∀ m',m'<m->jx ow (bh mask (b_ mask h) m').j=false:=c;have hm:m<10*turns mask:=by
  obtain⟨M,hM,eM,_⟩:=Dt K h he;by_cases z:m<10*turns mask
  ·exact z
  ·have:=c' M (by omega);rw[eM,q]at this;cases this
 have jl:=wR mask h m;refine⟨(bh mask (b_ mask h) m).j,a',?_⟩;generalize hj:(bh mask (b_ mask h) m).j=j at *
 have sz:=O.sz;have get:∀ x,(ow.setIfInBounds j (some js.length)).getD x none=if x=j then some js.length else ow.getD x none:=λx=>by
  rw[QP,QP,Array.getElem?_setIfInBounds];by_cases z:x=j
  ·subst z;rw[Qi rfl,Qi (by omega),Qi rfl];rfl
  ·rw[Ql λy=>z y.symm,Ql z]
 have jn:ow.getD j none=none:=by have:=b';rw[wU (by omega)]at this;exact Option.isNone_iff_eq_none.mp this
 have hl:∀ x,x<=mask->jx ow x=false->jx (ow.setIfInBounds j (some js.length)) x=false:=λx hx y=>by
  rw[wU (by omega)]at y;rw[wU (by rw[VE];omega),get];by_cases z:x=j
  ·rw[Qi z];rfl
  ·rw[Ql z];exact y
 refine⟨by rw[VE];exact sz,?_,λx k hx e=>?_⟩
 ·have p1:(fT mask (ow.setIfInBounds j (some js.length))).Perm ((j,js.length)::fT mask ow):=Ie (a:=j) (by rw[jn];rfl) (by rw[get,Qi rfl];rfl) Jm (Qv.mpr (by omega)) λx _ z=>by rw[get,Ql z]
  have e:(js++[j]).zipIdx=js.zipIdx++[(j,js.length)]:=by rw[List.zipIdx_append];simp
  rw[e];exact p1.trans ((O.pm.cons _).trans (List.perm_append_singleton _ _).symm)
 ·rw[get]at e;by_cases z:x=j
  ·rw[Qi z]at e;cases e;subst z;exact⟨h,m,hh,hm,hj,λm' gJ=>hl _ (wR mask h m') (c' m' gJ)⟩
  ·rw[Ql z]at e;obtain⟨h',m0,q1,q2,q3,q4⟩:=O.wQ x k hx e;exact⟨h',m0,q1,q2,q3,λm' gJ=>hl _ (wR mask h' m') (q4 m' gJ)⟩
theorem i_.start(mask:Nat)(hs:List Int):i_ mask hs (Array.replicate (mask+1) none) []:=by
 have g:∀ j,(Array.replicate (mask+1) (none:Option Nat)).getD j none=none:=λj=>by rw[QP,Array.getElem?_replicate];split<;>rfl
 refine⟨Array.size_replicate,?_,λj k _ e=>by rw[g]at e;cases e⟩;have:fT mask (Array.replicate (mask+1) none)=[]:=by unfold fT;exact List.filterMap_eq_nil_iff.mpr λj _=>by rw[g];rfl
 rw[this];exact List.Perm.nil
theorem Xc(K:Mk mask)(hs:List Int)(room:hs.length<=mask):∃ ow js,layClean mask hs.toArray=some ow/\js.length=hs.length/\i_ mask hs ow js:=by
 have key:∀ (r:List Int) (ow:mv) (js:List Nat),i_ mask hs ow js->(∀ i h,r[i]? = some h->hs[js.length+i]? = some h)->js.length+r.length<=mask->
   ∃ Al wV,r.foldl (λ(acc:Option (mv×Nat)) h=>(do
    let (owner,k) <- acc
    let j <- layClean.free mask owner (turns mask) (bits h % (mask+1)) (bits h)
    pure (owner.setIfInBounds j (some k),k+1))) (some (ow,js.length))=some (Al,wV.length)/\wV.length=js.length+r.length/\i_ mask hs Al wV:=by
  intro r;induction r with
  | nil=>intro ow js O _ _;exact⟨ow,js,rfl,rfl,O⟩
  | cons h r ih=>
   intro ow js O e len;rw[Qz]at len;obtain⟨j,ej,O'⟩:=O.add K h (e 0 h rfl) (by omega);obtain⟨Al,wV,e1,e2,e3⟩:=ih _ (js++[j]) O' (λi x hx=>by have:=e (i+1) x (by rw[Zl];exact hx);rw[Qn];show hs[js.length+1+i]? = some x;rw[show js.length+1+i=js.length+(i+1)by omega];exact this) (by rw[Qn];show js.length+1+r.length<=mask;omega)
   refine⟨Al,wV,?_,by rw[e2,Qn];show js.length+1+r.length=js.length+(r.length+1);omega,e3⟩;rw[List.foldl_cons];have:(do
    let (owner,k) <- some (ow,js.length)
    let j <- layClean.free mask owner (turns mask) (bits h % (mask+1)) (bits h)
    pure (owner.setIfInBounds j (some k),k+1):Option (mv×Nat))=some (ow.setIfInBounds j (some js.length),(js++[j]).length):=by show(layClean.free mask ow (turns mask) (bits h % (mask+1)) (bits h)).bind _=_;rw[ej,Qn];rfl
   rw[this];exact e1
 obtain⟨ow,js,e1,e2,e3⟩:=key hs _ [] (i_.start mask hs) (λi h e=>by rw[Jr,Yv];exact e) (by rw[Jr,Yv];exact room);refine⟨ow,js,?_,by rw[e2,Jr,Yv],e3⟩;unfold layClean;rw[List.foldl_toArray];have Ig:=e1;rw[Jr]at Ig;rw[Ig];rfl
theorem Xd(mask:Nat)(ow:mv):(fT mask ow).Pairwise λa b=>a.1<b.1:=by unfold fT;refine List.Pairwise.filterMap _ (λa a' h b hb b' eZ=>?_) VX;have e1:(ow.getD a none).map (a,·)=some b:=hb;have e2:(ow.getD a' none).map (a',·)=some b':=eZ;obtain⟨_,_,rfl⟩:=QC.mp e1;obtain⟨_,_,rfl⟩:=QC.mp e2;exact h
theorem Xe(K:Mk mask)(hs:List Int)(room:hs.length<=mask)(finger moves:Nat)(led plain:Bool):∃ (pl od:List Nat),laid mask finger moves led plain hs.toArray=some ({ mask,place:=pl.toArray,dummies:=#[],finger,led,moves,plain },od.toArray)/\od.Perm (range hs.length) /\
  gr { mask,place:=pl.toArray,dummies:=#[],finger,led,moves,plain } (od.map λk=>hs.getD k 0):=by
 obtain⟨ow,js,e,hl,O⟩:=Xc K hs room;have up:=Xd mask ow;have len:(fT mask ow).length=hs.length:=by rw[O.pm.length_eq,List.length_zipIdx,hl]
 refine⟨(fT mask ow).map (·.1),(fT mask ow).map (·.2),?_,?_,?_⟩
 ·unfold laid;rw[e];rfl
 ·have:=O.pm.map (·.2);rw[List.zipIdx_map_snd,hl,<- Uh]at this;exact this
 ·have get:∀ (i j:Nat),((fT mask ow).map (·.1)).toArray[i]? = some j->∃ k,(fT mask ow)[i]? = some (j,k):=λi j h=>by rw[Jp,Qm,QC]at h;obtain⟨⟨a,b⟩,h1,h2⟩:=h;exact⟨b,by rw[h1];cases h2;rfl⟩
  have rs:Rs ((fT mask ow).map (·.1)).toArray:=λa b kZ hb=>by
   rw[Qo,Qc]at hb;have h1:((fT mask ow).map (·.1)).toArray[a]? = some ((fT mask ow)[a]'(by omega)).1:=by rw[Jp,Qm,Qb (by omega)];rfl
   have h2:((fT mask ow).map (·.1)).toArray[b]? = some ((fT mask ow)[b]'hb).1:=by rw[Jp,Qm,Qb hb];rfl
   rw[Dw h1,Dw h2];exact Zw.mp up a b (by omega) hb kZ
  have mem:∀ {i:Nat} {x:Nat×Nat},(fT mask ow)[i]? = some x->x∈fT mask ow:=λh=>by obtain⟨hi,q⟩:=QN.mp h;rw[<- q];exact QW hi
  refine⟨?_,rs,rfl,K,λi j h=>?_,?_,λi j h hp hh=>?_⟩
  ·show((fT mask ow).map (·.1)).toArray.size=_;rw[Qo,Qc,Qc,Qc]
  ·obtain⟨k,q⟩:=get i j h;exact(Ak.mp (mem q)).1
  ·rw[Qc,Qc,len];exact room
  ·obtain⟨k,q⟩:=get i j hp;rw[Qm,Qm,q]at hh;have Xf:hs.getD k 0=h:=by cases hh;rfl
   obtain⟨jm,ek⟩:=Ak.mp (mem q);obtain⟨h',m,q1,q2,q3,q4⟩:=O.wQ j k jm ek;have:h'=h:=by rw[<- Xf,Qg,q1];rfl
   subst this;refine⟨m,q2,q3,λm' gJ=>?_⟩;have sW:=q4 m' gJ;have Am:=wR mask h' m';rw[wU (by rw[O.sz];omega)]at sW;cases c:ow.getD (bh mask (b_ mask h') m').j none with
   | none=>rw[c]at sW;cases sW
   | some k'=>
    have mm:=Ak.mpr ⟨Am,c⟩;obtain⟨i',bS,qi⟩:=Zg mm;refine⟨i',wN rs ?_⟩;show((fT mask ow).map (·.1)).toArray[i']? = some _;rw[Jp,Qm,Qb bS,qi];rfl
theorem Ih:∀ n,n<512->(sizeAbove n-1=7/\n<8)\/(sizeAbove n-1=15/\8<=n/\n<16)\/(sizeAbove n-1=31/\16<=n/\n<32)\/(sizeAbove n-1=63/\32<=n/\n<64)\/(sizeAbove n-1=127/\64<=n/\n<128)\/(sizeAbove n-1=255/\128<=n/\n<256)\/(sizeAbove n-1=511/\256<=n/\n<512):=by decide +kernel
theorem Xg:Mk 15:=.of 15 rfl (by decide) (by decide +kernel) (by decide +kernel)
theorem Xh:Mk 63:=.of 63 rfl (by decide) (by decide +kernel) (by decide +kernel)
theorem Xi:Mk 255:=.of 255 rfl (by decide) (by decide +kernel) (by decide +kernel)
theorem Ii(h:n<512):Mk (sizeAbove n-1)/\n<=sizeAbove n-1:=by
 rcases Ih n h with⟨e,a⟩|⟨e,_,a⟩|⟨e,_,a⟩|⟨e,_,a⟩|⟨e,_,a⟩|⟨e,_,a⟩|⟨e,_,a⟩<;>rw[e]
 ·exact⟨HY,by omega⟩
 ·exact⟨Xg,by omega⟩
 ·exact⟨W4,by omega⟩
 ·exact⟨Xh,by omega⟩
 ·exact⟨W5,by omega⟩
 ·exact⟨Xi,by omega⟩
 ·exact⟨W6,by omega⟩
end L3
namespace L3
open PySem PySem.W PyProof.Rows
variable {Q:Bool->Shared->Prop}{a b:Addr}{items:Array Value}{m n:Nat}{o:Obj}{v:Value}{vs:List Value}
abbrev It:=Nat ⊕ List Nat
abbrev Ky:=List It
instance:LawfulBEq It where
 rfl:=λ{x}=>match x with
  | .inl a=>show(a==a)=true from Zy a
  | .inr a=>show(a==a)=true from Zy a
 eq_of_beq:=λ{x y}=>match x,y with
  | .inl a,.inl b=>λh=>ZD _ (eq_of_beq (show(a==b)=true from h))
  | .inr a,.inr b=>λh=>ZD _ (eq_of_beq (show(a==b)=true from h))
  | .inl _,.inr _=>λh=>nomatch h
  | .inr _,.inl _=>λh=>nomatch h
abbrev j9 (l:List Nat):List Int:=l.map Int.ofNat
def sh:It->Nat:=Sum.elim (λ_=>0) λl=>l.length+1
section
variable (prog:Program)(w:World)
def mx (h:Heap)(k:It)(v:Value):Prop:=(∃ n t,k=.inl n/\v=.int (Int.ofNat n) t)\/∃ l c,k=.inr l/\v=.ref c/\IsTupleKey (intKind prog w) h (j9 l) c
inductive iR (h:Heap):Ky->List Value->Prop
 | nil:iR h [] []
 | cons {k:It} {v:Value} {ks:Ky} {vs:List Value}:mx prog w h k v->iR h ks vs->iR h (k::ks) (v::vs)
def dJ (σ:List Nat)(h:Heap)(k:Ky)(a:Addr):Prop:=∃ o items n,h.get? a=some o/\o.cls=.type "tuple" /\ o.data=.seq items n/\iR prog w h k items.toList/\k.map sh=σ
def sX:It->Int:=Sum.elim (λn=>hashInt (Int.ofNat n)) λl=>tupleKeyHash (intKind prog w) (j9 l)
def dm (k:Ky):Int:=reduceHash (Builtin.Tuple.tupleHashOf (k.map (sX prog w)))
end
section
variable {prog:Program}{w:World}{A:Around}{E:Tl}{s:Shared}{σ:List Nat}{h h':Heap}
def qW (h h':Heap):Prop:=∀ b o vs n,h.get? b=some o->o.cls=.type "tuple"->o.data=.seq vs n->h'.get? b=some o
theorem Ij{x y:List Nat}(h:j9 x=j9 y):x=y:=(List.map_inj_right λ_ _ e=>ZQ e).mp h
theorem Ik{k:List Int}(q:qW h h')(x:IsTupleKey (intKind prog w) h k b):IsTupleKey (intKind prog w) h' k b:=by obtain⟨o,items,n,ho,hc,hd,hi⟩:=x;exact⟨o,items,n,q b o items n ho hc hd,hc,hd,hi⟩
theorem mx.keep{k:It}(q:qW h h'):mx prog w h k v->mx prog w h' k v:=by
 rintro (⟨n,t,r⟩|⟨l,c,r1,r2,r3⟩)
 ·exact .inl ⟨n,t,r⟩
 ·exact .inr ⟨l,c,r1,r2,Ik q r3⟩
theorem iR.keep{k:Ky}(q:qW h h')(x:iR prog w h k vs):iR prog w h' k vs:=by
 induction x with
 | nil=>exact .nil
 | cons a _ ih=>exact .cons (a.keep q) ih
theorem dJ.keep{k:Ky}(x:dJ prog w σ h k a)(q:qW h h'):dJ prog w σ h' k a:=by obtain⟨o,items,n,ho,hc,hd,hi,hs⟩:=x;exact⟨o,items,n,q a o items n ho hc hd,hc,hd,hi.keep q,hs⟩
theorem mx.inj{x y:It}(hx:mx prog w h x v)(hy:mx prog w h y v):x=y:=by
 rcases hx with⟨n,t,rfl,rfl⟩|⟨l,c,rfl,rfl,r⟩
 ·rcases hy with⟨m,u,rfl,e⟩|⟨l,c,rfl,e,r⟩
  ·injection e with e1 e2;rw[ZQ e1]
  ·cases e
 ·rcases hy with⟨m,u,rfl,e⟩|⟨l',c',rfl,e,r'⟩
  ·cases e
  ·cases e;rw[Ij (r.inj r')]
theorem iR.inj{x y:Ky}(hx:iR prog w h x vs)(hy:iR prog w h y vs):x=y:=by
 induction hx generalizing y with
 | nil=>cases hy;rfl
 | cons h1 _ ih=>
  cases hy with
  | cons h2 t2=>rw[h1.inj h2,ih t2]
theorem dJ.inj{x y:Ky}(hx:dJ prog w σ h x a)(hy:dJ prog w σ h y a):x=y:=by obtain⟨o,items,n,ho,_,hd,hi,_⟩:=hx;obtain⟨o',Dz,n',fZ,_,gP,bS,_⟩:=hy;obtain rfl:o=o':=QL (ho.symm.trans fZ);rw[hd]at gP;injection gP with h1 _;subst h1;exact hi.inj bS
theorem dJ.typeIs{k:Ky}(x:dJ prog w σ s.heap k a):s.TypeIs (.ref a) "tuple":=let ⟨o,_,_,ho,hc,_⟩:=x;⟨o,ho,hc⟩
theorem DA{x:List Int}(hx:ItemsAre (intKind prog w) x vs):∀ v∈vs,∃ i t,v=.int i t:=by
 induction hx with
 | nil=>intro v hv;simp at hv
 | @cons k v' ks vs h1 _ ih=>
  intro v hv;rcases Qs.mp hv with rfl|hv
  ·obtain⟨t,rfl⟩:=Ju h1;exact⟨_,_,rfl⟩
  ·exact ih v hv
theorem Il(ho:s.heap.get? a=some o)(hc:o.cls=.type "tuple")(hd:o.data=.seq items m)(hi:∀ v∈items.toList,∀ Q:Bool->Shared->Prop,Q false s->wpAny (model prog w) A (ofAClassStatement n v) Q E s)(h:Q false s):wpAny (model prog w) A (ofAClassStatement (n+1) (.ref a)) Q E s:=by
 unfold ofAClassStatement;refine Qa (Yp ⟨o,ho,hc⟩ ?_);dsimp only;rw[Qi (by decide)];refine Qa (Qe ?_);simp only[Zz,Qt,Zf];refine Qa (ZL ho hd ?_);dsimp only;refine Qa ?_;show wpAny _ _ (forIn items _ _) _ _ s;rw[<- Yi];refine Z4 _ (λbp r s'=>r.1=none/\s'=s/\∀ v∈bp,v∈items.toList) _ ?_ ?_ _ _ ⟨rfl,rfl,λ_ h=>h⟩
 ·rintro v bp r s' ⟨hr,rfl,eF⟩;refine Qa (hi v (eF v Qh) _ ?_);simp only[Qt,Zf];exact Qe ⟨rfl,rfl,λu m7=>eF u (Qf _ m7)⟩
 ·rintro ⟨r1,r2⟩ s' ⟨hr,rfl,_⟩;simp only at hr;subst hr;exact Qe h
theorem Im(ho:s.heap.get? a=some o)(hc:o.cls=.type "tuple")(hd:o.data=.seq items m)(hi:∀ v∈items.toList,∀ Q:Bool->Shared->Prop,Q true s->wpAny (model prog w) A (eqIsQuiet n v) Q E s)(h:Q true s):wpAny (model prog w) A (eqIsQuiet (n+1) (.ref a)) Q E s:=by
 have hT:s.TypeIs (.ref a) "tuple":=⟨o,ho,hc⟩;unfold eqIsQuiet;refine Qa (JV hT YE.lookup ?_);show wpAny _ _ (isInstance (.ref a) (.type "tuple") >>= _) _ _ s;refine Qa (Z5 hT YF ?_);simp only[Zz,Qt,Zf];refine Qa (ZL ho hd ?_);refine Qa ?_;show wpAny _ _ (forIn items _ _) _ _ s;rw[<- Yi];refine Z4 _ (λbp r s'=>r.1=none/\s'=s/\∀ v∈bp,v∈items.toList) _ ?_ ?_ _ _ ⟨rfl,rfl,λ_ h=>h⟩
 ·rintro v bp r s' ⟨hr,rfl,eF⟩;refine Qa (hi v (eF v Qh) _ ?_);simp only[Zz,Qt,Zf];exact Qe ⟨rfl,rfl,λu m7=>eF u (Qf _ m7)⟩
 ·rintro ⟨r1,r2⟩ s' ⟨hr,rfl,_⟩;simp only at hr;subst hr;exact Qe h
theorem Io(ho:s.heap.get? a=some o)(hc:o.cls=.type "tuple")(hd:o.data=.seq items m)(hi:∀ v∈items.toList,∀ Q:Bool->Shared->Prop,Q true s->wpAny (model prog w) A (hashByValue n v) Q E s)(h:Q true s):wpAny (model prog w) A (hashByValue (n+1) (.ref a)) Q E s:=by
 unfold hashByValue;refine Qa (JV ⟨o,ho,hc⟩ Jc.lookup ?_);dsimp only;refine Qa (ZL ho hd ?_);refine Qa ?_;show wpAny _ _ (forIn items _ _) _ _ s;rw[<- Yi];refine Z4 _ (λbp r s'=>r.1=none/\s'=s/\∀ v∈bp,v∈items.toList) _ ?_ ?_ _ _ ⟨rfl,rfl,λ_ h=>h⟩
 ·rintro v bp r s' ⟨hr,rfl,eF⟩;refine Qa (hi v (eF v Qh) _ ?_);simp only[Zz,Qt,Zf];exact Qe ⟨rfl,rfl,λu m7=>eF u (Qf _ m7)⟩
 ·rintro ⟨r1,r2⟩ s' ⟨hr,rfl,_⟩;simp only at hr;subst hr;exact Qe h
theorem uS(n:Nat)(i:Int)(t:Tok):ofAClassStatement n (.int i t)=pure false/\eqIsQuiet n (.int i t)=pure true/\hashByValue n (.int i t)=pure true:=
 ⟨by first|rfl|(unfold ofAClassStatement;rfl)|(cases n<;>rfl),eqIsQuiet_byValue n rfl,by cases n<;>rfl⟩
theorem iR.each{k:Ky}(x:iR prog w h k vs):∀ v∈vs,(∃ i t,v=.int i t)\/∃ l c,v=.ref c/\IsTupleKey (intKind prog w) h l c:=by
 induction x with
 | nil=>intro v hv;simp at hv
 | cons h1 _ ih=>
  intro v hv;rcases Qs.mp hv with rfl|hv
  ·rcases h1 with⟨n,t,_,e⟩|⟨l,c,_,e,r⟩
   ·exact .inl ⟨_,_,e⟩
   ·exact .inr ⟨_,c,e,r⟩
  ·exact ih v hv
theorem wW{k:Ky}(x:dJ prog w σ s.heap k a):(∀ Q:Bool->Shared->Prop,Q false s->wpAny (model prog w) A (ofAClassStatement 8 (.ref a)) Q E s)/\(∀ Q:Bool->Shared->Prop,Q true s->wpAny (model prog w) A (eqIsQuiet 8 (.ref a)) Q E s)/\∀ Q:Bool->Shared->Prop,Q true s->wpAny (model prog w) A (hashByValue 8 (.ref a)) Q E s:=by
 obtain⟨o,items,m,ho,hc,hd,hi,_⟩:=x;have each:=hi.each;refine⟨λQ hq=>Il ho hc hd (λv hv Q hq=>?_) hq,λQ hq=>Im ho hc hd (λv hv Q hq=>?_) hq,λQ hq=>Io ho hc hd (λv hv Q hq=>?_) hq⟩
 ·rcases each v hv with⟨i,t,rfl⟩|⟨l,c,rfl,o',it,m',fZ,kL,gP,bS⟩
  ·rw[(uS _ i t).1];exact Qe hq
  ·refine Il fZ kL gP (λv hv Q hq=>?_) hq;obtain⟨i,t,rfl⟩:=DA bS v hv;rw[(uS _ i t).1];exact Qe hq
 ·rcases each v hv with⟨i,t,rfl⟩|⟨l,c,rfl,o',it,m',fZ,kL,gP,bS⟩
  ·rw[(uS _ i t).2.1];exact Qe hq
  ·refine Im fZ kL gP (λv hv Q hq=>?_) hq;obtain⟨i,t,rfl⟩:=DA bS v hv;rw[(uS _ i t).2.1];exact Qe hq
 ·rcases each v hv with⟨i,t,rfl⟩|⟨l,c,rfl,o',it,m',fZ,kL,gP,bS⟩
  ·rw[(uS _ i t).2.2];exact Qe hq
  ·refine Io fZ kL gP (λv hv Q hq=>?_) hq;obtain⟨i,t,rfl⟩:=DA bS v hv;rw[(uS _ i t).2.2];exact Qe hq
theorem Xj{k:It}{Q:Int->Shared->Prop}(hu:A.units<cLine)(x:mx prog w s.heap k v)(h:∀ tk,s.toks<=tk->Q (sX prog w k) { s with toks:=tk }):wpAny (model prog w) A (pyHash v) Q E s:=by
 rcases x with⟨n,t,rfl,rfl⟩|⟨l,c,rfl,rfl,r⟩
 ·exact wpAny_pyHash_int (h _ (Jk _ _))
 ·exact wpAny_pyHash_tuple hu r (h _ (Jk _ _))
theorem Xk{k:Ky}{Q:Int->Shared->Prop}(hu:A.units+1<cLine)(hk:dJ prog w σ s.heap k a)(h:∀ tk,s.toks<=tk->Q (dm prog w k) { s with toks:=tk }) :
  wpAny (model prog w) A (pyHash (.ref a)) Q E s:=by
 have hT:=hk.typeIs;obtain⟨o,items,n,ho,_,hd,hi,_⟩:=hk;unfold pyHash
 first|unfold pyHashByItsType|skip
 first|refine Qa (wpAny_cRoomFor_or (.inr (by omega)) ?_)|skip
 refine Qa (JV hT Jc.lookup ?_);show wpAny _ _ (if(some (Value.builtin "tuple.__hash__")==some Value.none)=true then _ else _) Q E s;rw[Ql (by rw[beq_builtin_none];exact Zp)];refine Qa (JV hT Jc.lookup ?_);show wpAny _ _ (callSpecialIfBoundUnlessNone? (.ref a) "__hash__" _ >>= _) Q E s;refine Qa (wpAny_callSpecialIfBoundUnlessNone?_slot hT Jc (QY Jc hT PySem.F.entry_tuple_hash ?_ (PySem.F.args_tuple_hash_1 _)));show wpAny _ _ (Builtin.Tuple.tupleItemsOf (.ref a) >>= _) _ _ s;refine Qa (JM ho hd ?_);refine Qa ?_;rw[<- Yi];refine Z4 _
  (λbp (b:Array Int) s'=>∃ done bR tk,k=done++bR/\iR prog w s.heap bR bp/\b.toList=done.map (sX prog w)/\s.toks<=tk/\s'={ s with toks:=tk })
  _ ?_ ?_ _ _ ⟨[],k,s.toks,rfl,hi,rfl,Qj _,rfl⟩
 ·rintro x bp b s' ⟨done,bR,tk,rfl,hl,hb,le,rfl⟩;cases hl with
  | @cons k' _ cY _ h1 kK=>
   refine Qa (Xj (by show A.units+1<cLine;exact hu) h1 λuI Am=>?_)
   first
    | exact Qe ⟨done++[k'],cY,uI,by simp,kK,by simp[hb],QJ le Am,rfl⟩
    | exact Qa (Qe (Qe ⟨done++[k'],cY,uI,by simp,kK,by simp[hb],QJ le Am,rfl⟩))
 ·rintro b s' ⟨done,bR,tk,rfl,hl,hb,le,rfl⟩;cases hl;rw[ZM]at h;show wpAny _ _ (retInt (Builtin.Tuple.tupleHashOf b.toList)) _ _ _;rw[hb];refine wpAny_ret_mkInt ?_;show wpAny _ _ (if(decide (-(2:Int) ^ 63<=Builtin.Tuple.tupleHashOf (done.map (sX prog w)))&&decide (Builtin.Tuple.tupleHashOf (done.map (sX prog w))<2 ^ 63))=true then _ else _) Q E _;unfold dm reduceHash at h;by_cases hr:(decide (-(2:Int) ^ 63<=Builtin.Tuple.tupleHashOf (done.map (sX prog w)))&&decide (Builtin.Tuple.tupleHashOf (done.map (sX prog w))<2 ^ 63))=true
  ·rw[Qi hr];rw[Qi hr]at h;exact Qe (h _ (QJ le (Jk _ _)))
  ·rw[Ql hr];rw[Ql hr]at h;exact Qa (Yg (Qe (h _ (QJ le (Jk _ _)))))
theorem Ip{x y:It}{u:Value}(hu:sh x≠0->A.units<cLine)(hx:mx prog w s.heap x u)(hy:mx prog w s.heap y v)(hs:sh x=sh y)(h:Q (decide (x=y)) s):wpAny (model prog w) A (eqBool u v) Q E s:=by
 rcases hx with⟨n,t,rfl,rfl⟩|⟨l,c,rfl,rfl,r⟩
 ·rcases hy with⟨m,t',rfl,rfl⟩|⟨l,c,rfl,rfl,r⟩
  ·refine VG ?_;have e:(Int.ofNat n==Int.ofNat m)=decide ((Sum.inl n:It)=Sum.inl m):=by
    by_cases c:n=m
    ·subst c;rw[Qr rfl];exact Zy _
    ·rw[Qy λz=>c (YJ z)];exact ZV.mpr λz=>c (ZQ z)
   rw[e];exact h
  ·cases hs
 ·rcases hy with⟨m,t',rfl,rfl⟩|⟨l',c',rfl,rfl,r'⟩
  ·cases hs
  ·refine wpAny_eqBool_tuple (hu (JG _)) r r' ?_;have e:decide (j9 l=j9 l')=decide ((Sum.inr l:It)=Sum.inr l'):=ZP.mpr ⟨λz=>by rw[Ij z],λz=>by rw[Vu z]⟩;rw[e];exact h
theorem Xl{x y:Ky}{P:PySem.Fin->Shared->Prop}(hu:A.units<cLine)(hx:dJ prog w σ s.heap x a)(hy:dJ prog w σ s.heap y b)(h:P (.done (.ret (.bool (decide (x=y))))) s) :
  wpAny (model prog w) A (Builtin.«tuple.__eq__» ⟨[.ref a,.ref b],[]⟩) P E s:=by
 have DB:=hy.typeIs;obtain⟨oa,xs,na,wX,_,wY,qX,sa⟩:=hx;obtain⟨ob,ys,nb,wZ,_,kq,qY,sb⟩:=hy;have len:∀ {k:Ky} {vs:List Value},iR prog w s.heap k vs->k.length=vs.length:=λq=>by
  induction q with
  | nil=>rfl
  | cons _ _ ih=>rw[Qz,Qz,ih]
 have w9:xs.size=ys.size:=by rw[<- QA,<- QA,<- len qX,<- len qY,<- Qc (f:=sh),sa,<- sb,Qc]
 show wpAny _ _ (isInstance (.ref b) (.type "tuple") >>= _) _ _ s;refine Qa (Z5 DB YF ?_);simp only[Zz,Qt,Zf];refine Qa (JM wX wY ?_);refine Qa (JM wZ kq ?_);refine Qa ?_;refine Z4 _
  (λbp r s'=>r.1=none/\s'=s/\∃ x' y' pS pU,bp=List.zip pS pU/\iR prog w s.heap x' pS/\iR prog w s.heap y' pU/\x'.map sh=y'.map sh/\decide (x'=y')=decide (x=y))
  _ ?_ ?_ _ _ ⟨rfl,rfl,x,y,xs.toList,ys.toList,rfl,qX,qY,sa.trans sb.symm,rfl⟩
 ·rintro ⟨u,v⟩ bp r s' ⟨hr,rfl,x',y',pS,pU,hz,fG,gu,me,ja⟩;cases fG with
  | nil=>simp at hz
  | @cons k1 u' uT DC h1 sY=>
   cases gu with
   | nil=>simp at hz
   | @cons k2 v' uU DD h2 ny=>
    simp only[JN,List.cons.injEq,Prod.mk.injEq]at hz;obtain⟨⟨rfl,rfl⟩,rfl⟩:=hz;rw[Qx,Qx]at me;injection me with Xm Xn;refine Qa (Ip (λ_=>hu) h1 h2 Xm ?_);by_cases hk:k1=k2
    ·subst hk;rw[Qr rfl];simp only[Zz,Qt,Zf];refine Qe ⟨rfl,rfl,uT,uU,DC,DD,rfl,sY,ny,Xn,?_⟩;rw[<- ja];by_cases k7:uT=uU
     ·simp[k7]
     ·simp[k7]
    ·rw[Qy hk];simp only[Yy,ZC];have hf:decide (x=y)=false:=by rw[<- ja];simp[hk]
     rw[hf]at h;exact Qa (Qe (Qe (Qe h)))
 ·rintro ⟨r1,r2⟩ s' ⟨hr,rfl,x',y',pS,pU,hz,fG,gu,me,ja⟩;simp only at hr;subst hr;refine Qe ?_;have sZ:(xs.size==ys.size)=decide (x=y):=by
   rw[<- ja,w9,Zy];cases fG with
   | nil=>
    cases gu with
    | nil=>rfl
    | cons _ _=>cases me
   | cons _ _=>
    cases gu with
    | nil=>cases me
    | cons _ _=>simp at hz
  show P (.done (.ret (.bool (xs.size==ys.size)))) s';rw[sZ];exact h
theorem Iq{x y:Ky}(hu:A.units+1<cLine)(hx:dJ prog w σ s.heap x a)(hy:dJ prog w σ s.heap y b)(h:Q (decide (x=y)) s) :
  wpAny (model prog w) A (eqBool (.ref a) (.ref b)) Q E s:=by
 unfold eqBool
 try with_reducible refine Zc ?_
 show wpAny _ _ (if(Value.ref a==Value.ref b)=true then _ else _) Q E s;by_cases kZ:(Value.ref a==Value.ref b)=true
 ·rw[Qi kZ];have e:a=b:=by have:=eq_of_beq kZ;injection this
  subst e;obtain rfl:=hx.inj hy;exact Qa (Yg (Qe (by simpa using h)))
 ·rw[Ql kZ];exact Qa (Y5 (op:=.Eq) hx.typeIs hy.typeIs YE
   (QY YE hx.typeIs PySem.F.entry_tuple_eq (Xl (by show A.units+1<cLine;exact hu) hx hy ⟨_,rfl,(λe=>nomatch e),Z9 h⟩) (PySem.F.args_tuple_eq_2 _ _)) (by omega))
end
end L3
namespace L3
open PySem PySem.SetTable
variable {a bx:Addr}{ep i n:Nat}{h h':Heap}{kx:Ky}{o:Obj}
section
variable {prog:Program}{w:World}{σ:List Nat}{A:Around}{E:Tl}{s:Shared}
theorem Xo{Q:Bool->Shared->Prop}(hx:dJ prog w σ s.heap kx bx)(l:List Value)(hl:∀ y∈l,∃ k b,y=.ref b/\dJ prog w σ s.heap k b)(h:Q false s):wpAny (model prog w) A (searchCouldBeSeen (.ref bx) l) Q E s:=by
 unfold searchCouldBeSeen;refine Qa ?_;refine Z4 _ (λbp r s'=>r.1=none/\s'=s/\∀ y∈bp,∃ k b,y=.ref b/\dJ prog w σ s.heap k b) _ ?_ ?_ _ _ ⟨rfl,rfl,hl⟩
 ·rintro y bp r s' ⟨hr,rfl,eF⟩;obtain⟨k,b,rfl,hb⟩:=eF y Qh;have qZ:∀ y∈bp,∃ k b,y=.ref b/\dJ prog w σ s'.heap k b:=λu hu=>eF u (Qf _ hu);dsimp only;by_cases c:(bx==b||(carriedByValue (.ref bx)&&carriedByValue (.ref b)))=true
  ·rw[Qi c];exact Qe ⟨rfl,rfl,qZ⟩
  ·rw[Ql c];refine Qa ((wW hx).2.1 _ ?_);simp only[Zz,Qt,Zf];refine Qa ((wW hb).2.1 _ ?_);simp only[Zz,Qt,Zf];refine Qa ((wW hx).1 _ ?_);simp only[Qt,Zf];refine Qa ((wW hb).1 _ ?_);simp only[Qt,Zf];exact Qe ⟨rfl,rfl,qZ⟩
 ·rintro ⟨r1,r2⟩ s' ⟨hr,rfl,_⟩;simp only at hr;subst hr;exact Qe h
structure cJ (prog:Program) (w:World) (σ:List Nat) (h:Heap) (es:Array (Int×Value)) (t:SetTable) (kl:List Ky) (bs:List Addr):Prop where
 es:es.toList=(kl.zip bs).map λx=>(dm prog w x.1,Value.ref x.2)
 len:kl.length=bs.length
 is:∀ (i:Nat) (k:Ky) (b:Addr),kl[i]? = some k->bs[i]? = some b->dJ prog w σ h k b
 tb:gr t (kl.map (dm prog w))
 nd:kl.Nodup
section
variable {es:Array (Int×Value)}{t:SetTable}{kl:List Ky}{bs:List Addr}
theorem cJ.size(S:cJ prog w σ h es t kl bs):es.size=kl.length:=by rw[<- QA,S.es,Qc,Js,S.len,UA]
theorem cJ.fits(S:cJ prog w σ h es t kl bs):t.fits es.size=true:=by unfold SetTable.fits SetTable.fill;have e1:=S.tb.sz;have e2:=S.tb.room;have e3:=S.size;rw[Qc]at e1 e2;rw[S.tb.nd,e3,e1];simp;exact e2
theorem cJ.get(S:cJ prog w σ h es t kl bs){k:Ky}(hk:kl[i]? = some k):∃ b,bs[i]? = some b/\es[i]? = some (dm prog w k,Value.ref b)/\dJ prog w σ h k b:=by obtain⟨hi,_⟩:=QN.mp hk;have hb:bs[i]? = some (bs[i]'(by rw[<- S.len];exact hi)):=Qb _;refine⟨_,hb,?_,S.is i k _ hk hb⟩;rw[<- Zd,S.es,Qm,List.zip,YG,hk,hb];rfl
theorem cJ.of(S:cJ prog w σ h es t kl bs){x:Int×Value}(hx:es[i]? = some x):∃ k b,kl[i]? = some k/\x=(dm prog w k,Value.ref b)/\dJ prog w σ h k b:=by
 have hi:i<kl.length:=by rw[<- S.size];exact(Jo.mp hx).1
 obtain⟨b,_,e,q⟩:=S.get (Qb hi);rw[hx]at e;exact⟨_,b,Qb hi,QL e,q⟩
theorem Xp{Q:SetFound->Shared->Prop}(hu:A.units+1<cLine)(ho:s.heap.get? a=some o)(hd:o.data=.set es ep t)(S:cJ prog w σ s.heap es t kl bs)(hx:dJ prog w σ s.heap kx bx)
  {M:Nat} (hM:M<10*turns t.mask) (eM:t.slot (bh t.mask (b_ t.mask (dm prog w kx)) M).j=.empty) (bM:∀ m',m'<M->∃ i,t.slot (bh t.mask (b_ t.mask (dm prog w kx)) m').j=.live i)
  (q1:kx∈kl->Q (.there none) s) (q2:kx ∉ kl->Q (.free (bh t.mask (b_ t.mask (dm prog w kx)) M).j false) s) :
  ∀ (fuel m:Nat) (k8:Option Probe),k8.getD (t.probeStart (dm prog w kx))=bh t.mask (b_ t.mask (dm prog w kx)) m->m<=M->M-m<fuel->
   (∀ m',m'<m->∀ i,t.slot (bh t.mask (b_ t.mask (dm prog w kx)) m').j=.live i->kl[i]? ≠ some kx)->wpAny (model prog w) A (setSearchFrom a (.ref bx) (dm prog w kx) true fuel k8) Q E s:=by
 intro fuel;induction fuel with
 | zero=>intro m k8 _ _ h _;exact absurd h (Zk _)
 | succ fuel ih=>
  intro m k8 ik hm hf inv;generalize hh:dm prog w kx=h at *
  unfold setSearchFrom;refine Qa (Je ho hd S.fits ?_);dsimp only;have gw:t.gaveWay=false:=by unfold SetTable.gaveWay;rw[S.tb.rd.odd];rfl
  rw[gw];simp only[Qt,Zf];rw[ik];have pn:(bh t.mask (b_ t.mask h) m).dummy=none:=HZ _ _ _ rfl;have ex:∃ m1,m1<10*turns t.mask/\t.slot (bh t.mask (bh t.mask (b_ t.mask h) m) m1).j=.empty:=⟨M-m,by omega,by rw[<- nv,show m+(M-m)=M by omega];exact eM⟩;have key:∀ (hashAt:Nat->Int),(∀ i x,es[i]? = some x->hashAt i=x.1)->∃ met,t.probe hashAt h (bh t.mask (b_ t.mask h) m)=some met/\((∃ j,met=.empty j none/\kx ∉ kl/\j=(bh t.mask (b_ t.mask h) M).j)\/∃ m1 i k b,m+m1<M/\met=.candidate (bh t.mask (b_ t.mask h) (m+m1)).j i (bh t.mask (b_ t.mask h) (m+m1+1))/\t.slot (bh t.mask (b_ t.mask h) (m+m1)).j=.live i/\kl[i]? = some k/\es[i]? = some (dm prog w k,Value.ref b)/\dJ prog w σ s.heap k b/\∀ m',m'<m+m1->∀ i,t.slot (bh t.mask (b_ t.mask h) m').j=.live i->kl[i]? ≠ some kx):=by
   intro hashAt hA;obtain⟨m1,h1,bf,c⟩:=H0 t hashAt h S.tb.rs S.tb.nd (10*turns t.mask) (bh t.mask (b_ t.mask h) m) pn ex;have nA:∀ m',m'<m+m1->∀ i,t.slot (bh t.mask (b_ t.mask h) m').j=.live i->kl[i]? ≠ some kx:=λm' gJ i e z=>by
    by_cases l:m'<m
    ·exact inv m' l i e z
    ·obtain⟨i',e',ne⟩:=bf (m'-m) (by omega);rw[<- nv,show m+(m'-m)=m' by omega,e]at e';cases e';obtain⟨b,_,q,_⟩:=S.get z;exact ne (by rw[hA i _ q];exact hh)
   rcases c with⟨e,g⟩|⟨i,e,eh,g⟩
   ·rw[<- nv]at e g;have Xq:m+m1=M:=by
     by_cases l:m+m1<M
     ·obtain⟨i,q⟩:=bM _ l;rw[e]at q;cases q
     ·by_cases l2:M<m+m1
      ·obtain⟨i',e',_⟩:=bf (M-m) (by omega);rw[<- nv,show m+(M-m)=M by omega,eM]at e';cases e'
      ·omega
    refine⟨_,g,.inl ⟨_,rfl,λz=>?_,by rw[Xq]⟩⟩;obtain⟨i,hi,q⟩:=Zg z;have hk:kl[i]? = some kx:=by rw[Qb hi,q]
    have cA:t.place[i]? = some (t.place[i]'(by rw[S.tb.sz,Qc];exact hi)):=Zn _;obtain⟨m0,z1,z2,z3⟩:=S.tb.wQ i _ h cA (by rw[Qm,hk];exact ZD some hh);have lv:=wN S.tb.rs cA;rw[<- z2]at lv;by_cases l:m0<M
    ·exact nA m0 (by omega) i lv hk
    ·by_cases l2:m0=M
     ·rw[l2,eM]at lv;cases lv
     ·obtain⟨i',q'⟩:=z3 M (by omega);rw[eM]at q';cases q'
   ·rw[<- nv]at e g;have lt:m+m1<M:=by
     by_cases l:m+m1<M
     ·exact l
     ·by_cases l2:m+m1=M
      ·rw[l2,eM]at e;cases e
      ·obtain⟨i',e',_⟩:=bf (M-m) (by omega);rw[<- nv,show m+(M-m)=M by omega,eM]at e';cases e'
    have cA:∃ j,t.place[i]? = some j:=by
     rcases wO S.tb.rs S.tb.nd (bh t.mask (b_ t.mask h) (m+m1)).j with⟨i',a',b'⟩|⟨_,b'⟩
     ·rw[e]at b';cases b';exact⟨_,a'⟩
     ·rw[e]at b';cases b'
    obtain⟨j,hj⟩:=cA;have hi:i<kl.length:=by have:=(Jo.mp hj).1;rw[S.tb.sz,Qc]at this;exact this
    obtain⟨b,_,q,r⟩:=S.get (Qb hi);refine⟨_,g,.inr ⟨m1,i,_,b,lt,?_,e,Qb hi,q,r,nA⟩⟩;rw[<- nv];rfl
  obtain⟨met,pr,cs⟩:=key _ λi x hx=>show(es[i]?.map (·.1)).getD 0=x.1 by rw[hx];rfl
  generalize hp:t.probe _ h (bh t.mask (b_ t.mask h) m)=Xr;have Ir:Xr=some met:=by rw[<- hp];exact pr
  subst Ir;clear hp;dsimp only;rcases cs with⟨j,rfl,nk,rfl⟩|⟨m1,i,k,b,lt,rfl,lv,ek,ee,kb,nA⟩
  ·exact Qe (q2 nk)
  ·dsimp only;have sm:t.sameMemory t.moves t.mask=some true:=by unfold SetTable.sameMemory;simp
   cases Xs:t.led with
   | false=>
    simp only[Yy,ZC];refine Qa (Xo hx _ (λy hy=>?_) ?_)
    ·obtain⟨e,he,rfl⟩:=Qk.mp hy;have Dv:=(Array.mem_filter.mp (YK.mp he)).1;obtain⟨i',bS,q⟩:=Ul Dv;obtain⟨k',b',_,r1,r2⟩:=S.of (i:=i') (x:=e) (by rw[Zn bS,q]);exact⟨k',b',by rw[r1],r2⟩
    simp only[Qt,Zf];rw[ee];dsimp only;refine Qa (Zc (Iq hu kb hx ?_));refine Qa (Je ho hd S.fits ?_);dsimp only;by_cases c:k=kx
    ·rw[Qr c];simp only[Ut,ZC];exact Qe (q1 (by rw[<- c];exact QK ek))
    ·rw[Qy c];simp only[Vb,Qt,Zf,sm,ZC,lv,ee];refine Qa (wpAny_isSame_ref_self ?_);simp only[ZC];refine Qa (Qe ?_);dsimp only;exact ih (m+m1+1) (some (bh t.mask (b_ t.mask h) (m+m1+1))) rfl (by omega) (by omega) λm' gJ i' e'=>by
      by_cases l:m'<m+m1
      ·exact nA m' l i' e'
      ·have:m'=m+m1:=by omega
       subst this;rw[lv]at e';cases e';rw[ek];exact λz=>c (QL z)
   | true=>
    simp only[Zz,Qt,Zf];rw[ee];dsimp only;refine Qa (Zc (Iq hu kb hx ?_));refine Qa (Je ho hd S.fits ?_);dsimp only;by_cases c:k=kx
    ·rw[Qr c];simp only[Ut,ZC];exact Qe (q1 (by rw[<- c];exact QK ek))
    ·rw[Qy c];simp only[Vb,Qt,Zf,sm,ZC,lv,ee];refine Qa (wpAny_isSame_ref_self ?_);simp only[ZC];refine Qa (Qe ?_);dsimp only;exact ih (m+m1+1) (some (bh t.mask (b_ t.mask h) (m+m1+1))) rfl (by omega) (by omega) λm' gJ i' e'=>by
      by_cases l:m'<m+m1
      ·exact nA m' l i' e'
      ·have:m'=m+m1:=by omega
       subst this;rw[lv]at e';cases e';rw[ek];exact λz=>c (QL z)
end
end
section
variable {prog:Program}{w:World}{σ:List Nat}{A:Around}{E:Tl}{s:Shared}
variable {es:Array (Int×Value)}{t:SetTable}{kl:List Ky}{bs:List Addr}
theorem Iu{es:Array (Int×Value)}{t:SetTable}(ho:h.get? a=some o)(hd:o.data=.set es ep t)(sb:Heap.SameBut a h h'):qW h h':=λb o' vs n fZ _ gP=>by
 have il:b≠a:=by rintro rfl;obtain rfl:o'=o:=QL (fZ.symm.trans ho);rw[hd]at gP;exact nomatch gP
 exact(sb.2 b il).trans fZ
theorem Xt{α β:Type}{l:List α}{m:List β}(e:l.length=m.length)(p:Nat)(x:α)(y:β):(iK l p x).zip (iK m p y)=iK (l.zip m) p (x,y):=by
 unfold iK;rw[List.zip_append (by rw[Zi,Zi,e]),JN];congr 1
 ·unfold List.zip;exact List.take_zipWith.symm
 ·congr 1;unfold List.zip;exact List.drop_zipWith.symm
theorem Iv{α β:Type}(f:α->β)(l:List α)(p:Nat)(x:α):(iK l p x).map f=iK (l.map f) p (f x):=by unfold iK;rw[QU,Qx,Uu,Uv]
theorem DE{α:Type}(l:List α)(p:Nat)(x:α):(iK l p x).Perm (x::l):=by unfold iK;have:=List.perm_middle (a:=x) (l₁:=l.take p) (l₂:=l.drop p);rw[JY]at this;exact this
theorem Xu{α:Type}(xs:Array α)(p:Nat)(x:α):(insertAt xs p x).toList=iK xs.toList p x:=by unfold insertAt iK;simp;exact Yx (by rw[Z1,QA];exact Qj _)
theorem cJ.put(S:cJ prog w σ h es t kl bs)(hx:dJ prog w σ h kx bx)(nk:kx ∉ kl){m:Nat}(hm:m<10*turns t.mask)(em:t.slot (bh t.mask (b_ t.mask (dm prog w kx)) m).j=.empty)(bm:∀ m',m'<m->∃ i,t.slot (bh t.mask (b_ t.mask (dm prog w kx)) m').j=.live i)(hr:kl.length+1<=t.mask) :
  cJ prog w σ h (insertAt es (t.put (bh t.mask (b_ t.mask (dm prog w kx)) m).j).2 (dm prog w kx,.ref bx)) (t.put (bh t.mask (b_ t.mask (dm prog w kx)) m).j).1 (iK kl (t.put (bh t.mask (b_ t.mask (dm prog w kx)) m).j).2 kx) (iK bs (t.put (bh t.mask (b_ t.mask (dm prog w kx)) m).j).2 bx):=by
 obtain⟨p1,p2,p3⟩:=S.tb.put hm em bm (wR _ _ _) (by rw[Qc];exact hr);generalize (bh t.mask (b_ t.mask (dm prog w kx)) m).j=j at *
 rw[Qc]at p1;generalize (t.put j).2=p at *
 have pm:=DE kl p kx;refine⟨?_,?_,λi k b x y=>?_,?_,?_⟩
 ·rw[Xu,S.es,Xt S.len,Iv]
 ·rw[sV,sV,S.len]
 ·rw[Dx kl p kx p1]at x;rw[Dx bs p bx (by rw[<- S.len];exact p1)]at y;by_cases h1:i<p
  ·rw[Qi h1]at x y;exact S.is i k b x y
  ·rw[Ql h1]at x y;by_cases h2:i=p
   ·rw[Qi h2]at x y;cases x;cases y;exact hx
   ·rw[Ql h2]at x y;exact S.is _ k b x y
 ·rw[Iv];exact p3
 ·exact pm.nodup_iff.mpr (Q5.mpr ⟨nk,S.nd⟩)
theorem cJ.hashes(S:cJ prog w σ h es t kl bs):es.map (·.1)=(kl.map (dm prog w)).toArray:=by
 apply Array.ext';rw[Array.toList_map,S.es,QV];have:∀ (l:List Ky) (m:List Addr),l.length=m.length->(l.zip m).map ((λx:Int×Value=>x.1) ∘ λx=>(dm prog w x.1,Value.ref x.2))=l.map (dm prog w):=by
  intro l;induction l with
  | nil=>intro m _;rfl
  | cons a l ih=>
   intro m hm;cases m with
   | nil=>cases hm
   | cons b m=>rw[JN,Qx,Qx,ih m (by simpa using hm)];rfl
 exact this kl bs S.len
theorem Iw{α:Type}{l:List α}{od:List Nat}(d:α)(h:od.Perm (range l.length)):(od.map λk=>l.getD k d).Perm l:=by
 have h1:=h.map λk=>l.getD k d;have h2:(range l.length).map (λk=>l.getD k d)=l:=by
  apply Zo;intro i;by_cases hi:i<l.length
  ·rw[Qm,Q9 hi,Qb hi];show some (l.getD i d)=_;rw[Qg,Qb hi];rfl
  ·rw[QG (by rw[Qc,QI];omega),QG (by omega)]
 rw[h2]at h1;exact h1
theorem cJ.relaid(S:cJ prog w σ h es t kl bs)(hn:n<512)(hl:kl.length<=n):∃ (t':SetTable) (od:List Nat),t.relaid (es.map (·.1)) n=some (t',od.toArray)/\t'.led=t.led/\t'.plain=t.plain/\t'.mask=sizeAbove n-1/\(∀ k∈od,k<es.size)/\od.length=kl.length /\
  cJ prog w σ h (od.toArray.filterMap λi=>es[i]?) t' (od.map λk=>kl.getD k []) (od.map λk=>bs.getD k 0)/\(od.map λk=>kl.getD k []).Perm kl:=by
 obtain⟨mk,ln⟩:=Ii hn;obtain⟨pl,od,e,pm,T⟩:=Xe mk (kl.map (dm prog w)) (by rw[Qc];omega) t.finger (t.movedTo (sizeAbove n-1)) t.led t.plain;rw[Qc]at pm;have sz:=S.size;have lt:∀ k∈od,k<kl.length:=λk hk=>Qv.mp (pm.mem_iff.mp hk);refine⟨{ mask:=sizeAbove n-1,place:=pl.toArray,dummies:=#[],finger:=t.finger,led:=t.led,moves:=t.movedTo (sizeAbove n-1),plain:=t.plain },od,by rw[S.hashes];exact e,rfl,rfl,rfl,λk hk=>by rw[sz];exact lt k hk,by rw[pm.length_eq,QI],?_,Iw [] pm⟩;have lb:∀ k∈od,k<bs.length:=λk hk=>by rw[<- S.len];exact lt k hk
 refine⟨?_,by rw[Qc,Qc],λi k b x y=>?_,?_,(Iw [] pm).nodup_iff.mpr S.nd⟩
 ·have e1:(od.toArray.filterMap λi=>es[i]?).toList=od.filterMap λi=>es.toList[i]?:=by rw[Array.toList_filterMap];exact Dy λi _=>(Zd).symm
  rw[e1,S.es];have:∀ (o:List Nat),(∀ k∈o,k<kl.length)->o.filterMap (λi=>((kl.zip bs).map λx=>(dm prog w x.1,Value.ref x.2))[i]?)=((o.map λk=>kl.getD k []).zip (o.map λk=>bs.getD k 0)).map λx=>(dm prog w x.1,Value.ref x.2):=by
   intro o;induction o with
   | nil=>intro _;rfl
   | cons k o ih=>
    intro h;have hk:=h k Qh;have hb:k<bs.length:=by rw[<- S.len];exact hk
    have g:((kl.zip bs).map λx=>(dm prog w x.1,Value.ref x.2))[k]? = some (dm prog w (kl.getD k []),Value.ref (bs.getD k 0)):=by rw[Qm,List.zip,YG,Qb hk,Qb hb,Qg,Qb hk,Qg,Qb hb];rfl
    rw[JB g,ih λj hj=>h j (Qf _ hj)];rfl
  exact this od lt
 ·rw[Qm,QC]at x y;obtain⟨j,q1,q2⟩:=x;obtain⟨j',q3,q4⟩:=y;rw[q1]at q3;cases q3;have hj:=lt j (QK q1);have hb:=lb j (QK q1);rw[Qg,Qb hj]at q2;rw[Qg,Qb hb]at q4;exact S.is j k b (by rw[Qb hj];exact ZD some q2) (by rw[Qb hb];exact ZD some q4)
 ·have:(od.map λk=>kl.getD k []).map (dm prog w)=od.map λk=>(kl.map (dm prog w)).getD k 0:=by rw[QV];refine QX λk hk=>?_;have hj:=lt k hk;show dm prog w (kl.getD k [])=_;rw[Qg,Qb hj,Qg,Qm,Qb hj];rfl
  rw[this];exact T
theorem cJ.move{Xv:Nat}{e0:Array (Int×Value)}{t0:SetTable}(S:cJ prog w σ h es t kl bs)(ho:h.get? a=some o)(hd:o.data=.set e0 Xv t0)(sb:Heap.SameBut a h h'):cJ prog w σ h' es t kl bs:=
 ⟨S.es,S.len,λi k b x y=>(S.is i k b x y).keep (Iu ho hd sb),S.tb,S.nd⟩
structure s9 (prog:Program) (w:World) (σ:List Nat) (h:Heap) (o:Obj) (ep:Nat) (led:Bool) (kl:List Ky) (es:Array (Int×Value)) (t:SetTable) (bs:List Addr):Prop where
 d:o.data=.set es ep t
 S:cJ prog w σ h es t kl bs
 pl:t.plain=true
 ld:t.led=led
 rm:kl.length*5<t.mask*3
theorem Xw{Q:Unit->Shared->Prop}(ho:s.heap.get? a=some o)(hd:o.data=.set es ep t)(S:cJ prog w σ s.heap es t kl bs)(hn:n<512)(hl:kl.length<=n)(h4:kl.length*4<=n)(h0:0<n)
  (h:∀ h' jY t' jy oG,Heap.SameBut a s.heap h'->h'.get? a=some { o with data:=.set jY (ep+1) t' }->cJ prog w σ h' jY t' jy oG->jy.Perm kl->t'.plain=t.plain->t'.led=t.led->jy.length*5<t'.mask*3->(∀ b∈oG,b∈bs)->Q () { s with heap:=h' }) :
  wpAny (model prog w) A (setRelay a n) Q E s:=by
 obtain⟨t',od,e,ld,pl,mk,lt,len,S',pm⟩:=S.relaid hn hl;have ln:=(Ii hn).2;unfold setRelay;refine Qa (Je ho hd S.fits ?_);dsimp only;have sl:¬ sizeAbove n > sizeLine:=by rw[Jv];rcases Ih n hn with⟨e,_⟩|⟨e,_⟩|⟨e,_⟩|⟨e,_⟩|⟨e,_⟩|⟨e,_⟩|⟨e,_⟩<;>omega
 rw[Ql sl,e];have Iy:(od.toArray.filterMap λi=>es[i]?).size=es.size:=by rw[S'.size,Qc,len,S.size]
 refine Qa (show wpAny _ _ (do
  if(od.toArray.filterMap λi=>es[i]?).size != es.size then unsupported "internal:set-table-lost-an-element"
  pure ((od.toArray.filterMap λi=>es[i]?),t')) _ _ _ from ?_)
 rw[Iy];simp only[Yz,Qt,Zf];refine Qe ?_;dsimp only;have sb:=ZX s.heap a (Obj.putSet (od.toArray.filterMap λi=>es[i]?) t');have hz:(od.toArray.filterMap λi=>es[i]?).size<=sizeLine:=by rw[Iy,S.size,Jv];omega
 refine wpAny_storeSet_of ho hd (h _ _ t' _ _ sb ?_ (S'.move ho hd sb) pm pl ld ?_ λb hb=>?_) hz
 ·have:=Z0 (Obj.putSet (od.toArray.filterMap λi=>es[i]?) t') ho (by rw[putSet_of _ _ hd];rfl);rw[putSet_of _ _ hd]at this;exact this
 ·rw[Qc,len,mk];omega
 ·obtain⟨k,hk,rfl⟩:=Qk.mp hb;have:=lt k hk;rw[S.size,S.len]at this;rw[Qg,Qb this];exact QW this
theorem Xx{led:Bool}{Q:Bool->Shared->Prop}(hu:A.units+1<cLine)(ho:s.heap.get? a=some o)(So:s9 prog w σ s.heap o ep led kl es t bs)(hx:dJ prog w σ s.heap kx bx)(iE:kl.length<=100)
  (h:∀ h' oY jy jY t' oG r,Heap.SameBut a s.heap h'->h'.get? a=some { o with data:=.set jY oY t' }->s9 prog w σ h' { o with data:=.set jY oY t' } oY led jy jY t' oG->jy.Perm (if kx∈kl then kl else kx::kl)->(∀ b∈oG,b=bx\/b∈bs)->Q r { s with heap:=h' }) :
  wpAny (model prog w) A (setAddHashed a (.ref bx) (dm prog w kx)) Q E s:=by
 obtain⟨hd,S,pl,ld,rm⟩:=So;obtain⟨M,hM,eM,bM⟩:=S.tb.met (dm prog w kx);have odd:=S.tb.rd.odd;have Xy:=S.tb.rd.iE;unfold setAddHashed setAddHashedIn;refine Zc (Qa (Je ho hd S.fits ?_));dsimp only;have ns:byScan (.ref bx) es=false:=rfl;rw[ns];simp only[Qt,Zf];refine Qa (Xp (M:=M) hu ho hd S hx hM eM bM (λDF=>?_) (λnk=>?_) 100000 0 none rfl (Q6 _) (by unfold turns at hM;omega) λ_ z=>absurd z (Zk _))
 ·dsimp only;have e:s={ s with heap:=s.heap }:=by cases s;rfl
  refine Qe ?_;rw[e];have eo:({ o with data:=.set es ep t }:Obj)=o:=by obtain⟨c,d,dt,sl⟩:=o;simp only at hd;subst hd;rfl
  refine h s.heap ep kl es t bs _ (Heap.SameBut.refl a s.heap) (by rw[eo];exact ho) ⟨rfl,S,pl,ld,rm⟩ ?_ λb hb=>.inr hb;rw[Qi DF]
 ·dsimp only;refine Qa (Je ho hd S.fits ?_);dsimp only;have Sp:=S.put hx nk hM eM bM (by omega);generalize hj:(bh t.mask (b_ t.mask (dm prog w kx)) M).j=j at *
  have w_:(t.put j).1.plain=true:=pl;have Iz:(t.put j).1.led=led:=ld;have mk':(t.put j).1.mask=t.mask:=rfl;have Xz:(t.put j).1.fill=kl.length+1:=by unfold SetTable.fill;rw[Sp.tb.sz,Sp.tb.nd,Qc,sV];rfl
  rw[w_];simp only[ZC];refine Qa ((wW hx).2.2 _ ?_);simp only[ZC];have IA:=DE kl (t.put j).2 kx;generalize hes:insertAt es (t.put j).2 (dm prog w kx,Value.ref bx)=uV at *
  generalize ht1:(t.put j).1=t1 at *
  have hz:uV.size<=sizeLine:=by rw[Sp.size,sV,Jv];omega
  refine Qa (wpAny_storeSet_of ho hd ?_ hz);have sb:=ZX s.heap a (Obj.putSet uV t1);have IB:(s.heap.update a (Obj.putSet uV t1)).get? a=some { o with data:=.set uV (ep+1) t1 }:=by have:=Z0 (Obj.putSet uV t1) ho (by rw[putSet_of _ _ hd];rfl);rw[putSet_of _ _ hd]at this;exact this
  have S1:=Sp.move ho hd sb;have bI:∀ b∈iK bs (t.put j).2 bx,b=bx\/b∈bs:=λb hb=>Qs.mp ((DE bs (t.put j).2 bx).mem_iff.mp hb);have lR:(iK kl (t.put j).2 kx).length=kl.length+1:=sV _ _ _;cases DG:t1.tooFull with
  | false=>
   simp only[Yy,JW,Qt,Zf];refine Qe (h _ (ep+1) _ uV t1 _ _ sb IB ⟨rfl,S1,w_,Iz,?_⟩ (by rw[Ql nk];exact IA) bI);unfold SetTable.tooFull at DG;rw[Xz]at DG;rw[lR];have:=JO DG;omega
  | true=>
   simp only[Yy,JW,ZC];have g4:SetTable.grown (es.size+1)=(kl.length+1)*4:=by unfold SetTable.grown;rw[S.size,Ql (by omega)]
   rw[g4];refine Qa (Xw (s:={ s with heap:=_ }) IB rfl S1 (by omega) (by rw[lR];omega) (by rw[lR];omega) (by omega) λh' jY t' jy oG XA wI S' XB Df XD XE XF=>?_);exact Qe (h h' _ jy jY t' oG _ (sb.trans XA) wI ⟨rfl,S',Df.trans w_,XD.trans Iz,XE⟩ (by rw[Ql nk];exact XB.trans IA) λb hb=>bI b (XF b hb))
end
end L3
namespace L3
open PySem PySem.Spec PyProof.Rows PySem.W L2
variable {Q:Tl}{ad:Nat->Addr}{b:Bool}{h h':Heap}{i:Nat}{kl:List Ky}{o:Obj}{prog:Program}{w:World}{xs:Array Value}
abbrev nB (es:Array (Int×Value))(ep:Nat)(t:SetTable):Obj:={ cls:=.type "set",dict:=none,data:=.set es ep t }
section
variable {prog:Program}{w:World}{σ:List Nat}{A:Around}{R:Result->Shared->Prop}{I:Addr}{fp wr:List Addr}{G:Array GenState->Array GenState->Prop}{n:Nat}{P:Nat->Value->Prop}{St:Nat->Shared->Prop}
def s_ (prog:Program)(w:World)(σ:List Nat)(led:Bool)(S:Addr)(ad:Nat->Addr)(n:Nat)(h:Heap)(kl:List Ky):Prop:=∃ es ep t bs,h.get? S=some (nB es ep t)/\s9 prog w σ h (nB es ep t) ep led kl es t bs/\∀ b∈bs,∃ j,j<n/\b=ad j
theorem s_.go{led:Bool}{S:Addr}(H:s_ prog w σ led S ad n h kl)(hS:∀ o,h.get? S=some o->h'.get? S=some o)(hA:qW h h'):s_ prog w σ led S ad n h' kl:=by obtain⟨es,ep,t,bs,g,⟨d,T,pl,ld,rm⟩,hb⟩:=H;exact⟨es,ep,t,bs,hS _ g,⟨d,⟨T.es,T.len,λi k b x y=>(T.is i k b x y).keep hA,T.tb,T.nd⟩,pl,ld,rm⟩,hb⟩
theorem XG(W:WalksS prog w A.in1 I fp wr G n P St)(hu:A.in1.units+1<cLine)(S:Addr)(IC:S ∉ fp)(led:Bool)(hn:n<=100)
  (val:Nat->Ky) (ad:Nat->Addr) (tj:∀ i v,P i v->v=.ref (ad i)) (XH:∀ i s,St i s->∀ b∈wr,∀ o,s.heap.get? b=some o->o.cls ≠ .type "tuple") :
  ∀ (k i:Nat) (s:Shared) (kl:List Ky),n-i=k->i<=n->St i s->(∀ j,j<n->dJ prog w σ s.heap (val j) (ad j))->s_ prog w σ led S ad n s.heap kl->kl.length<=i->(∀ x,x∈kl ↔ ∃ j,j<i/\val j=x)->
   (∀ s' jy,Moved (S::wr) G s s'->s_ prog w σ led S ad n s'.heap jy->(∀ x,x∈jy ↔ ∃ j,j<n/\val j=x)->R (.ok (.ret .none)) s')->
   codeAny (model prog w) A (.builtin "set.update.loop" ⟨[.ref S,.ref I],[]⟩) R s:=by
 have ID:S ∉ wr:=λh=>IC (W.sub _ h);have eV:∀ b∈wr,b∈S::wr:=λb hb=>Qf _ hb;have kt:∀ {i s s'},St i s->Moved wr G s s'->qW s.heap s'.heap:=λik oI b o vs n e c d=>oI.heap b o (λhb=>XH _ _ ik b hb o e c) e;intro k;induction k with
 | zero=>
  intro i s kl hk hi ik hT hS hl hm hR;have DF:i=n:=by omega
  subst DF;refine Jf J8 ?_;rw[Jy Jh _];show wpAny _ A.in1 (pyNext (.ref I) >>= _) _ _ s;refine Qa (W.done s _ _ ik λs' oI=>?_);show wpAny _ A.in1 (ret Value.none) _ _ s';exact Qe (hR s' kl (oI.mono eV) (hS.go (λo e=>oI.heap S o ID e) (kt ik oI)) hm)
 | succ k ih=>
  intro i s kl hk hi ik hT hS hl hm hR;have dR:i<n:=by omega
  refine Jf J8 ?_;rw[Jy Jh _];show wpAny _ A.in1 (pyNext (.ref I) >>= _) _ _ s;refine Qa (W.item i s _ _ dR ik λv s' hP xa oI=>?_);have hv:=tj i v hP;subst hv;have DH:∀ j,j<n->dJ prog w σ s'.heap (val j) (ad j):=λj hj=>(hT j hj).keep (kt ik oI);obtain⟨es,ep,t,bs,g,So,hb⟩:=hS.go (λo e=>oI.heap S o ID e) (kt ik oI);show wpAny _ A.in1 (holding [Value.ref (ad i)] (setAdd S (.ref (ad i))) >>= _) _ _ s';refine Qa (Zc ?_);unfold setAdd;refine Zc ?_;refine Qa (Xk hu (DH i dR) λtk le=>?_);refine Xx (s:={ s' with toks:=tk }) hu g So (DH i dR) (by omega) λh' oY jy jY t' oG r DI XI XJ pm XM=>?_;have XN:∀ j,j<n->dJ prog w σ h' (val j) (ad j):=λj hj=>(DH j hj).keep (Iu (by exact g) rfl DI);have mem:∀ x,x∈jy ↔ ∃ j,j<i+1/\val j=x:=λx=>by
   rw[pm.mem_iff];have ax:x∈(if val i∈kl then kl else val i::kl) ↔ x=val i\/x∈kl:=by
    by_cases c:val i∈kl
    ·rw[Qi c];exact⟨.inr,λz=>z.elim (λy=>y ▸ c) id⟩
    ·rw[Ql c];exact Qs
   rw[ax,hm x];constructor
   ·rintro (rfl|⟨j,a,b⟩)
    ·exact⟨i,by omega,rfl⟩
    ·exact⟨j,by omega,b⟩
   ·rintro ⟨j,a,b⟩;by_cases c:j=i
    ·subst c;exact .inl b.symm
    ·exact .inr ⟨j,by omega,b⟩
  have len:jy.length<=i+1:=by
   have e:=pm.length_eq;by_cases c:val i∈kl
   ·rw[Qi c]at e;omega
   ·rw[Ql c,Qz]at e;omega
  refine Qe ⟨plainId_quiet Jh _,ih (i+1) _ jy (by omega) dR (W.frame _ s' _ _ xa le λb eZ o e=>?_) XN ⟨jY,oY,t',oG,XI,XJ,λb eZ=>?_⟩ len mem λqz DJ DK DL mm=>?_⟩
  ·rw[DI.2 b (λh:b=S=>IC (by rw[<- h];exact eZ))];exact e
  ·rcases XM b eZ with rfl|z
   ·exact⟨i,dR,rfl⟩
   ·exact hb b z
  ·refine hR qz DJ (Moved.trans W.gtrans ((oI.mono eV).then_heap le λb o eZ e=>?_) DK) DL mm;rw[DI.2 b (λh:b=S=>eZ (by rw[h];exact Qh))];exact e
end
abbrev cT (b:Bool):String:=if b=true then "list" else "tuple"
theorem jw.obj{t:Addr}(x:jw b h t xs):∃ o,h.get? t=some o/\o.cls=.type (cT b)/\∃ n,o.data=.seq xs n:=by
 cases b
 ·obtain⟨o,e,c,n,d⟩:=(show h.IsTuple t xs from x);exact⟨o,e,c,n,d⟩
 ·obtain⟨o,e,c,n,d⟩:=(show h.IsList t xs from x);exact⟨o,e,c,n,d⟩
theorem XQ{A:Around}(hh:A.handled=none)(I ax:Addr)(il:ax≠I)(items:Array Value):Walks prog w A I [I,ax] [I] items.size (λi v=>items[i]? = some v) (λi h=>jJ b h I ax i/\jw b h ax items):=by
 cases b
 ·exact Walks.tuple hh I ax il items
 ·exact Walks.list hh I ax il items
theorem jw.at{a:Addr}(x:jw b h a xs)(e:∀ c o,h.get? c=some o->h'.get? c=some o):jw b h' a xs:=by
 cases b
 ·obtain⟨o,ho,r⟩:=(show h.IsTuple a xs from x);exact⟨o,e _ _ ho,r⟩
 ·obtain⟨o,ho,r⟩:=(show h.IsList a xs from x);exact⟨o,e _ _ ho,r⟩
theorem jJ.ne{i p:Addr}{n:Nat}(x:jJ b h i p n)(e:h.get? i=some o):o.cls ≠ .type "tuple":=by
 cases b
 ·obtain⟨o',e',c,_⟩:=(show h.IsTupleIter i p n from x);rw[e]at e';cases e';rw[c];exact λz=>absurd (Value.type.inj z) (by decide)
 ·obtain⟨o',e',c,_⟩:=(show h.IsListIter i p n from x);rw[e]at e';cases e';rw[c];exact λz=>absurd (Value.type.inj z) (by decide)
section
variable {prog:Program}{w:World}{σ:List Nat}{A:Around}{E:Tl}{s:Shared}
theorem XR{l:Addr}{items:Array Value}(hl:jw b s.heap l items)(hQ:∀ h',h'.objs.size=s.heap.objs.size+1->jJ b h' s.heap.objs.size l 0->(∀ c o,s.heap.get? c=some o->h'.get? c=some o)->Q (.ref s.heap.objs.size) { s with heap:=h' }):wpAny (model prog w) A (pyIter (.ref l)) Q E s:=by
 cases b
 ·exact JK (show s.heap.IsTuple l items from hl) (hQ _ (Zt ..) ⟨_,Qp _ rfl,rfl,rfl⟩ λc o e=>Qd _ e)
 ·exact Yr (show s.heap.IsList l items from hl) (hQ _ (Zt ..) ⟨_,Qp _ rfl,rfl,rfl⟩ λc o e=>Qd _ e)
set_option maxHeartbeats 3200000 in
theorem XS{t:Addr}{us:List Value}{ks:List Ky}(hA:A.handled=none)(hu:A.in1.in1.in1.units+1<cLine)(ht:jw b s.heap t us.toArray)(hlen:us.length=ks.length)(hk:∀ (i:Nat) (v:Value),us[i]? = some v->v=.ref (ad i))(DM:∀ i,i<ks.length->dJ prog w σ s.heap (ks.getD i []) (ad i))(tm:ks.length<=100)
  (q:∀ (h':Heap) (tk:Nat) kl,s_ prog w σ (!gL w) s.heap.objs.size ad ks.length h' kl->(∀ x,x∈kl ↔ ∃ j,j<ks.length/\ks.getD j []=x)->(∀ b o,b<s.heap.objs.size->s.heap.get? b=some o->h'.get? b=some o)->Q (.ref s.heap.objs.size) { s with heap:=h',toks:=tk }) :
  wpAny (model prog w) A (call (.type "set") [.ref t]) Q E s:=by
 have c1:=ZN.made;have c2:=ZN.sub;obtain⟨cc,tl,c3⟩:=ZN.mro;have c4:=ZN.notType;have c5:=ZN.canCreate;have c6:=PySem.F.typeCall_set_1 (.ref t);refine wpAny_call (codeAny_of_tree (show wpAny _ _ (callAny (.type "set") _) _ _ _ from Qe ⟨Vd _ (by decide +kernel),Jf PySem.F.entry_type_call ?_⟩));rw[Around.under_plain (weight_type_call_type "set" [.ref t] []) rfl]
 repeat (any_goals (first|assumption|wp_step))
 refine Yn (WS (.ref t) (E:=E) (Q₁:=λob s1=>ob=.ref s.heap.objs.size/\s1={ s with heap:=s.heap.push (so 0 (λ_=>0) 0 (!gL w)) }) ⟨rfl,rfl⟩) λr s1 hr=>?_;cases r with
 | error e=>exact hr
 | ok fl=>
  cases fl with
  | ret ob=>
   obtain⟨rfl,rfl⟩:=hr;have g0:(s.heap.push (so 0 (λ_=>0) 0 (!gL w))).get? s.heap.objs.size=some (so 0 (λ_=>0) 0 (!gL w)):=Qp _ rfl;have g1:Shared.TypeIs { s with heap:=s.heap.push (so 0 (λ_=>0) 0 (!gL w)) } (.ref s.heap.objs.size) "set":=⟨_,g0,rfl⟩;have g2:=ZN.init.lookup;have g3:=ZN.init.bind (.ref s.heap.objs.size)
   repeat (any_goals (first|assumption|wp_step))
   refine Yn (Jx (R:=wants (λr s2=>r=.none/\∃ h' tk kl,s2={ s with heap:=h',toks:=tk }/\s_ prog w σ (!gL w) s.heap.objs.size ad ks.length h' kl/\(∀ x,x∈kl ↔ ∃ j,j<ks.length/\ks.getD j []=x)/\(∀ b o,b<s.heap.objs.size->s.heap.get? b=some o->h'.get? b=some o)) E)
    ZN.init.plain PySem.F.entry_set_init (check_set_init_1 g1 ?_)) λr2 s2 uW=>?_
   ·obtain⟨ol,jx,oC,nl,IE⟩:=ht.obj;obtain⟨oc,od,odt,o8⟩:=ol;simp only at oC IE;subst oC IE;have xb:(s.heap.push (so 0 (λ_=>0) 0 (!gL w))).get? t=some _:=Qd _ jx;have n1:isSubtype (.type (cT b)) (.type "set")=pure false:=by cases b;exact WQ;exact PySem.F.sub_list_set
    have n2:isSubtype (.type (cT b)) (.type "frozenset")=pure false:=by cases b;exact WR;exact PySem.F.sub_list_frozenset
    have n3:(Value.type (cT b)==Value.type "dict")=false:=by cases b<;>decide
    have tt:jw b (s.heap.push (so 0 (λ_=>0) 0 (!gL w))) t us.toArray:=by cases b;exact⟨_,xb,rfl,nl,rfl⟩;exact⟨_,xb,rfl,nl,rfl⟩
    unfold Builtin.«set.__init__» noKeywords Builtin.Frozenset.updateFrom;generalize XT:pyIter=PI;wp_walk
    subst XT;refine XR tt λhI es hit up=>Qa (wpAny_runValue ?_);have lt:=Qq jx;have e1:(s.heap.push (so 0 (λ_=>0) 0 (!gL w))).objs.size=s.heap.objs.size+1:=Zt ..;have sz:us.toArray.size=ks.length:=by rw[Qo,hlen]
    have tj:∀ (i:Nat) (v:Value),us.toArray[i]? = some v->v=.ref (ad i):=λi v hv=>hk i v (by rw[<- hv];simp);refine XG (σ:=σ) (n:=us.toArray.size) ((XQ (A:=A.in1.in1.in1) (b:=b) (by simp[hA]) _ t (by rw[e1];exact Q4 (ZJ lt)) us.toArray).toS) hu s.heap.objs.size (by rw[e1];simp only[Qs,Qw,Yu,not_or];exact⟨Q4 (ZG _),Y2 lt⟩) (!gL w) (by rw[sz];exact tm) (λi=>ks.getD i []) ad tj (λi s' ik b hb o e=>?XU) (us.toArray.size-0) 0 _ [] (by omega) (Q6 _) ⟨hit,tt.at up⟩ (λj hj=>?XW) ?XX (Q6 _) (λx=>⟨λz=>(Qw z).elim,λ⟨j,z,_⟩=>absurd z (Zk _)⟩) ?XY
    case XW=>
     rw[sz]at hj;exact(DM j hj).keep λb o _ _ ho _ _=>up _ _ (Qd _ ho)
    case XU=>
     cases QF.mp hb;exact ik.1.ne e
    case XX=>
     refine⟨#[],0,.fresh 0 0 (!gL w),[],up _ _ (g0.trans (ZD some (HG _))),⟨rfl,⟨rfl,rfl,λi k b x _=>by simp at x,gr.fresh _ _ _,JE⟩,rfl,rfl,by show 0*5<7*3;decide⟩,λb hb=>(Qw hb).elim⟩
    case XY=>
     intro s' jy hm hS mm;rw[sz]at hS mm;obtain⟨h',g',d',uI,BS⟩:=s';cases (show g'=s.gens from hm.gens);cases (show d'=s.drawn from hm.drawn);cases (show BS=s.os from hm.os);refine Qe (show wpAny _ _ (ret Value.none) _ _ _ from Qe ⟨rfl,h',uI,jy,rfl,hS,mm,λc o hc e=>hm.heap c o ?_ (up _ _ (Qd _ e))⟩);rw[e1];simp only[Qs,Qw,Yu,not_or];exact⟨Q4 hc,Q4 (ZJ hc)⟩
   ·cases r2 with
    | error e=>exact uW
    | ok XZ=>
     cases XZ with
     | ret r=>
      obtain⟨rfl,h',tk,jy,rfl,hS,mm,kp⟩:=uW
      repeat (any_goals (first|assumption|wp_step))
      exact q _ _ _ hS mm kp
     | _=>exact uW.elim
  | _=>exact hr.elim
end
theorem X0{xs:Array Nat}(r:Rs xs)(hi:i<=xs.size):SetTable.below xs (if i=0 then 0 else xs.getD (i-1) 0+1)=i:=by
 by_cases h0:i=0
 ·subst h0;rw[Qi rfl];obtain⟨a,b,c⟩:=sU r 0;by_cases z:SetTable.below xs 0=0
  ·exact z
  ·exact absurd (b 0 (by omega)) (Zk _)
 ·rw[Ql h0];obtain⟨a,b,c⟩:=sU r (xs.getD (i-1) 0+1);generalize SetTable.below xs (xs.getD (i-1) 0+1)=q at *
  by_cases l:q<i
  ·have h1:=c (i-1) (by omega) (by omega);omega
  ·by_cases l2:i<q
   ·have h1:=b i l2;have h2:=r (i-1) i (by omega) (by omega);omega
   ·omega
structure uX (w:World) (es:Array (Int×Value)) (t:SetTable):Prop where
 ft:t.fits es.size=true
 pl:t.plain=true
 ld:t.led = !gL w
 rs:Rs t.place
 sz:t.place.size=es.size
theorem s9.gd{σ:List Nat}{ep:Nat}{es:Array (Int×Value)}{t:SetTable}{bs:List Addr}(S:s9 prog w σ h o ep (!gL w) kl es t bs):uX w es t:=
 ⟨S.S.fits,S.pl,S.ld,S.S.tb.rs,by rw[S.S.tb.sz,Qc,S.S.size]⟩
def j_ (w:World)(a:Addr)(es:Array (Int×Value))(ep:Nat):Array (Int×Value):=if gL w then pickOrder (w.params.setOrder a ep) es else es
def my (w:World)(t:SetTable)(i:Nat):Nat:=if gL w then 0 else if i=0 then 0 else t.place.getD (i-1) 0+1
theorem IF(w:World)(a:Addr)(es:Array (Int×Value))(ep:Nat):(j_ w a es ep).toList.Perm es.toList:=by
 unfold j_;split
 ·exact WT _ _
 ·exact .rfl
theorem An(w:World)(a:Addr)(es:Array (Int×Value))(ep:Nat):(j_ w a es ep).size=es.size:=by rw[<- QA,(IF w a es ep).length_eq,QA]
section
variable {prog:Program}{w:World}{A:Around}{E:Tl}{s:Shared}{a I:Addr}{ep:Nat}{es:Array (Int×Value)}{t:SetTable}
theorem cM{Q:(Array (Int×Value)×Nat×SetTable)->Shared->Prop}(hm:uX w es t)(ho:s.heap.get? a=some (nB es ep t))(h:Q (es,ep,t) s):wpAny (model prog w) A (setState a) Q E s:=
 Je ho rfl hm.ft h
theorem X1(hm:uX w es t)(ho:s.heap.get? a=some (nB es ep t))
  (hQ:Q (.ref s.heap.objs.size) { s with heap:=s.heap.push (io a 0 0 es.size ep) }):wpAny (model prog w) A (pyIter (.ref a)) Q E s:=by
 have hT:s.TypeIs (.ref a) "set":=⟨_,ho,rfl⟩;refine Vy hT Ub (QY Ub hT WU ?_ (PySem.F.args_set_iter_1 _));unfold Builtin.«frozenset.__iter__» Builtin.Frozenset.slot0 slotArgs;simp only[List.isEmpty_nil,Zz,Qt,↓reduceIte,bind_assoc,Jr,Yz];unfold Builtin.Frozenset.addrOf Builtin.Frozenset.sizeOf;refine Qa (Qe ?_)
 try dsimp only
 refine Qa (Qe ?_);have xf:∀ {R:Array (Int×Value)->Shared->Prop},R es s->wpAny (model prog w) A.in1 (setEntries a) R E s:=λh=>by unfold setEntries;exact Qa (cM hm ho (Qe h))
 refine Qa (Qa (xf (Qe ?_)));have X2:∀ {R:Bool->Shared->Prop},R false s->wpAny (model prog w) A.in1 (setDrawn a) R E s:=λh=>by
  unfold setDrawn;refine Qa (cM hm ho (Qa (Dl (Qe ?_))));have e:(!gL w&&(!t.plain&&decide (es.size > 1)))=false:=by rw[hm.pl];cases gL w<;>rfl
  exact e ▸ h
 refine Qa (X2 ?_);simp only[Qt,↓reduceIte];refine Qa (Qe ?_);have X3:∀ {R:Nat->Shared->Prop},R ep s->wpAny (model prog w) A.in1 (setEpoch a) R E s:=λh=>by unfold setEpoch;exact Qa (cM hm ho (Qe h))
 refine Qa (X3 ?_);unfold newFields;refine Qa (Q8 (Qe ⟨_,rfl,"set_iterator",_,⟨_,Qp _ rfl,rfl⟩,uR.lookup,?_⟩));exact hQ
theorem IG{R:Option (Value×Nat)->Shared->Prop}(hm:uX w es t)(hi:i<=es.size)(ho:s.heap.get? a=some (nB es ep t))
  (h:R (((j_ w a es ep)[i]?).map λe=>(e.2,my w t (i+1))) s):wpAny (model prog w) A (setNext a (my w t i) i ep) R E s:=by
 unfold setNext;refine Qa (cM hm ho (Qa (Dl ?_)));dsimp only;cases hb:gL w with
 | true=>
  rw[Qi rfl];rw[Ql (by simp)];refine Qa (m:=setWalk a) ?_;unfold setWalk;refine Qa (cM hm ho (Qa (Dl ?_)));rw[hb,Qi rfl];refine Qa (VM (Qe (Qe ?_)));unfold j_ my at h;rw[hb]at h;simp only[↓reduceIte]at h;unfold my;rw[hb,Qi rfl];exact h
 | false=>
  rw[Ql (by simp)];have lt:t.led=true:=by rw[hm.ld,hb];rfl
  refine(show wpAny _ _ (if((!t.plain&&decide (es.size > 1))=true)then _ else _) _ _ _ from ?_);rw[Ql (show ¬ ((!t.plain&&decide (es.size > 1))=true)from by rw[hm.pl];simp)];refine Qa (show wpAny _ _ (if((!t.led && !es.isEmpty)=true)then unsupported "set:maker-not-led" else pure ()) _ _ _ from ?_);rw[Ql (show ¬ ((!t.led && !es.isEmpty)=true)from by rw[lt];simp)];refine Qe ?_;unfold j_ my at h;rw[hb]at h;simp only[Qt,↓reduceIte,Nat.add_one_ne_zero,Nat.add_sub_cancel]at h;unfold my;rw[hb];simp only[Qt,↓reduceIte];refine Qe ?_;rw[X0 hm.rs (by rw[hm.sz];exact hi)];rcases Nat.lt_or_ge i es.size with dR|X4
  ·have e1:es[i]? = some es[i]:=Zn dR;have e2:t.place[i]? = some (t.place.getD i 0):=Aj (by rw[hm.sz];exact dR);rw[e1]at h ⊢;rw[e2];exact h
  ·have e1:es[i]? = none:=JP X4;rw[e1]at h ⊢;exact h
theorem X5(hh:A.handled=none)(il:a≠I)(hm:uX w es t):Walks prog w A I [I,a] [I] es.size (λi v=>∃ e,(j_ w a es ep)[i]? = some e/\v=e.2)
  (λi h=>h.get? I=some (io a (my w t i) i es.size ep)/\h.get? a=some (nB es ep t)) where
 sub:=λb hb=>by simp at hb;simp[hb]
 frame:=λ_ _ _ st hk=>⟨hk I (by simp) _ st.1,hk a (by simp) _ st.2⟩
 self:=λi s Q E st hQ=>by have hT:s.TypeIs (.ref I) "set_iterator":=⟨_,st.1,rfl⟩;refine Vy hT HK (QY HK hT WW ?_ (WV _));show wpAny _ _ (ret (.ref I)) _ _ s;exact Qe ⟨_,rfl,"set_iterator",_,hT,uR.lookup,hQ⟩
 item:=λi s Q E hi st hQ=>by
  have hT:s.TypeIs (.ref I) "set_iterator":=⟨_,st.1,rfl⟩;unfold pyNext;refine Qa (JA (Za (name:=Str.ofString "__next__") hT uR (QY uR hT HI ?_ (HJ _))));unfold Builtin.«set_iterator.__next__»;refine Qa (Qe ?_);refine Qa (Vi st.1 rfl ?_);show wpAny _ _ (setEntries a >>= _) _ _ _;have xf:∀ {R:Array (Int×Value)->Shared->Prop} {E:Tl},R es s->wpAny (model prog w) A.in1 (setEntries a) R E s:=λh=>by unfold setEntries;exact Qa (cM hm st.2 (Qe h))
  refine Qa (xf ?_);dsimp only;rw[Ql (by simp)];show wpAny _ _ (setNext a (my w t i) i ep >>= _) _ _ _;refine Qa (IG hm (Z6 hi) st.2 ?_);have ew:(j_ w a es ep)[i]? = some ((j_ w a es ep)[i]'(by rw[An];exact hi)):=Zn (by rw[An];exact hi);rw[ew];show wpAny _ _ (setField (.ref I) 0 (rawInt (my w t (i+1))) >>= _) _ _ _;refine Qa (wpAny_setField_rec st.1 (by simp) λh1 g1 b1=>?_);refine Qa (wpAny_setField_rec (s:={ s with heap:=h1 }) g1 (by simp) λh2 g2 b2=>?_);refine Qe ⟨_,rfl,Qe (hQ _ h2 s.toks ⟨_,ew,rfl⟩ ⟨?_,?_⟩ λb o hb e=>?_)⟩
  ·rw[g2];simp[io,rawInt]
  ·have n1:=(b1.2 a il);have n2:=(b2.2 a il);rw[n2,n1];exact st.2
  ·have eZ:b≠I:=λh=>hb (by simp[h]);rw[b2.2 b eZ,b1.2 b eZ];exact e
 done:=λs Q E st hQ=>by
  have hT:s.TypeIs (.ref I) "set_iterator":=⟨_,st.1,rfl⟩;unfold pyNext;refine Qa (JA (Za (name:=Str.ofString "__next__") hT uR (QY uR hT HI ?_ (HJ _))));unfold Builtin.«set_iterator.__next__»;refine Qa (Qe ?_);refine Qa (Vi st.1 rfl ?_);show wpAny _ _ (setEntries a >>= _) _ _ _;have xf:∀ {R:Array (Int×Value)->Shared->Prop} {E:Tl},R es s->wpAny (model prog w) A.in1 (setEntries a) R E s:=λh=>by unfold setEntries;exact Qa (cM hm st.2 (Qe h))
  refine Qa (xf ?_);dsimp only;rw[Ql (by simp)];show wpAny _ _ (setNext a (my w t es.size) es.size ep >>= _) _ _ _;refine Qa (IG hm (Qj _) st.2 ?_);have ew:(j_ w a es ep)[es.size]? = none:=JP (by rw[An];exact Qj _);rw[ew];show wpAny _ _ (setField (.ref I) 2 .none >>= _) _ _ _;refine Qa (wpAny_setField_rec st.1 (by simp) λh1 g1 b1=>?_);show wpAny _ _ (newExc (.type "StopIteration") [] >>= _) _ _ _;refine Qa ?_;simp only[newExc,newTuple];refine Qa (Q8 ?_ (by size_fits));refine Qa (m:=firstArgMember _ _) (Ui (a:=Value.none) (by first|rfl|(simp only[firstArgMember];rfl)) ?_);refine Q8 ?_ (by size_fits);simp only[raiseNew];refine Qa (wpAny_handled ?_);rw[show A.in1.handled=none from hh];refine Qa (Qe (wpAny_throw ?_));refine Qa (Z5 (T:="StopIteration") (b:=true) ⟨_,Qp _ rfl,rfl⟩ Vh ?_);refine Qe (hQ _ s.toks λb o hb e=>?_);have eZ:b≠I:=λh=>hb (by simp[h]);exact Qd _ (Qd _ (by rw[b1.2 b eZ];exact e))
theorem X6(hm:uX w es t):KdlSrc prog w "set" a a es.size (λi v=>∃ e,(j_ w a es ep)[i]? = some e/\v=e.2) (λh=>h.get? a=some (nB es ep t)) where
 type:=λ_ h=>⟨_,h,rfl⟩
 there:=λ_ h=>⟨Qq h,Qq h⟩
 keep:=λ_ _ h hk=>hk a (.inl rfl) _ h
 notList:=by decide
 notTuple:=by decide
 hint:=λ_ _ _ _ h hq=>WX ⟨_,h,rfl⟩ hq
 iter:=λA s hh h=>⟨io a 0 0 es.size ep,_,(λ_ _ hq=>X1 hm h hq),X5 hh (Q4 (Qq h)) hm,⟨by rw[show my w t 0=0 by unfold my;split<;>rfl];exact Qp _ rfl,Qd _ h⟩⟩
end
end L3
namespace L3
open PySem PySem.W PyProof.Rows
variable {P:PySem.Fin->Shared->Prop}{Q:Bool->Shared->Prop}{a b:Addr}{f:Bool}{h h':Heap}{i j n aT:Nat}{ks:List Ky}{l m:List Nat}{p p0:Array Nat}{vs:List Value}{x:Ky}{y:It}
def bE {α:Type}(lt:Nat->Nat->Bool):KasT α->α
 | .ret a=>a
 | .ask i j k=>bE lt (k (lt i j))
theorem pV{α β:Type}(lt:Nat->Nat->Bool)(f:α->KasT β):∀ t:KasT α,bE lt (t.bind f)=bE lt (f (bE lt t))
 | .ret _=>rfl
 | .ask i j k=>pV lt f (k (lt i j))
variable {r:Nat->Int}
abbrev df (r:Nat->Int)(i j:Nat):Bool:=decide (r i<r j)
abbrev xv (r:Nat->Int)(p:Array Nat)(i:Nat):Int:=r (p.getD i 0)
theorem DN(p:Array Nat):∀ (f n:Nat),n<=bE (df r) (kas_asc p f n)/\bE (df r) (kas_asc p f n)<=n+f/\(∀ k,n<=k->k<bE (df r) (kas_asc p f n)->xv r p (k-1)<=xv r p k)/\(bE (df r) (kas_asc p f n)<n+f->xv r p (bE (df r) (kas_asc p f n))<xv r p (bE (df r) (kas_asc p f n)-1))
 | 0,n=>⟨Qj _,Qj _,λk a b=>absurd (Z2 a b) (QT _),λh=>absurd h (QT _)⟩
 | f+1,n=>by
  have e:bE (df r) (kas_asc p (f+1) n)=if xv r p n<xv r p (n-1)then n else bE (df r) (kas_asc p f (n+1)):=by
   show bE (df r) (if decide (r (p.getD n 0)<r (p.getD (n-1) 0))=true then KasT.ret n else kas_asc p f (n+1))=_;by_cases c:xv r p n<xv r p (n-1)
   ·rw[Qi c,Qi (Qr c)];rfl
   ·rw[Ql c,Ql (by rw[ZB];exact c)]
  rw[e];by_cases c:xv r p n<xv r p (n-1)
  ·rw[Qi c];exact⟨Qj _,by omega,λk a b=>by omega,λ_=>c⟩
  ·rw[Ql c];obtain⟨h1,h2,h3,h4⟩:=DN p f (n+1);refine⟨by omega,by omega,λk a b=>?_,λh=>h4 (by omega)⟩;by_cases z:k=n
   ·subst z;omega
   ·exact h3 k (by omega) b
theorem xg{x:Nat->Int}(h:∀ k,1<=k->k<n->x (k-1)<=x k):∀ (i j:Nat),i<=j->j<n->x i<=x j:=by
 intro i j;induction j with
 | zero=>
  intro a _;have:i=0:=by omega
  subst this;exact YN _
 | succ j ih=>
  intro a b;by_cases z:i=j+1
  ·subst z;exact YN _
  ·exact VY (ih (by omega) (by omega)) (h (j+1) (by omega) b)
theorem DO(hj:j<=p.size)(k:Nat):xv r (kas_rev p i j) k=if i<=k/\k<j then xv r p (i+j-1-k)else xv r p k:=by
 unfold kas_rev;show r ((mirror p i j ((j-i) / 2)).getD k 0)=_;rw[QP,getElem?_mirror_all hj k];split
 ·rw[<- QP]
 ·rw[<- QP]
theorem q5(p:Array Nat)(i j:Nat):(kas_rev p i j).Perm p:=mirror_perm _ _ _ _
theorem DP(hj:j<=p.size)(h:∀ k,i<=k->k<j->xv r p k=xv r p (j-1))(k:Nat):xv r (kas_rev p i j) k=xv r p k:=by
 rw[DO hj];split;next c=>
  rw[h (i+j-1-k) (by omega) (by omega),h k c.1 c.2]
 ·rfl
structure Dn (r:Nat->Int) (p0 p:Array Nat) (n q:Nat):Prop where
 pm:p.Perm p0
 le:n<=p0.size
 q1:q<n
 dn:∀ k,1<=k->k<n->xv r p k<=xv r p (k-1)
 eq:∀ k,n-(q+1)<=k->k<n->xv r p k=xv r p (n-1)
theorem Ao:∀ (f:Nat) (p:Array Nat) (n q:Nat),Dn r p0 p n q->n+f<=p0.size->∃ p' n' q',bE (df r) (kas_desc f p n q)=(p',n',q')/\Dn r p0 p' n' q'/\n<=n'/\n'<=n+f
 | 0,p,n,q,h,_=>⟨p,n,q,rfl,h,Qj _,Qj _⟩
 | f+1,p,n,q,h,hf=>by
  have sz:p.size=p0.size:=h.pm.size_eq;have hq:=h.q1;have e:bE (df r) (kas_desc (f+1) p n q)=if xv r p n<xv r p (n-1)then(if q > 0 then bE (df r) (kas_desc f (kas_rev p (n-(q+1)) n) (n+1) 0)else bE (df r) (kas_desc f p (n+1) 0))else if xv r p (n-1)<xv r p n then(p,n,q)else bE (df r) (kas_desc f p (n+1) (q+1)):=by
   show bE (df r) (if decide (r (p.getD n 0)<r (p.getD (n-1) 0))=true then(if q > 0 then kas_desc f (kas_rev p (n-(q+1)) n) (n+1) 0 else kas_desc f p (n+1) 0)else KasT.ask (p.getD (n-1) 0) (p.getD n 0) λd=>if d=true then KasT.ret (p,n,q)else kas_desc f p (n+1) (q+1))=_;by_cases c:xv r p n<xv r p (n-1)
   ·rw[Qi c,Qi (Qr c)];split<;>rfl
   ·rw[Ql c,Ql (by rw[ZB];exact c)];show bE (df r) (if decide (r (p.getD (n-1) 0)<r (p.getD n 0))=true then KasT.ret (p,n,q)else kas_desc f p (n+1) (q+1))=_;by_cases d:xv r p (n-1)<xv r p n
    ·rw[Qi d,Qi (Qr d)];rfl
    ·rw[Ql d,Ql (by rw[ZB];exact d)]
  rw[e];by_cases c:xv r p n<xv r p (n-1)
  ·rw[Qi c];have step:∀ p1:Array Nat,p1.Perm p0->(∀ k,xv r p1 k=xv r p k)->Dn r p0 p1 (n+1) 0:=λp1 pm ex=>by
    refine⟨pm,by omega,by omega,λk a b=>?_,λk a b=>by rw[show k=n+1-1 by omega]⟩;rw[ex,ex];by_cases z:k=n
    ·subst z;omega
    ·exact h.dn k a (by omega)
   by_cases d:q > 0
   ·rw[Qi d];obtain⟨p',n',q',e1,e2,e3,e4⟩:=Ao f _ (n+1) 0 (step _ ((q5 _ _ _).trans h.pm) λk=>DP (by omega) h.eq k) (by omega);exact⟨p',n',q',e1,e2,by omega,by omega⟩
   ·rw[Ql d];obtain⟨p',n',q',e1,e2,e3,e4⟩:=Ao f _ (n+1) 0 (step p h.pm λ_=>rfl) (by omega);exact⟨p',n',q',e1,e2,by omega,by omega⟩
  ·rw[Ql c];by_cases d:xv r p (n-1)<xv r p n
   ·rw[Qi d];exact⟨p,n,q,rfl,h,Qj _,by omega⟩
   ·rw[Ql d];have en:xv r p n=xv r p (n-1):=by omega
    obtain⟨p',n',q',e1,e2,e3,e4⟩:=Ao f p (n+1) (q+1) ⟨h.pm,by omega,by omega,λk a b=>by
     by_cases z:k=n
     ·subst z;omega
     ·exact h.dn k a (by omega),λk a b=>by
     rw[show n+1-1=n by omega];by_cases z:k=n
     ·rw[z]
     ·rw[h.eq k (by omega) (by omega),en]⟩ (by omega)
    exact⟨p',n',q',e1,e2,by omega,by omega⟩
structure Up (r:Nat->Int) (p0 p:Array Nat) (n:Nat):Prop where
 pm:p.Perm p0
 n1:1<=n
 le:n<=p0.size
 up:∀ k,1<=k->k<n->xv r p (k-1)<=xv r p k
theorem IH{q:Nat}(h:Dn r p0 p n q)(hn:aT=p0.size):∃ m p',bE (df r) (kas_tail3 n aT p)=(m,p')/\Up r p0 p' m:=by
 have sz:p.size=p0.size:=h.pm.size_eq;have hl:=h.le;have hq:=h.q1;unfold kas_tail3;rw[pV];obtain⟨h1,h2,h3,_⟩:=DN (r:=r) (kas_rev p 0 n) (aT-n) n;refine⟨_,_,rfl,(q5 _ _ _).trans h.pm,by omega,by omega,λk a b=>?_⟩;by_cases z:k<n
 ·rw[DO (by omega),DO (by omega),Qi ⟨by omega,by omega⟩,Qi ⟨by omega,z⟩];have:=h.dn (0+n-1-(k-1)) (by omega) (by omega);rw[show 0+n-1-(k-1)-1=0+n-1-k by omega]at this;exact this
 ·exact h3 k (by omega) b
theorem II(h:Dn r p0 p (n+1) 0)(hn:aT=p0.size):∃ m p',bE (df r) (kas_descPart n aT p)=(m,p')/\Up r p0 p' m:=by
 have hl:=h.le;unfold kas_descPart;rw[pV];obtain⟨p',n',q',e,d,a,b⟩:=Ao (aT-(n+1)) p (n+1) 0 h (by omega);rw[e];show ∃ m X7,bE (df r) (if q' > 0 then kas_tail3 n' aT (kas_rev p' (n'-(q'+1)) n')else kas_tail3 n' aT p')=(m,X7)/\_;have sz:p'.size=p0.size:=d.pm.size_eq;have kK:=d.le;by_cases c:q' > 0
 ·rw[Qi c];have ex:∀ k,xv r (kas_rev p' (n'-(q'+1)) n') k=xv r p' k:=λk=>DP (by omega) d.eq k;exact IH (q:=q') ⟨(q5 _ _ _).trans d.pm,d.le,d.q1,λk a b=>by rw[ex,ex];exact d.dn k a b,λk a b=>by rw[ex,ex];exact d.eq k a b⟩ hn
 ·rw[Ql c];exact IH d hn
theorem X8(h1:1<=p0.size):∃ m p',bE (df r) (kas_count p0.size p0)=(m,p')/\Up r p0 p' m:=by
 unfold kas_count;rw[pV];obtain⟨a,b,c,d⟩:=DN (r:=r) p0 (p0.size-1) 1;generalize bE (df r) (kas_asc p0 (p0.size-1) 1)=n at *
 show ∃ m p',bE (df r) (if(n==p0.size)=true then KasT.ret (n,p0)else if n > 1 then KasT.ask (p0.getD 0 0) (p0.getD (n-1) 0) λc=>if c=true then KasT.ret (n,p0)else kas_descPart n p0.size (kas_rev p0 0 n)else kas_descPart n p0.size p0)=(m,p')/\_;by_cases z:n=p0.size
 ·rw[Qi (by rw[J5];exact z)];exact⟨n,p0,rfl,V4 _,a,by omega,c⟩
 ·rw[Ql (by rw[J5];exact z)];have lt:=d (by omega);by_cases y:n > 1
  ·rw[Qi y];show ∃ m p',bE (df r) (if decide (r (p0.getD 0 0)<r (p0.getD (n-1) 0))=true then KasT.ret (n,p0)else kas_descPart n p0.size (kas_rev p0 0 n))=(m,p')/\_;by_cases x:xv r p0 0<xv r p0 (n-1)
   ·rw[Qi (Qr x)];exact⟨n,p0,rfl,V4 _,a,by omega,c⟩
   ·rw[Ql (by rw[ZB];exact x)];have same:∀ k,0<=k->k<n->xv r p0 k=xv r p0 (n-1):=λk _ hk=>by have l1:=xg c 0 k (Q6 _) hk;have l2:=xg c k (n-1) (by omega) (by omega);omega
    have ex:∀ k,xv r (kas_rev p0 0 n) k=xv r p0 k:=λk=>DP (by omega) same k;refine II ⟨q5 _ _ _,by omega,by omega,λk q1 q2=>?_,λk q1 q2=>by rw[show k=n+1-1 by omega]⟩ rfl;rw[ex,ex];by_cases w:k=n
    ·subst w;omega
    ·rw[same k (Q6 _) (by omega),same (k-1) (Q6 _) (by omega)];exact YN _
  ·rw[Ql y];have n1:n=1:=by omega
   subst n1;refine II ⟨V4 _,by omega,by omega,λk q1 q2=>?_,λk q1 q2=>by rw[show k=1+1-1 by omega]⟩ rfl;rw[show k=1 by omega];omega
variable {r:Nat->Int}
theorem xh{k:Nat}(up:∀ j,1<=j->j<k->xv r p (j-1)<=xv r p j):∀ (f l u:Nat),u-l<=f->l<=u->u<=k->(∀ i,i<l->xv r p i<=xv r p k)->(∀ i,u<=i->i<k->xv r p k<xv r p i)->
  bE (df r) (kas_place p k f l u)<=k/\(∀ i,i<bE (df r) (kas_place p k f l u)->xv r p i<=xv r p k)/\(∀ i,bE (df r) (kas_place p k f l u)<=i->i<k->xv r p k<xv r p i)
 | 0,l,u,hf,hl,hu,h1,h2=>⟨by show l<=k;omega,h1,λi a b=>h2 i (by have:l<=i:=a;omega) b⟩
 | f+1,l,u,hf,hl,hu,h1,h2=>by
  have e:bE (df r) (kas_place p k (f+1) l u)=if l ≥ u then l else if xv r p k<xv r p ((l+u) / 2)then bE (df r) (kas_place p k f l ((l+u) / 2))else bE (df r) (kas_place p k f ((l+u) / 2+1) u):=by
   show bE (df r) (if l ≥ u then KasT.ret l else KasT.ask (p.getD k 0) (p.getD ((l+u) / 2) 0) λc=>if c=true then kas_place p k f l ((l+u) / 2)else kas_place p k f ((l+u) / 2+1) u)=_;by_cases c:l ≥ u
   ·rw[Qi c,Qi c];rfl
   ·rw[Ql c,Ql c];show bE (df r) (if decide (r (p.getD k 0)<r (p.getD ((l+u) / 2) 0))=true then kas_place p k f l ((l+u) / 2)else kas_place p k f ((l+u) / 2+1) u)=_;by_cases d:xv r p k<xv r p ((l+u) / 2)
    ·rw[Qi d,Qi (Qr d)]
    ·rw[Ql d,Ql (by rw[ZB];exact d)]
  rw[e];by_cases c:l ≥ u
  ·rw[Qi c];exact⟨by omega,h1,λi a b=>h2 i (by omega) b⟩
  ·rw[Ql c];by_cases d:xv r p k<xv r p ((l+u) / 2)
   ·rw[Qi d];refine xh up f l _ (by omega) (by omega) (by omega) h1 λi a b=>?_;exact Int.lt_of_lt_of_le d (xg up _ i a b)
   ·rw[Ql d];refine xh up f _ u (by omega) (by omega) hu (λi a=>?_) h2;have:=xg up i ((l+u) / 2) (by omega) (by omega);omega
theorem X9{k d:Nat}(hk:k<p.size)(hd:d<=k)(j:Nat):xv r (bubble p k d) j=if j=k-d then xv r p k else if k-d<j/\j<=k then xv r p (j-1)else xv r p j:=by
 show r ((bubble p k d).getD j 0)=_;rw[QP,getElem?_bubble hk d hd j];split
 ·rw[<- QP]
 ·split
  ·rw[<- QP]
  ·rw[<- QP]
theorem IJ:∀ (f:Nat) (p:Array Nat) (k:Nat),Up r p0 p k->k+f=p0.size->Up r p0 (bE (df r) (kas_bin f p k)) p0.size
 | 0,p,k,h,hk=>by
  have:k=p0.size:=by omega
  subst this;exact h
 | f+1,p,k,h,hk=>by
  have sz:p.size=p0.size:=h.pm.size_eq;have h1:=h.n1;have qT:k<p.size:=by omega
  obtain⟨a,b,c⟩:=xh (r:=r) (p:=p) (k:=k) h.up k 0 k (by omega) (Q6 _) (Qj _) (λ_ z=>absurd z (Zk _)) (λi a b=>by omega);have e:bE (df r) (kas_bin (f+1) p k)=bE (df r) (kas_bin f (bubble p k (k-bE (df r) (kas_place p k k 0 k))) (k+1)):=pV _ _ _;rw[e];generalize bE (df r) (kas_place p k k 0 k)=l at *
  refine IJ f _ (k+1) ⟨(bubble_perm _ _ _).trans h.pm,by omega,by omega,λj q1 q2=>?_⟩ (by omega);have x:∀ j,xv r (bubble p k (k-l)) j=if j=l then xv r p k else if l<j/\j<=k then xv r p (j-1)else xv r p j:=λj=>by rw[X9 qT (by omega),show k-(k-l)=l by omega]
  rw[x,x];by_cases z:j=l
  ·subst z;rw[Ql (by omega),Ql (by omega),Qi rfl];exact b (j-1) (by omega)
  ·rw[Ql z];by_cases y:j-1=l
   ·rw[Qi y,Qi ⟨by omega,by omega⟩];rw[y];exact Int.le_of_lt (c l (Qj _) (by omega))
   ·rw[Ql y];by_cases w:l<j
    ·rw[Qi ⟨by omega,by omega⟩,Qi ⟨w,by omega⟩];exact h.up (j-1) (by omega) (by omega)
    ·rw[Ql (by omega),Ql (by omega)];exact h.up j q1 (by omega)
theorem X_(hn:1<=n):(bE (df r) (kas_sort n)).Perm (List.toArray (range n))/\∀ i j,i<=j->j<n->xv r (bE (df r) (kas_sort n)) i<=xv r (bE (df r) (kas_sort n)) j:=by
 have s0:(List.toArray (range n)).size=n:=by rw[Qo,QI]
 obtain⟨m,p,e,h⟩:=X8 (r:=r) (p0:=List.toArray (range n)) (by omega);rw[s0]at e;have e2:bE (df r) (kas_sort n)=bE (df r) (if m<n then kas_bin (n-max m 1) p (max m 1)else KasT.ret p):=by unfold kas_sort;rw[pV,e]
 have h1:=h.n1;have hl:=h.le;rw[s0]at hl;have up:Up r (List.toArray (range n)) (bE (df r) (kas_sort n)) (List.toArray (range n)).size:=by
  rw[e2];by_cases c:m<n
  ·rw[Qi c,show max m 1=m by omega];exact IJ _ _ _ h (by omega)
  ·rw[Ql c];have:m=(List.toArray (range n)).size:=by omega
   rw[<- this];exact h
 refine⟨up.pm,λi j a b=>xg up.up i j a (by rw[s0];exact b)⟩
def iL {α:Type}(lt:Nat->Nat->Bool)(n:Nat):KasT α->Prop
 | .ret _=>True
 | .ask i j k=>i<n/\j<n/\iL lt n (k (lt i j))
theorem uY{α β:Type}{lt:Nat->Nat->Bool}{f:α->KasT β}:∀ {t:KasT α},iL lt n t->iL lt n (f (bE lt t))->iL lt n (t.bind f)
 | .ret _,_,h=>h
 | .ask _ _ _,h,h'=>⟨h.1,h.2.1,uY h.2.2 h'⟩
def Vp (n:Nat)(p:Array Nat):Prop:=∀ k,p.getD k 0<n
theorem Vp.pm{q:Array Nat}(h:Vp n q)(h0:0<n)(e:p.Perm q):Vp n p:=λk=>by
 by_cases c:k<p.size
 ·have m:p[k]∈q:=e.mem_iff.mp (Vx c);obtain⟨j,hj,q'⟩:=Ul m;have:p.getD k 0=p[k]:=by unfold Array.getD;rw[VW c];rfl
  rw[this,<- q'];have:=h j;unfold Array.getD at this;rw[VW hj]at this;exact this
 ·unfold Array.getD;rw[dif_neg c];exact h0
variable {lt:Nat->Nat->Bool}{n:Nat}
theorem DQ(v:Vp n p):∀ f m,iL lt n (kas_asc p f m)
 | 0,_=>trivial
 | f+1,m=>⟨v _,v _,by
  show iL lt n (if lt (p.getD m 0) (p.getD (m-1) 0)=true then KasT.ret m else kas_asc p f (m+1));split
  ·trivial
  ·exact DQ v f (m+1)⟩
theorem Ap(h0:0<n):∀ (f:Nat) (p:Array Nat) (m q:Nat),Vp n p->iL lt n (kas_desc f p m q)/\Vp n (bE lt (kas_desc f p m q)).1
 | 0,_,_,_,v=>⟨trivial,v⟩
 | f+1,p,m,q,v=>by
  have vr:∀ i j,Vp n (kas_rev p i j):=λi j=>v.pm h0 (q5 _ _ _);have key:iL lt n (if lt (p.getD m 0) (p.getD (m-1) 0)=true then(if q > 0 then kas_desc f (kas_rev p (m-(q+1)) m) (m+1) 0 else kas_desc f p (m+1) 0)else KasT.ask (p.getD (m-1) 0) (p.getD m 0) λd=>if d=true then KasT.ret (p,m,q)else kas_desc f p (m+1) (q+1)) /\
    Vp n (bE lt (if lt (p.getD m 0) (p.getD (m-1) 0)=true then(if q > 0 then kas_desc f (kas_rev p (m-(q+1)) m) (m+1) 0 else kas_desc f p (m+1) 0)else KasT.ask (p.getD (m-1) 0) (p.getD m 0) λd=>if d=true then KasT.ret (p,m,q)else kas_desc f p (m+1) (q+1))).1:=by
   split
   ·split
    ·exact Ap h0 f _ _ _ (vr _ _)
    ·exact Ap h0 f _ _ _ v
   ·have k2:iL lt n (if lt (p.getD (m-1) 0) (p.getD m 0)=true then KasT.ret (p,m,q)else kas_desc f p (m+1) (q+1))/\Vp n (bE lt (if lt (p.getD (m-1) 0) (p.getD m 0)=true then KasT.ret (p,m,q)else kas_desc f p (m+1) (q+1))).1:=by
     split
     ·exact⟨trivial,v⟩
     ·exact Ap h0 f _ _ _ v
    exact⟨⟨v _,v _,k2.1⟩,k2.2⟩
  exact⟨⟨v _,v _,key.1⟩,key.2⟩
theorem IK(h0:0<n)(v:Vp n p)(m aT:Nat):iL lt n (kas_tail3 m aT p)/\Vp n (bE lt (kas_tail3 m aT p)).2:=by have vr:Vp n (kas_rev p 0 m):=v.pm h0 (q5 _ _ _);unfold kas_tail3;exact⟨uY (DQ vr _ _) trivial,by rw[pV];exact vr⟩
theorem IL(h0:0<n)(v:Vp n p)(m aT:Nat):iL lt n (kas_descPart m aT p)/\Vp n (bE lt (kas_descPart m aT p)).2:=by
 unfold kas_descPart;obtain⟨a,b⟩:=Ap (lt:=lt) h0 (aT-(m+1)) p (m+1) 0 v;have key:iL lt n (if(bE lt (kas_desc (aT-(m+1)) p (m+1) 0)).2.2 > 0 then kas_tail3 (bE lt (kas_desc (aT-(m+1)) p (m+1) 0)).2.1 aT (kas_rev (bE lt (kas_desc (aT-(m+1)) p (m+1) 0)).1 ((bE lt (kas_desc (aT-(m+1)) p (m+1) 0)).2.1-((bE lt (kas_desc (aT-(m+1)) p (m+1) 0)).2.2+1)) (bE lt (kas_desc (aT-(m+1)) p (m+1) 0)).2.1)else kas_tail3 (bE lt (kas_desc (aT-(m+1)) p (m+1) 0)).2.1 aT (bE lt (kas_desc (aT-(m+1)) p (m+1) 0)).1)/\Vp n (bE lt (if(bE lt (kas_desc (aT-(m+1)) p (m+1) 0)).2.2 > 0 then kas_tail3 (bE lt (kas_desc (aT-(m+1)) p (m+1) 0)).2.1 aT (kas_rev (bE lt (kas_desc (aT-(m+1)) p (m+1) 0)).1 ((bE lt (kas_desc (aT-(m+1)) p (m+1) 0)).2.1-((bE lt (kas_desc (aT-(m+1)) p (m+1) 0)).2.2+1)) (bE lt (kas_desc (aT-(m+1)) p (m+1) 0)).2.1)else kas_tail3 (bE lt (kas_desc (aT-(m+1)) p (m+1) 0)).2.1 aT (bE lt (kas_desc (aT-(m+1)) p (m+1) 0)).1)).2:=by
  split
  ·exact IK h0 (b.pm h0 (q5 _ _ _)) _ _
  ·exact IK h0 b _ _
 exact⟨uY a key.1,by rw[pV];exact key.2⟩
theorem Y_(h0:0<n)(v:Vp n p)(aT:Nat):iL lt n (kas_count aT p)/\Vp n (bE lt (kas_count aT p)).2:=by
 unfold kas_count;have a:=DQ (lt:=lt) v (aT-1) 1;generalize kas_asc p (aT-1) 1=t at *
 generalize hm:bE lt t=m;have vr:Vp n (kas_rev p 0 m):=v.pm h0 (q5 _ _ _);have key:iL lt n (if(m==aT)=true then KasT.ret (m,p)else if m > 1 then KasT.ask (p.getD 0 0) (p.getD (m-1) 0) λc=>if c=true then KasT.ret (m,p)else kas_descPart m aT (kas_rev p 0 m)else kas_descPart m aT p)/\Vp n (bE lt (if(m==aT)=true then KasT.ret (m,p)else if m > 1 then KasT.ask (p.getD 0 0) (p.getD (m-1) 0) λc=>if c=true then KasT.ret (m,p)else kas_descPart m aT (kas_rev p 0 m)else kas_descPart m aT p)).2:=by
  split
  ·exact⟨trivial,v⟩
  ·split
   ·have k2:iL lt n (if lt (p.getD 0 0) (p.getD (m-1) 0)=true then KasT.ret (m,p)else kas_descPart m aT (kas_rev p 0 m))/\Vp n (bE lt (if lt (p.getD 0 0) (p.getD (m-1) 0)=true then KasT.ret (m,p)else kas_descPart m aT (kas_rev p 0 m))).2:=by
     split
     ·exact⟨trivial,v⟩
     ·exact IL h0 vr _ _
    exact⟨⟨v _,v _,k2.1⟩,k2.2⟩
   ·exact IL h0 v _ _
 rw[<- hm]at key;exact⟨uY a key.1,by rw[pV];exact key.2⟩
theorem DR(v:Vp n p)(k:Nat):∀ f l u,iL lt n (kas_place p k f l u)
 | 0,_,_=>trivial
 | f+1,l,u=>by
  show iL lt n (if l ≥ u then KasT.ret l else KasT.ask (p.getD k 0) (p.getD ((l+u) / 2) 0) λc=>if c=true then kas_place p k f l ((l+u) / 2)else kas_place p k f ((l+u) / 2+1) u);split
  ·trivial
  ·refine⟨v _,v _,?_⟩;show iL lt n (if lt (p.getD k 0) (p.getD ((l+u) / 2) 0)=true then kas_place p k f l ((l+u) / 2)else kas_place p k f ((l+u) / 2+1) u);split
   ·exact DR v k f _ _
   ·exact DR v k f _ _
theorem IM(h0:0<n):∀ (f:Nat) (p:Array Nat) (k:Nat),Vp n p->iL lt n (kas_bin f p k)
 | 0,_,_,_=>trivial
 | f+1,p,k,v=>uY (DR v k k 0 k) (IM h0 f _ _ (v.pm h0 (bubble_perm _ _ _)))
theorem Z_(h0:0<n):iL lt n (kas_sort n):=by
 have v:Vp n (List.toArray (range n)):=λk=>by
  rw[QP,Jp];by_cases c:k<n
  ·rw[Q9 c];exact c
  ·rw[QG (by rw[QI];omega)];exact h0
 unfold kas_sort;obtain⟨a,b⟩:=Y_ (lt:=lt) h0 v n;refine uY a ?_;split
 ·exact IM h0 _ _ _ b
 ·trivial
theorem IP{α:Type}{cmp:Nat->Nat->(Bool->Shared->Prop)->Shared->Prop}{s:Shared}{Q:α->Shared->Prop}(h:∀ i j C,i<n->j<n->C (lt i j) s->cmp i j C s):∀ {t:KasT α},iL lt n t->Q (bE lt t) s->t.kasWp cmp Q s
 | .ret _,_,q=>q
 | .ask i j k,o,q=>h i j _ o.1 o.2.1 (IP h o.2.2 q)
def dg:List Nat->Nat
 | []=>0
 | a::l=>a*1000 ^ l.length+dg l
def Lo (l:List Nat):Prop:=∀ d∈l,d<1000
theorem xi:∀ {l:List Nat},Lo l->dg l<1000 ^ l.length
 | [],_=>by decide
 | a::l,h=>by
  have i:=xi (l:=l) λd hd=>h d (Qf _ hd);have ha:=h a Qh;show a*1000 ^ l.length+dg l<1000 ^ (l.length+1);rw[Nat.pow_succ];have:a*1000 ^ l.length+1000 ^ l.length<=1000 ^ l.length*1000:=by rw[<- Y3,VS];exact Nat.mul_le_mul_left _ ha
  omega
theorem nC{a b p x y:Nat}(hx:x<p)(hy:y<p):a*p+x<b*p+y ↔ if a=b then x<y else a<b:=by
 by_cases c:a=b
 ·rw[Qi c,c];omega
 ·rw[Ql c];constructor
  ·intro h;by_cases z:a<b
   ·exact z
   ·have:(b+1)*p<=a*p:=Um _ (by omega);rw[Y3]at this;omega
  ·intro h;have:(a+1)*p<=b*p:=Um _ h;rw[Y3]at this;omega
theorem DS{a b:Nat}(hl:Lo l)(hm:Lo m)(e:l.length=m.length):dg (a::l)<dg (b::m) ↔ if a=b then dg l<dg m else a<b:=by have h1:=xi hl;have h2:=xi hm;show a*1000 ^ l.length+dg l<b*1000 ^ m.length+dg m ↔ _;rw[<- e]at h2 ⊢;exact nC h1 h2
abbrev kB (l:List Nat):Prop:=Lo l.tail
theorem Lo.t(h:Lo l):kB l:=λd hd=>h d (Uo hd)
theorem DT:∀ {l m:List Nat},kB l->kB m->l.length=m.length->dg l=dg m->l=m
 | [],[],_,_,_,_=>rfl
 | [],_::_,_,_,e,_=>nomatch e
 | _::_,[],_,_,e,_=>nomatch e
 | a::l,b::m,h1,h2,e,q=>by
  have e':l.length=m.length:=by simpa using e
  have l1:Lo l:=h1;have l2:Lo m:=h2;have c1:=DS (a:=a) (b:=b) l1 l2 e';have c2:=DS (a:=b) (b:=a) l2 l1 e'.symm;by_cases c:a=b
  ·subst c;rw[Qi rfl]at c1 c2;rw[DT l1.t l2.t e' (by omega)]
  ·rw[Ql c]at c1;rw[Ql (Zm c)]at c2;omega
theorem DU:∀ (l m:List Nat),dg (l++m)=dg l*1000 ^ m.length+dg m
 | [],m=>by show dg m=0*_+_;omega
 | a::l,m=>by show a*1000 ^ (l++m).length+dg (l++m)=(a*1000 ^ l.length+dg l)*_+_;rw[DU l m,Qn,Nat.pow_add,Nat.add_mul,Nat.mul_assoc,Nat.add_assoc]
abbrev fl:It->List Nat:=Sum.elim (λn=>[n]) id
def fU (k:Ky):List Nat:=k.flatMap fl
abbrev cZ (k:Ky):Int:=Int.ofNat (dg (fU k))
theorem DV{x:It}(h:sh x=sh y):(fl x).length=(fl y).length:=by rcases x with x|x<;>rcases y with y|y<;>first|rfl|cases h|exact JQ h
theorem IQ{x:It}(h:sh x=sh y)(e:fl x=fl y):x=y:=by
 rcases x with x|x<;>rcases y with y|y<;>first|cases h|skip
 ·injection e with e;rw[e]
 ·exact ZD _ e
theorem Aq:∀ {x y:Ky},x.map sh=y.map sh->(fU x).length=(fU y).length
 | [],[],_=>rfl
 | [],_::_,h=>nomatch h
 | _::_,[],h=>nomatch h
 | a::x,b::y,h=>by rw[Qx,Qx]at h;injection h with h1 h2;show(fl a++fU x).length=(fl b++fU y).length;rw[Qn,Qn,DV h1,Aq h2]
theorem Lo.app(h:Lo (l++m)):Lo l/\Lo m:=⟨λd hd=>h d (Q2 _ hd),λd hd=>h d (Qu _ hd)⟩
theorem z5j{a b:It}{y:Ky}(s1:sh a=sh b)(s2:x.map sh=y.map sh)(h1:kB (fl a)/\Lo (fU x))(h2:kB (fl b)/\Lo (fU y)):dg (fU (a::x))<dg (fU (b::y)) ↔ if a=b then dg (fU x)<dg (fU y)else dg (fl a)<dg (fl b):=by
 show dg (fl a++fU x)<dg (fl b++fU y) ↔ _;have t1:=xi h1.2;have t2:=xi h2.2;rw[DU,DU,<- Aq s2];rw[<- Aq s2]at t2;rw[nC t1 t2];by_cases c:a=b
 ·subst c;rw[Qi rfl,Qi rfl]
 ·rw[Ql c,Ql λz=>c (IQ s1 (DT h1.1 h2.1 (DV s1) z))]
theorem IS:∀ {x y:Ky},x.map sh=y.map sh->fU x=fU y->x=y
 | [],[],_,_=>rfl
 | [],_::_,h,_=>nomatch h
 | _::_,[],h,_=>nomatch h
 | a::x,b::y,h,e=>by rw[Qx,Qx]at h;injection h with h1 h2;obtain⟨e1,e2⟩:=List.append_inj (show fl a++fU x=fl b++fU y from e) (DV h1);rw[IQ h1 e1,IS h2 e2]
def Ok (x:Ky):Prop:=∀ k r,x=k::r->kB (fl k)/\Lo (fU r)
theorem Ok.of(h:Lo (fU x)):Ok x:=λk r e=>by subst e;have:=Lo.app (l:=fl k) (m:=fU r) h;exact⟨this.1.t,this.2⟩
theorem Ok.IU:∀ {x:Ky},Ok x->kB (fU x)
 | [],_=>λd hd=>nomatch hd
 | k::r,h=>λd hd=>by
  obtain⟨h1,h2⟩:=h k r rfl;have gP:d∈(fl k++fU r).tail:=hd;cases hk:fl k with
  | nil=>rw[hk]at gP;exact h2 d (Uo gP)
  | cons a l=>
   rw[hk]at gP h1;rcases QO.mp gP with z|z
   ·exact h1 d z
   ·exact h2 d z
theorem j20{y:Ky}(h:x.map sh=y.map sh)(hx:Ok x)(hy:Ok y)(e:cZ x=cZ y):x=y:=IS h (DT hx.IU hy.IU (Aq h) (ZQ e))
section
variable {prog:Program}{w:World}{A:Around}{E:Tl}{s:Shared}{σ:List Nat}
theorem j2l(b:Bool){x y:Int}{t u:Tok}(h:Q (decide (x<y)) s):wpAny (model prog w) A (oneLt' b (.int x t) (.int y u)) Q E s:=by
 cases b with
 | true=>exact oneLt_int h
 | false=>exact kat_one _ _ (PySem.P.lt_int h)
theorem z75{x y:List Nat}(hx:IsTupleKey (intKind prog w) s.heap (j9 x) a)(hy:IsTupleKey (intKind prog w) s.heap (j9 y) b)(e:x.length=y.length)(lx:kB x)(ly:kB y)(h:P (.done (.ret (.bool (decide (dg x<dg y))))) s) :
  wpAny (model prog w) A (Builtin.«tuple.__lt__» ⟨[.ref a,.ref b],[]⟩) P E s:=by
 have DB:=hy.typeIs;obtain⟨oa,xs,na,wX,_,wY,qX⟩:=hx;obtain⟨ob,ys,nb,wZ,_,kq,qY⟩:=hy;have w9:xs.size=ys.size:=by rw[<- QA,<- QA,<- qX.length,<- qY.length,Qc,Qc,e]
 show wpAny _ _ (isInstance (.ref b) (.type "tuple") >>= _) _ _ s;refine Qa (Z5 DB YF ?_);simp only[Zz,Qt,Zf];refine Qa (JM wX wY ?_);refine Qa (JM wZ kq ?_);refine Qa ?_;refine Z4 _
  (λbp r s'=>r.1=none/\s'=s/\∃ (x' y':List Nat) (pS pU:List Value),bp=List.zip pS pU/\ItemsAre (intKind prog w) (j9 x') pS/\ItemsAre (intKind prog w) (j9 y') pU/\x'.length=y'.length/\kB x'/\kB y'/\decide (dg x'<dg y')=decide (dg x<dg y))
  _ ?_ ?_ _ _ ⟨rfl,rfl,x,y,xs.toList,ys.toList,rfl,qX,qY,e,lx,ly,rfl⟩
 ·rintro ⟨u,v⟩ bp r s' ⟨hr,rfl,x',y',pS,pU,hz,fG,gu,e',l1,l2,ja⟩;cases x' with
  | nil=>cases fG;simp at hz
  | cons k1 uT=>
   cases y' with
   | nil=>cases e'
   | cons k2 uU=>
    cases fG with
    | cons h1 sY=>
     cases gu with
     | cons h2 ny=>
      simp only[JN,List.cons.injEq,Prod.mk.injEq]at hz;obtain⟨⟨rfl,rfl⟩,rfl⟩:=hz;obtain⟨t,rfl⟩:=Ju h1;obtain⟨t',rfl⟩:=Ju h2;have m1:Lo uT:=l1;have m2:Lo uU:=l2;have IW:uT.length=uU.length:=by simpa using e'
      have cc:=DS (a:=k1) (b:=k2) m1 m2 IW;refine Qa (VG ?_);by_cases hk:k1=k2
      ·subst hk;rw[Zy];simp only[Zz,Qt,Zf];rw[Qi rfl]at cc;exact Qe ⟨rfl,rfl,uT,uU,_,_,rfl,sY,ny,IW,m1.t,m2.t,(ZP.mpr cc).symm.trans ja⟩
      ·rw[ZV.mpr λz=>hk (ZQ z)];simp only[Yy,ZC];rw[Ql hk]at cc;have hf:decide (Int.ofNat k1<Int.ofNat k2)=decide (dg x<dg y):=by rw[<- ja];exact ZP.mpr (Iff.trans (by show((_:Nat):Int)<((_:Nat):Int) ↔ _;omega) cc.symm)
       refine Qa (Yg (Qa (show wpAny _ _ (richCompare .Lt _ _) _ _ _ from PySem.P.lt_int ?_)));rw[hf];exact Qa (Qe (Qe (Qe h)))
 ·rintro ⟨r1,r2⟩ s' ⟨hr,rfl,x',y',pS,pU,hz,fG,gu,e',l1,l2,ja⟩;simp only at hr;subst hr;refine Qe ?_;have sZ:decide (xs.size<ys.size)=decide (dg x<dg y):=by
   rw[<- ja,w9,Qy (QT _)];cases x' with
   | nil=>
    cases y' with
    | nil=>rfl
    | cons _ _=>cases e'
   | cons _ _=>
    cases y' with
    | nil=>cases e'
    | cons _ _=>cases fG;cases gu;simp at hz
  show P (.done (.ret (.bool (decide (xs.size<ys.size))))) s';rw[sZ];exact h
theorem j6v{x y:List Nat}(hu:A.units<cLine)(hx:IsTupleKey (intKind prog w) s.heap (j9 x) a)(hy:IsTupleKey (intKind prog w) s.heap (j9 y) b)(e:x.length=y.length)(lx:kB x)(ly:kB y)(h:Q (decide (dg x<dg y)) s) :
  wpAny (model prog w) A (oneLt' false (.ref a) (.ref b)) Q E s:=
 kat_one _ _ (show wpAny _ _ (richCompare .Lt _ _) _ _ _ from Y5 (op:=.Lt) hx.typeIs hy.typeIs Uc
   (QY Uc hx.typeIs PySem.F.entry_tuple_lt (z75 hx hy e lx ly ⟨_,rfl,(λe=>nomatch e),h⟩) (PySem.F.args_tuple_lt_2 _ _)) hu)
theorem j9u{x:It}{u v:Value}(hu:sh x≠0->A.units<cLine)(hx:mx prog w s.heap x u)(hy:mx prog w s.heap y v)(hs:sh x=sh y)(lx:kB (fl x))(ly:kB (fl y))(hf:sh x≠0->f=false)(h:Q (decide (dg (fl x)<dg (fl y))) s):wpAny (model prog w) A (oneLt' f u v) Q E s:=by
 rcases hx with⟨n,t,rfl,rfl⟩|⟨l,c,rfl,rfl,r⟩
 ·rcases hy with⟨m,t',rfl,rfl⟩|⟨l,c,rfl,rfl,r⟩
  ·refine j2l _ ?_;have e:decide (Int.ofNat n<Int.ofNat m)=decide (dg (fl (.inl n))<dg (fl (.inl m))):=ZP.mpr (by show((_:Nat):Int)<((_:Nat):Int) ↔ n*1+0<m*1+0;omega);rw[e];exact h
  ·cases hs
 ·rcases hy with⟨m,t',rfl,rfl⟩|⟨l',c',rfl,rfl,r'⟩
  ·cases hs
  ·rw[hf (JG _)];exact j6v (hu (JG _)) r r' (JQ hs) lx ly h
theorem j62{b:Bool}:∀ {x y:Ky} {vs us:List Value} (i:Nat),(∀ k∈x,sh k≠0->A.units<cLine)->iR prog w s.heap x vs->iR prog w s.heap y us->x.map sh=y.map sh->Ok x->Ok y->(∀ k r,i=0->x=k::r->sh k=0)->Q (decide (cZ x<cZ y)) s->KatLex prog w A b false Q (vs.zip us) i s:=by
 intro x;induction x with
 | nil=>
  intro y vs us i hu hx hy hs _ _ _ h;cases hx;cases y with
  | cons _ _=>cases hs
  | nil=>cases hy;exact kat_nil (by rwa [Qy (Int.lt_irrefl _)]at h)
 | cons k1 x ih=>
  intro y vs us i hu hx hy hs lx ly hf h;cases y with
  | nil=>cases hs
  | cons k2 y=>
   cases hx with
   | cons a1 x1=>
    cases hy with
    | cons b1 y1=>
     rw[Qx,Qx]at hs;injection hs with s1 s2;have lx:=lx k1 x rfl;have ly:=ly k2 y rfl;have fc:=z5j s1 s2 lx ly;have e:decide (cZ (k1::x)<cZ (k2::y))=decide (dg (fU (k1::x))<dg (fU (k2::y))):=ZP.mpr (by show((_:Nat):Int)<((_:Nat):Int) ↔ _;omega);refine kat_cons (Ip (hu k1 Qh) a1 b1 s1 ?_);by_cases c:k1=k2
     ·rw[Qi c]at fc;rw[Qr c];refine kat_yes (ih (i+1) (λk hk=>hu k (Qf _ hk)) x1 y1 s2 (Ok.of lx.2) (Ok.of ly.2) (λ_ _ z _=>absurd z (JG _)) ?_);have:decide (cZ x<cZ y)=decide (cZ (k1::x)<cZ (k2::y)):=by rw[e];exact ZP.mpr (Iff.trans (by show((_:Nat):Int)<((_:Nat):Int) ↔ _;omega) fc.symm)
      rw[this];exact h
     ·rw[Ql c]at fc;rw[Qy c];refine kat_no (j9u (hu k1 Qh) a1 b1 s1 lx.1 ly.1 (λz=>?_) ?_)
      ·by_cases i0:i=0
       ·exact absurd (hf k1 x i0 rfl) z
       ·rw[ZV.mpr i0,Vb]
      ·have:decide (dg (fl k1)<dg (fl k2))=decide (cZ (k1::x)<cZ (k2::y)):=by rw[e];exact ZP.mpr fc.symm
       rw[this];exact h
def tq (σ:List Nat):Prop:=σ.head? = some 0
theorem k0o{y:Ky}(hu:(∃ n∈σ,n≠0)->A.units<cLine)(h0:tq σ)(ka:dJ prog w σ s.heap x a)(kb:dJ prog w σ s.heap y b)(hx:Ok x)(hy:Ok y)(h:Q (decide (cZ x<cZ y)) s) :
  wpAny (model prog w) A (keyLt' (tuples' f) (.ref a) (.ref b)) Q E s:=by
 obtain⟨oa,xs,na,wX,_,wY,qX,sa⟩:=ka;obtain⟨ob,ys,nb,wZ,_,kq,qY,sb⟩:=kb;have len:∀ {k:Ky} {vs:List Value},iR prog w s.heap k vs->k.length=vs.length:=λq=>by
  induction q with
  | nil=>rfl
  | cons _ _ ih=>rw[Qz,Qz,ih]
 have w9:xs.size=ys.size:=by rw[<- QA,<- QA,<- len qX,<- len qY,<- Qc (f:=sh),sa,<- sb,Qc]
 refine kat_lt wX wY wZ kq ?_;rw[w9,Qy (QT _)];refine j62 0 (λk hk z=>hu ⟨sh k,by rw[<- sa];exact ZH hk,z⟩) qX qY (sa.trans sb.symm) hx hy (λk r _ e=>?_) h;subst e;rw[<- sa]at h0;exact QL h0
def kC (prog:Program)(w:World)(σ:List Nat)(h:Heap)(vs:List Value)(ks:List Ky):Prop:=vs.length=ks.length/\∀ (i:Nat) (x:Ky),ks[i]? = some x->∃ a,vs[i]? = some (.ref a)/\dJ prog w σ h x a
theorem kC.keep(P:kC prog w σ h vs ks)(q:qW h h'):kC prog w σ h' vs ks:=⟨P.1,λi x e=>by obtain⟨a,e1,k⟩:=P.2 i x e;exact⟨a,e1,k.keep q⟩⟩
theorem dJ.first(h0:tq σ)(k:dJ prog w σ h x a):∃ o xs n i t,h.get? a=some o/\o.cls=.type "tuple" /\ o.data=.seq xs n/\xs[0]? = some (.int i t):=by
 obtain⟨o,xs,n,ho,hc,hd,hi,hs⟩:=k;cases hx:x with
 | nil=>rw[hx]at hs;rw[<- hs]at h0;cases h0
 | cons k r=>
  rw[hx]at hi hs;generalize hv:xs.toList=vs at hi;cases hi with
  | cons h1 _=>
   rw[<- hs]at h0;rcases h1 with⟨n',t,rfl,rfl⟩|⟨l,c,rfl,rfl,_⟩
   ·exact⟨o,xs,n,_,t,ho,hc,hd,by rw[<- Zd,hv];rfl⟩
   ·exact absurd (QL h0) (JG _)
theorem kC.firsts(h0:tq σ):∀ {h:Heap} {vs:List Value} {ks:List Ky},kC prog w σ h vs ks->∃ fs:List Value,KatTups h vs fs/\fs.length=ks.length/\∀ v∈fs,∃ i t,v=.int i t
 | h,[],[],_=>⟨[],.nil,rfl,λv hv=>(Qw hv).elim⟩
 | h,[],_::_,P=>nomatch P.1
 | h,_::_,[],P=>nomatch P.1
 | h,v::vs,x::ks,P=>by
  obtain⟨fs,t1,t2,t3⟩:=kC.firsts h0 (vs:=vs) (ks:=ks) (h:=h) ⟨by simpa using P.1,λi y e=>P.2 (i+1) y (by rw[Zl];exact e)⟩;obtain⟨a,e,k⟩:=P.2 0 x rfl;have ev:v=.ref a:=by simpa using e
  subst ev;obtain⟨o,xs,n,i,t,ho,hc,hd,hf⟩:=k.first h0;refine⟨.int i t::fs,.cons ho hc hd hf t1,by rw[Qz,Qz,t2],λv hv=>?_⟩;rcases Qs.mp hv with rfl|hv
  ·exact⟨_,_,rfl⟩
  ·exact t3 v hv
theorem j3s{κb:Bool}{G:Array Nat->Shared->Prop}(hu:(∃ n∈σ,n≠0)->A.units<cLine)(h0:tq σ)(P:kC prog w σ s.heap vs ks)(hb:∀ x∈ks,Ok x)(h1:1<=vs.length)
  (hG:∀ p:Array Nat,p.Perm (List.toArray (range vs.length))->(∀ i j,i<=j->j<vs.length->cZ (ks.getD (p.getD i 0) [])<=cZ (ks.getD (p.getD j 0) []))->G p s) :
  (kas_sort vs.length).kasWp (kas_ask prog w A (tuples' κb) vs) G s:=by
 have so:=X_ (r:=λi=>cZ (ks.getD i [])) h1;refine IP (lt:=df λi=>cZ (ks.getD i [])) (n:=vs.length) (λi j C hi hj hC=>?_) (Z_ h1) (hG _ so.1 so.2);have gi:ks[i]? = some (ks.getD i []):=by rw[Qg,Qb (by rw[<- P.1];exact hi)];rfl
 have gj:ks[j]? = some (ks.getD j []):=by rw[Qg,Qb (by rw[<- P.1];exact hj)];rfl
 obtain⟨a,e1,k1⟩:=P.2 i _ gi;obtain⟨b,e2,k2⟩:=P.2 j _ gj;unfold kas_ask;rw[Qg,Qg,e1,e2];exact k0o hu h0 k1 k2 (hb _ (QK gi)) (hb _ (QK gj)) hC
theorem j3d(P:kC prog w σ h vs ks)(pm:p.Perm (List.toArray (range vs.length))):kC prog w σ h (p.toList.map λi=>vs.getD i Value.none) (p.toList.map λi=>ks.getD i [])/\(p.toList.map λi=>ks.getD i []).Perm ks:=by
 have pl:p.toList.Perm (range vs.length):=by have:=Vj.mp pm;exact this
 refine⟨⟨by rw[Qc,Qc],λi x e=>?_⟩,?_⟩
 ·rw[Qm,QC]at e;obtain⟨k,q1,q2⟩:=e;have hk:k<vs.length:=Qv.mp (pl.mem_iff.mp (QK q1));have gk:ks[k]? = some x:=by rw[<- q2,Qg,Qb (by rw[<- P.1];exact hk)];rfl
  obtain⟨a,e1,k1⟩:=P.2 k x gk;refine⟨a,?_,k1⟩;rw[Qm,q1];show some (vs.getD k Value.none)=_;rw[Qg,e1];rfl
 ·exact nE [] (by rw[<- P.1];exact pl)
where
 nE {α:Type} {l:List α} {od:List Nat} (d:α) (h:od.Perm (range l.length)):(od.map λk=>l.getD k d).Perm l:=by
  have h1:=h.map λk=>l.getD k d;have h2:(range l.length).map (λk=>l.getD k d)=l:=by
   apply Zo;intro i;by_cases hi:i<l.length
   ·rw[Qm,Q9 hi,Qb hi];show some (l.getD i d)=_;rw[Qg,Qb hi];rfl
   ·rw[QG (by rw[Qc,QI];omega),QG (by omega)]
  rw[h2]at h1;exact h1
theorem IX{n:Nat}(hu:(∃ n∈σ,n≠0)->A.units<cLine)(h0:tq σ)(ho:s.heap.get? a=some (seqObj "list" vs.toArray n))(T:kC prog w σ s.heap vs ks)(hb:∀ x∈ks,Ok x)(q8:vs.length<64)
  (h:∀ (out:List Value) (cY:List Ky),kC prog w σ s.heap out cY->(∀ v∈out,v∈vs)->cY.Perm ks->(∀ i j,i<=j->j<cY.length->cZ (cY.getD i [])<=cZ (cY.getD j []))->P (.done (.ret .none)) { s with heap:=sortedHeap s.heap a vs out.toArray }) :
  wpAny (model prog w) A (Builtin.«list.sort» ⟨[.ref a],[]⟩) P E s:=by
 have al:=Qq ho;have IY:vs.toArray.size=vs.length:=Qo ..;rw[list_sort_plain];refine Qa (listItems_at ho rfl (Qa (listUpdate_at ho rfl ?s1 (by rw[IY,Jv];omega) (Q6 _))))
 case s1=>
 obtain⟨e1,g1⟩:∃ e1,(s.heap.update a (Obj.mapSeq λ_=>(#[]:Array Value))).get? a=some (seqObj "list" #[] e1):=⟨_,Jt ho λ_=>#[]⟩;refine Qa (seqEpoch_at g1 rfl (Qa (wpAny_newTuple (Qa (VF (Zc ?s2) (Q6 _))) (by show vs.length<=_;rw[Jv];omega))))
 case s2=>
 show wpAny (model prog w) A _ P E { s with heap:=((s.heap.update a (Obj.mapSeq λ_=>(#[]:Array Value))).push (seqObj "tuple" vs.toArray 0)).push (seqObj "list" #[] 0) };have g2:(((s.heap.update a (Obj.mapSeq λ_=>(#[]:Array Value))).push (seqObj "tuple" vs.toArray 0)).push (seqObj "list" #[] 0)).get? a=some (seqObj "list" #[] e1):=Qd _ (Qd _ g1);have T2:kC prog w σ (((s.heap.update a (Obj.mapSeq λ_=>(#[]:Array Value))).push (seqObj "tuple" vs.toArray 0)).push (seqObj "list" #[] 0)) vs ks:=T.keep λb o _ _ q c _=>by
  have ne:b≠a:=λz=>by rw[z,ho]at q;cases q;have c':Value.type "list" = Value.type "tuple":=c;injection c' with c'';exact absurd c'' (by decide)
  exact Qd _ (Qd _ ((ZS _ _ (Zm ne)).trans q))
 generalize hh:((s.heap.update a (Obj.mapSeq λ_=>(#[]:Array Value))).push (seqObj "tuple" vs.toArray 0)).push (seqObj "list" #[] 0)=h2 at *
 have fin:∀ out:List Value,{ s with heap:=h2.update a (Obj.mapSeq λ_=>out.toArray) }={ s with heap:=sortedHeap s.heap a vs out.toArray }:=λout=>by rw[<- hh];rfl
 dsimp only;by_cases c2:vs.toArray.size<2
 ·rw[Qi c2,Qi c2];refine Qa (Qe ?_);rw[StateT.run_pure];refine Qa (Qe ?_);dsimp only;have o1:(arrOf (SortSt.mk' general' (vs.toArray.zip vs.toArray) #[] 7 none)).map (·.2)=vs.toArray:=by show(vs.toArray.zip vs.toArray).map (·.2)=vs.toArray;apply Array.ext';rw[Array.toList_map,Array.toList_zip];exact List.map_snd_zip (Qj _)
  rw[o1];refine Qa (seqEpoch_at (s:={ s with heap:=h2 }) g2 rfl (Qa (listUpdate_at (s:={ s with heap:=h2 }) g2 rfl ?t1 (Q6 _) (by rw[IY,Jv];omega))))
  case t1=>
  simp only[Yz,Qt,Zf];refine Qe ?_;have r:=h vs ks T (λ_ z=>z) (Uq _) λi j a b=>by
   have:i=j:=by rw[<- T.1]at b;omega
   rw[this];exact YN _
  rw[<- fin]at r;exact r
 ·rw[Ql c2,Ql c2];have v1:2<=vs.length:=by omega
  obtain⟨fs,t1,t2,t3⟩:=T2.firsts h0;refine Qa (kat_kind (s:={ s with heap:=h2 }) (T:=.type "int") t1 (by rw[t2,<- T.1];omega) (λv hv=>?k1) (by decide) ?k2)
  case k1=>
   obtain⟨i,t,rfl⟩:=t3 v hv;exact .now
  case k2=>
  refine Qa (ZR (kat_run (s:={ s with heap:=h2 }) (Q:=λlF s'=>s'={ s with heap:=h2 }/\∃ p:Array Nat,p.size=vs.length/\arrOf lF=p.map (kas_item (vs.toArray.zip vs.toArray))/\failedOf lF=none/\p.Perm (List.toArray (range vs.length))/\∀ i j,i<=j->j<vs.length->cZ (ks.getD (p.getD i 0) [])<=cZ (ks.getD (p.getD j 0) []))
   (G:=λp s'=>s'={ s with heap:=h2 }/\p.Perm (List.toArray (range vs.length))/\∀ i j,i<=j->j<vs.length->cZ (ks.getD (p.getD i 0) [])<=cZ (ks.getD (p.getD j 0) []))
   rfl v1 q8 (λp lF s' a1 a2 a3 a4=>⟨a4.1,p,a1,a2,a3,a4.2.1,a4.2.2⟩) (j3s hu h0 T2 hb (by omega) λp a1 a2=>⟨rfl,a1,a2⟩)) ?k3 λ_ _ e=>e)
  case k3=>
  rintro ⟨⟨⟩,lF⟩ s' ⟨rfl,p,ps,ar,hf,pm,so⟩;dsimp only;have o1:=kat_snds rfl ar;rw[o1];have ol:(p.toList.map λi=>vs.getD i Value.none).length=vs.length:=by rw[Qc,QA,ps]
  refine Qa (seqEpoch_at (s:={ s with heap:=h2 }) g2 rfl (Qa (listUpdate_at (s:={ s with heap:=h2 }) g2 rfl ?t2 (Q6 _) (by rw[Qo,ol,Jv];omega))))
  case t2=>
  rw[hf];simp only[Yz,Qt,Zf];refine Qe ?_;obtain⟨q1,q2⟩:=j3d T pm;have r:=h _ _ q1 (λv hv=>by
   obtain⟨k,hk,rfl⟩:=Qk.mp hv;have qT:k<vs.length:=Qv.mp ((Vj.mp pm).mem_iff.mp hk);rw[Qg,Qb qT];exact QW qT) q2 λi j a b=>by
   rw[Qc,QA,ps]at b;have g:∀ i,i<vs.length->(p.toList.map λk=>ks.getD k []).getD i []=ks.getD (p.getD i 0) []:=λi hi=>by rw[Qg,Qm,Qb (by rw[QA,ps];exact hi),QP,Zn (by rw[ps];exact hi)];rfl
   rw[g i (by omega),g j b];exact so i j a b
  rw[<- fin]at r;exact r
abbrev xj (x:Nat×Nat):List Int:=[Int.ofNat x.1,Int.ofNat x.2]
abbrev kc (x:Nat×Nat):Ky:=[.inl x.1,.inl x.2]
abbrev rk (x:Nat×Nat):Int:=Int.ofNat (x.1*1000+x.2)
theorem IZ(x:Nat×Nat):cZ (kc x)=rk x:=by show Int.ofNat (x.1*1000+(x.2*1+0))=Int.ofNat (x.1*1000+x.2);rw[Nat.mul_one];rfl
theorem j2w{x y:Nat×Nat}(h:kc x=kc y):x=y:=by injection h with h1 h2;injection h2 with h2 _;exact Ue (YJ h1) (YJ h2)
theorem I0{x:Nat×Nat}:IsTupleKey (intKind prog w) h (xj x) a ↔ dJ prog w [0,0] h (kc x) a:=by
 constructor
 ·rintro ⟨o,items,n,ho,hc,hd,hi⟩;refine⟨o,items,n,ho,hc,hd,?_,rfl⟩;generalize items.toList=vs at hi;cases hi with
  | cons h1 r=>
   cases r with
   | cons h2 r2=>
    cases r2;obtain⟨t,rfl⟩:=Ju h1;obtain⟨u,rfl⟩:=Ju h2;exact .cons (.inl ⟨_,_,rfl,rfl⟩) (.cons (.inl ⟨_,_,rfl,rfl⟩) .nil)
 ·rintro ⟨o,items,n,ho,hc,hd,hi,_⟩;refine⟨o,items,n,ho,hc,hd,?_⟩;generalize items.toList=vs at hi;cases hi with
  | cons h1 r=>
   cases r with
   | cons h2 r2=>
    cases r2;rcases h1 with⟨i,t,e,rfl⟩|⟨_,_,e,_⟩<;>cases e;rcases h2 with⟨i,t,e,rfl⟩|⟨_,_,e,_⟩<;>cases e;exact .cons (VZ _ _ _ _) (.cons (VZ _ _ _ _) .nil)
def oJ (prog:Program)(w:World)(h:Heap)(vs:List Value)(ks:List (Nat×Nat)):Prop:=vs.length=ks.length/\∀ (i:Nat) (x:Nat×Nat),ks[i]? = some x->∃ a,vs[i]? = some (.ref a)/\IsTupleKey (intKind prog w) h (xj x) a
theorem oJ.keep{ks:List (Nat×Nat)}(P:oJ prog w h vs ks)(q:∀ b o,h.get? b=some o->o.cls=.type "tuple"->h'.get? b=some o):oJ prog w h' vs ks:=⟨P.1,λi x e=>by obtain⟨a,e1,k⟩:=P.2 i x e;exact⟨a,e1,Ik (λb o _ _ ho hc _=>q b o ho hc) k⟩⟩
theorem I9{ks:List (Nat×Nat)}{n:Nat}(ho:s.heap.get? a=some (seqObj "list" vs.toArray n))(T:oJ prog w s.heap vs ks)(hb:∀ x∈ks,x.2<1000)(q8:vs.length<64)
  (h:∀ (out:List Value) (cY:List (Nat×Nat)),oJ prog w s.heap out cY->(∀ v∈out,v∈vs)->cY.Perm ks->(∀ i j,i<=j->j<cY.length->rk (cY.getD i (0,0))<=rk (cY.getD j (0,0)))->P (.done (.ret .none)) { s with heap:=sortedHeap s.heap a vs out.toArray }) :
  wpAny (model prog w) A (Builtin.«list.sort» ⟨[.ref a],[]⟩) P E s:=by
 refine IX (σ:=[0,0]) (ks:=ks.map kc) (λ⟨n,hn,ne⟩=>by rcases Qs.mp hn with rfl|hn<;>first|exact absurd rfl ne|exact absurd (QF.mp hn) ne) rfl ho ⟨by rw[Qc];exact T.1,λi x e=>?_⟩ (λx hx=>?_) q8 λout cY o1 o2 o3 o4=>?_
 ·rw[Qm,QC]at e;obtain⟨y,q,rfl⟩:=e;obtain⟨a,e1,k⟩:=T.2 i y q;exact⟨a,e1,I0.mp k⟩
 ·obtain⟨y,hy,rfl⟩:=Qk.mp hx;rintro k r e;cases e;exact⟨λd hd=>(Qw hd).elim,λd hd=>by rw[QF.mp hd];exact hb y hy⟩
 ·obtain⟨kp,pm,e⟩:=HN (f:=kc) o3 rfl;subst e;refine h out kp ⟨by rw[o1.1,Qc],λi x q=>?_⟩ o2 pm λi j l1 l2=>?_
  ·obtain⟨a,e1,k⟩:=o1.2 i (kc x) (by rw[Qm,q];rfl);exact⟨a,e1,I0.mpr k⟩
  ·have:=o4 i j l1 (by rw[Qc];exact l2);have g:∀ i,i<kp.length->(kp.map kc).getD i []=kc (kp.getD i (0,0)):=λi hi=>by rw[Qg,Qm,Qb hi,Qg,Qb hi];rfl
   rw[g i (by omega),g j l2,IZ,IZ]at this;exact this
end
end L3
namespace L3
open PySem PySem.Spec PyProof.Rows PySem.W L2
variable {F:List Addr}{H H':Hp}{K:PySem.W.Frag}{Q:Option Value->Shared->Prop}{X:Cx}{a b:Addr}{d x:D}{ds:List D}{ep i q:Nat}{es:Array (Int×Value)}{h:Heap}{kl ks:List Ky}{kp:List (Nat×Nat)}{o o':Ow}{Tk:List (Addr×Obj)}{r:D×Nat×aW}{s:Shared}{u v:V}{vs:List V}{w w':Wn}{y:Nat×Nat}{z:HO}{ρ:aW}{σ:St}
section
variable {prog:Program}{w:World}{A:Around}{E:Tl}{s:Shared}{σ:List Nat}
theorem z9s{t:SetTable}{bs:List Addr}{vs:List Value}(S:cJ prog w σ h es t kl bs)(hl:vs.length=es.size)
  (hv:∀ (j:Nat) (v:Value),vs[j]? = some v->∃ e,(j_ w a es ep)[j]? = some e/\v=e.2):∃ ks:List Ky,kC prog w σ h vs ks/\ks.Perm kl/\∀ v∈vs,∃ b∈bs,v=.ref b:=by
 have e:vs=(j_ w a es ep).toList.map (·.2):=by
  apply Zo;intro j;have et:(j_ w a es ep).toList[j]? = (j_ w a es ep)[j]?:=Zd;rw[Qm,et];rcases Nat.lt_or_ge j vs.length with l|l
  ·obtain⟨x,h1,h2⟩:=hv j _ (Qb l);rw[h1,Qb l,h2];rfl
  ·rw[QG l,JP (by rw[An];omega)];rfl
 have pm:(j_ w a es ep).toList.Perm ((kl.zip bs).map λx=>(dm prog w x.1,Value.ref x.2)):=by refine(IF w a es ep).trans ?_;rw[S.es]
 obtain⟨zs,zp,ze⟩:=HN (f:=λx:Ky×Addr=>(dm prog w x.1,Value.ref x.2)) pm rfl;have len:=S.len;refine⟨zs.map (·.1),⟨by rw[e,ze,Qc,Qc,Qc],λi x q=>?_⟩,?_⟩
 ·rw[Qm,QC]at q;obtain⟨y,q1,rfl⟩:=q;refine⟨y.2,?_,?_⟩
  ·rw[e,ze,Qm,Qm,q1];rfl
  ·obtain⟨i',bS,qi⟩:=Zg (zp.mem_iff.mp (QK q1));have q2:(kl.zip bs)[i']? = some y:=by rw[Qb bS,qi]
   rw[List.zip,YG]at q2;cases k1:kl[i']? with
   | none=>rw[k1]at q2;cases q2
   | some u=>
    cases k2:bs[i']? with
    | none=>rw[k1,k2]at q2;cases q2
    | some v=>
     rw[k1,k2]at q2;cases q2;exact S.is i' u v k1 k2
 ·refine⟨(zp.map (·.1)).trans ?_,λv hv=>?_⟩
  ·rw[List.map_fst_zip (by omega)]
  ·rw[e,ze]at hv;obtain⟨y,hy,rfl⟩:=Qk.mp hv;obtain⟨x,hx,rfl⟩:=Qk.mp hy;exact⟨x.2,(YR (zp.mem_iff.mp hx)).2,rfl⟩
theorem j2r{t:SetTable}{bs:List Addr}{Q:Tl}(hh:A.handled=none)(hu:A.units+2<cLine)(h0:tq σ)(ho:s.heap.get? a=some (nB es ep t))(So:s9 prog w σ s.heap (nB es ep t) ep (!gL w) kl es t bs)(hb:∀ x∈kl,Ok x)(iE:kl.length<64)
  (h:∀ (h1:Heap) (h':Heap) (tk:Nat) (us:List Value) (ks:List Ky) (c:Nat),(∀ b o,s.heap.get? b=some o->h1.get? b=some o)->(∀ b o,s.heap.get? b=some o->h'.get? b=some o)->kC prog w σ s.heap us ks->(∀ v∈us,∃ b∈bs,v=.ref b)->ks.Perm kl->(∀ i j,i<=j->j<ks.length->cZ (ks.getD i [])<=cZ (ks.getD j []))->
    h'.get? h1.objs.size=some { cls:=.type "list",data:=.seq us.toArray c }->Q (.ref h1.objs.size) { s with heap:=h',toks:=tk }) :
  wpAny (model prog w) A (call (.builtin "sorted") [.ref a]) Q E s:=by
 have gd:=So.gd;have sz:es.size=kl.length:=So.S.size;refine J7 kind_sorted plain_sorted entry_sorted (args_sorted1 _) ?_;unfold Builtin.«sorted»;refine Qa (m:=checkCount "sorted" 1 1 _) (Qe (Qa (kdu_collect (A:=A.in1) (X6 gd) hh ho (YA (by omega)) λh' tk acc hk cV=>?c1)))
 case c1=>
 have hl:acc.toList.length=es.size:=by rw[QA];exact cV.1
 refine Qa (VF ?c2 (by rw[hl];exact YA (by omega)))
 case c2=>
 obtain⟨ks,T,pm,mb⟩:=z9s (a:=a) (ep:=ep) So.S hl (λj v e=>cV.2 j v (by rw[<- Zd];exact e));have T1:kC prog w σ (h'.push (seqObj "list" acc.toList.toArray 0)) acc.toList ks:=T.keep λb o _ _ q _ _=>Qd _ (hk b o q);have oL:(h'.push (seqObj "list" acc.toList.toArray 0)).get? h'.objs.size=some (seqObj "list" acc.toList.toArray 0):=Qp _ rfl;refine Qa (Zc (QY slot_list_sort ⟨_,oL,rfl⟩ entry_list_sort (IX (λ_=>by show A.units+1+1<cLine;exact hu) h0 oL T1 (λx hx=>hb x (pm.mem_iff.mp hx)) (by rw[hl,sz];exact iE) λout cY o1 om o2 o3=>⟨_,rfl,?c3⟩) (args_list_sort _)))
 case c3=>
 refine Qe ⟨_,rfl,?c4⟩
 case c4=>
 have ne:∀ b o,s.heap.get? b=some o->b≠h'.objs.size:=λb o e=>Q4 (Qq (hk b o e));have up:∀ (G:Heap) (f:Array Value->Array Value),(∀ b o,s.heap.get? b=some o->G.get? b=some o)->∀ b o,s.heap.get? b=some o->(G.update h'.objs.size (Obj.mapSeq f)).get? b=some o:=
  λG f q b o e=>(ZS _ _ (Zm (ne b o e))).trans (q b o e)
 unfold sortedHeap;have g1:=Jt oL (λ_=>(#[]:Array Value));have g4:=Jt (Qd (seqObj "list" #[] 0) (Qd (seqObj "tuple" acc.toList.toArray 0) g1)) (λ_=>out.toArray);refine h h' _ _ out cY _ hk ?c5 ?c6 (λv hv=>mb v (om v hv)) (o2.trans pm) o3 g4
 case c5=>exact up _ _ λb o e=>Qd _ (Qd _ (up _ _ (λb o e=>Qd _ (hk b o e)) b o e))
 case c6=>
  refine⟨o1.1,λi x q=>?_⟩;obtain⟨b,e1,k1⟩:=o1.2 i x q;obtain⟨j,hj,qj⟩:=Zg (om _ (QK e1));have gj:ks[j]? = some (ks[j]'(by rw[<- T.1];exact hj)):=Qb _;obtain⟨b',e2,k2⟩:=T.2 j _ gj;rw[Qb hj,qj]at e2;cases e2;obtain⟨b2,e3,k3⟩:=T1.2 j _ gj;rw[Qb hj,qj]at e3;cases e3;have:=k3.inj k1;rw[this]at k2;exact⟨b,e1,k2⟩
end
theorem I_:∀ {du:List Addr} {us:List Value},bc (du.map V.ref) us->us=du.map Value.ref
 | [],_,r=>by cases r;rfl
 | a::du,_,r=>by
  cases r with
  | cons h t=>
   cases h;rw[I_ t];rfl
theorem Ar:∀ (du:List Addr),bc (du.map V.ref) (du.map Value.ref)
 | []=>.nil
 | a::du=>.cons rfl (Ar du)
theorem j4d{bs:List Addr}:∀ (l:List Value),(∀ v∈l,∃ b∈bs,v=.ref b)->∃ cs:List Addr,l=cs.map Value.ref:=by
 intro l;induction l with
 | nil=>intro _;exact⟨[],rfl⟩
 | cons v l ih=>
  intro h;obtain⟨cs,e⟩:=ih λw hw=>h w (Qf _ hw);obtain⟨b,_,rfl⟩:=h v Qh;exact⟨b::cs,by rw[e];rfl⟩
def S9 (prog:Program)(w:World)(a:Addr)(kl:List Ky)(bs:List Addr):Heap->Prop:=λh=>∃ es ep t,h.get? a=some (nB es ep t)/\es.toList=(kl.zip bs).map (λx=>(dm prog w x.1,Value.ref x.2))/\kl.length=bs.length/\gr t (kl.map (dm prog w))/\kl.Nodup/\t.plain=true/\t.led = !gL w/\kl.length*5<t.mask*3
def ItH (H:Hp)(k:It)(v:V):Prop:=(∃ n,k=.inl n/\v=.int (Int.ofNat n))\/∃ l c,k=.inr l/\v=.ref c/\H c=some (.tup ((j9 l).map V.int))
inductive nF (H:Hp):Ky->List V->Prop
 | nil:nF H [] []
 | cons {k:It} {v:V} {ks:Ky} {vs:List V}:ItH H k v->nF H ks vs->nF H (k::ks) (v::vs)
def J_ (H:Hp)(k:Ky)(b:Addr):Prop:=∃ vs,H b=some (.tup vs)/\nF H k vs
def pX (H:Hp)(ks:List Ky)(du:List Addr):Prop:=ks.length=du.length/\∀ (i:Nat) (x:Ky) (b:Addr),ks[i]? = some x->du[i]? = some b->J_ H x b
theorem pX.up{du:List Addr}(h:pX H ks du)(up:∀ b o,H b=some o->H' b=some o):pX H' ks du:=by
 refine⟨h.1,λi x b e1 e2=>?_⟩;obtain⟨vs,q,r⟩:=h.2 i x b e1 e2;refine⟨vs,up _ _ q,?_⟩;clear q e1;induction r with
 | nil=>exact .nil
 | cons a _ ih=>exact .cons (a.imp id λ⟨l,c,x,y,z⟩=>⟨l,c,x,y,up _ _ z⟩) ih
section
variable {X:Cx}{a:Expr}{fa:aF}{p p2 pos nG:Pos}{Tk:List (Addr×Obj)}{σ:St}{H:Hp}{s:Shared}
theorem Ka{X:Cx}:∀ {l:List Int} {us:List Value},bc (l.map V.int) us->ItemsAre (intKind X.prog X.w) l us
 | [],_,r=>by cases r;exact .nil
 | a::du,_,r=>by
  cases r with
  | cons h t=>
   obtain⟨t',rfl⟩:=h;exact .cons (VZ _ _ _ _) (Ka t)
theorem Kb{l:List Int}(I:Inv X Tk σ H s)(h:cG X.K H b (l.map V.int)):IsTupleKey (intKind X.prog X.w) s.heap l b:=by obtain⟨aq,r,⟨o,ho,hc,n,hd⟩,_⟩:=I.tuple h;exact⟨o,aq.toArray,n,ho,hc,hd,Ka r⟩
theorem Kc{x:Ky}(I:Inv X Tk σ H s)(h:J_ H x b):dJ X.prog X.w (x.map sh) s.heap x b:=by
 obtain⟨vs,hb,hv⟩:=h;obtain⟨aq,r,⟨o,ho,hc,n,hd⟩,hz⟩:=I.tuple (show cG X.K H b vs from .inl (.inl hb));refine⟨o,aq.toArray,n,ho,hc,hd,?_,rfl⟩;clear hb ho hd hc hz;show iR _ _ _ x aq;induction hv generalizing aq with
 | nil=>cases r;exact .nil
 | cons a _ ih=>
  cases r with
  | cons h1 r1=>
   refine .cons ?_ (ih _ r1);rcases a with⟨m,rfl,rfl⟩|⟨l,c,rfl,rfl,q⟩
   ·obtain⟨t,rfl⟩:=h1;exact .inl ⟨_,_,rfl,rfl⟩
   ·cases h1;exact .inr ⟨_,_,rfl,rfl,Kb I (.inl (.inl q))⟩
theorem z4q(hc:X.calm=true)(hu:X.A.units+4<cLine):kO X (.type "set") (λxs H Q=>∃ b t ks du τ,xs=[.ref t]/\oD b X.K H t (du.map V.ref)/\pX H ks du/\(∀ x∈ks,x.map sh=τ)/\ks.length<=100 /\
  ∀ p kl bs,H p=none->kl.Nodup->(∀ x,x∈kl ↔ x∈ks)->pX H kl bs->Q (.ref p) (upd H p (.ext (S9 X.prog X.w p kl bs)))):=by
 intro Tk s σ H xs us Q I r hh;obtain⟨b,t,ks,du,τ,rfl,hq,⟨len,tu⟩,me,tm,q⟩:=hh;obtain⟨u,rfl,ru⟩:=mM r;cases ru;obtain⟨aq,rv,pl⟩:=zY I hq;have ei:=I_ rv;subst ei;have gk:∀ i,i<ks.length->ks[i]? = some (ks.getD i [])/\du[i]? = some (du.getD i 0):=λi hi=>by
  refine⟨?_,?_⟩
  ·rw[Qg,Qb hi];rfl
  ·rw[Qg,Qb (by rw[<- len];exact hi)];rfl
 have key:∀ i,i<ks.length->dJ X.prog X.w τ s.heap (ks.getD i []) (du.getD i 0):=λi hi=>by
  have:=Kc I (tu i _ _ (gk i hi).1 (gk i hi).2)
  rwa [me _ (QK (gk i hi).1)]at this
 refine XS (σ:=τ) (ks:=ks) (ad:=λi=>du.getD i 0) (I.ok.hd hc) (by show X.A.units+1+1+1+1<cLine;omega) pl (by rw[Qc,len]) (λi v e=>?z1) key tm λh' tk kl hS mm q9=>?z3
 case z1=>
  rw[Qm,QC]at e;obtain⟨b,e1,rfl⟩:=e;show Value.ref b=.ref (du.getD i 0);rw[Qg,e1];rfl
 case z3=>
  obtain⟨es,ep,t',bs,g,⟨d,S,w_,ld,rm⟩,hb⟩:=hS;refine⟨.ref s.heap.objs.size,_,I.laid (o:=.ext (S9 X.prog X.w s.heap.objs.size kl bs)) (h':=h') (t':=tk) (λb o e=>q9 b o (Qq e) e) (Qj _) ⟨⟨es,ep,t',g,S.es,S.len,S.tb,S.nd,w_,ld,rm⟩,⟨_,g⟩,λh1 h2 ⟨es,ep,t,e,r⟩ k=>⟨es,ep,t,k _ e,r⟩⟩,rfl,q _ _ _ (I.aG.fresh (Qj _)) S.nd (λx=>?z5) ⟨S.len,λi x b e1 e2=>?z6⟩⟩
  case z5=>
   rw[mm x];constructor
   ·rintro ⟨j,hj,rfl⟩;exact QK (gk j hj).1
   ·intro hx;obtain⟨j,hj,e⟩:=Zg hx;exact⟨j,hj,by rw[Qg,Qb hj,e];rfl⟩
  case z6=>
   have kb:=S.is i x b e1 e2;obtain⟨j,hj,rfl⟩:=hb b (QK e2);have k2:=(key j hj).keep (h':=h') λb o _ _ ho _ _=>q9 b o (Qq ho) ho;rw[kb.inj k2];exact tu j _ _ (gk j hj).1 (gk j hj).2
theorem z2e(hc:X.calm=true)(hu:X.A.units+2<cLine):kO X (.builtin "sorted") (λxs H Q=>∃ t kl bs τ,xs=[.ref t]/\H t=some (.ext (S9 X.prog X.w t kl bs))/\pX H kl bs/\(∀ x∈kl,x.map sh=τ/\Ok x)/\tq τ/\kl.length<64 /\
  ∀ p ks cs,H p=none->ks.Perm kl->(∀ i j,i<=j->j<ks.length->cZ (ks.getD i [])<=cZ (ks.getD j []))->pX H ks cs->Q (.ref p) (upd H p (.lst (cs.map V.ref)))):=by
 intro Tk s σ H xs us Q I r hh;obtain⟨t,kl,bs,τ,rfl,hq,⟨len,tu⟩,me,h0,iE,q⟩:=hh;obtain⟨u,rfl,ru⟩:=mM r;cases ru;obtain⟨⟨es,ep,tb,g,e1,e2,e3,e4,e5,e6,e7⟩,_,_⟩:=I.aG _ _ hq;have key:∀ (i:Nat) (x:Ky) (b:Addr),kl[i]? = some x->bs[i]? = some b->dJ X.prog X.w τ s.heap x b:=λi x b x1 x2=>by
  have:=Kc I (tu i x b x1 x2)
  rwa [(me x (QK x1)).1]at this
 have So:s9 X.prog X.w τ s.heap (nB es ep tb) ep (!gL X.w) kl es tb bs:=⟨rfl,⟨e1,e2,key,e3,e4⟩,e5,e6,e7⟩;refine j2r (I.ok.hd hc) hu h0 g So (λx hx=>(me x hx).2) iE λh1 h' tk us ks c k1 q9 T mb pm so hg=>?_;obtain⟨cs,rfl⟩:=j4d us mb;have lc:cs.length=ks.length:=by have:=T.1;rwa [Qc]at this
 refine⟨.ref h1.objs.size,_,HM (o:=.lst (cs.map V.ref)) I k1 (Qj _) q9 ⟨YA (by rw[Qc,lc,pm.length_eq];omega),cs.map Value.ref,c,Ar cs,hg⟩,rfl,q _ ks cs (Dm I.aG k1 (Qj _)) pm so ⟨lc.symm,λi x b x1 x2=>?_⟩⟩;obtain⟨a,y1,y2⟩:=T.2 i x x1;rw[Qm,x2]at y1;cases y1;obtain⟨b',eZ,e⟩:=mb (.ref b) (Qk.mpr ⟨b,QK x2,rfl⟩);cases e;obtain⟨j,hj,qj⟩:=Zg eZ;have gj:kl[j]? = some (kl[j]'(by rw[len];exact hj)):=Qb _;have bj:bs[j]? = some b:=by rw[Qb hj,qj]
 have sq:=tu j _ b gj bj;have:=(key j _ b gj bj).inj y2;rw[this]at sq;exact sq
end
def xk (K:PySem.W.Frag)(H:Hp)(ks:List (Nat×Nat))(du:List Addr):Prop:=ks.length=du.length/\∀ (i:Nat) (x:Nat×Nat) (b:Addr),ks[i]? = some x->du[i]? = some b->H b=some (.tup [.int (Int.ofNat x.1),.int (Int.ofNat x.2)])
theorem Kd{x:Nat×Nat}(h:xj x=xj y):x=y:=by injection h with h1 h2;injection h2 with h2 _;exact Ue (ZQ h1) (ZQ h2)
theorem Ke{x:Nat×Nat}(I:Inv X Tk σ H s)(h:cG X.K H b [.int (Int.ofNat x.1),.int (Int.ofNat x.2)]):IsTupleKey (intKind X.prog X.w) s.heap (xj x) b:=Kb I h
abbrev mz (x:Nat×Nat):D:=.tup [.int (Int.ofNat x.1),.int (Int.ofNat x.2)]
def k2a:List D->Option (List (Nat×Nat))
 | []=>some []
 | .tup [.int (.ofNat i),.int (.ofNat j)]::ds=>if j<1000 then(k2a ds).map ((i,j) :: ·)else none
 | _=>none
theorem j6h{x:Nat×Nat}(hx:x.2<1000)(hy:y.2<1000)(h:rk x=rk y):x=y:=by
 have e:x.1*1000+x.2=y.1*1000+y.2:=by injection h
 have:x.1=y.1:=by omega
 have:x.2=y.2:=by omega
 exact Ue (by assumption) (by assumption)
theorem DW:∀ {ks:List (Nat×Nat)} {du:List Addr},xk K H ks du->af K H w o 0 (ks.map mz) (du.map V.ref) []
 | [],[],_=>.nil
 | [],_::_,h=>nomatch h.1
 | _::_,[],h=>nomatch h.1
 | x::ks,a::du,h=>.cons (F:=[]) (G:=[]) (.tup (h.2 0 x a rfl rfl) (.cons (F:=[]) (G:=[]) (.int _) (.cons (F:=[]) (G:=[]) (.int _) .nil nM) nM)) (DW ⟨by simpa using h.1,λi y b e1 e2=>h.2 (i+1) y b (by rw[Zl];exact e1) (by rw[Zl];exact e2)⟩) nM
def As:It->D:=Sum.elim (λn=>.int (Int.ofNat n)) λl=>.tup ((j9 l).map D.int)
abbrev ke (k:Ky):D:=.tup (k.map As)
def oK {α β:Type}(f:α->Option β):List α->Option (List β)
 | []=>some []
 | a::l=>match f a,oK f l with
  | some b,some m=>some (b::m)
  | _,_=>none
theorem Au{α β:Type}{f:α->Option β}{g:β->α}(h:∀ a b,f a=some b->a=g b):∀ {l:List α} {m:List β},oK f l=some m->l=m.map g
 | [],m,e=>by cases e;rfl
 | a::l,m,e=>by
  unfold oK at e;split at e;next b m' e1 e2=>
   cases e;rw[Qx,h a b e1,Au h e2]
  ·cases e
theorem Av{α β:Type}{f:α->Option β}{g:β->α}(h:∀ b,f (g b)=some b):∀ (m:List β),oK f (m.map g)=some m
 | []=>rfl
 | b::m=>by
  show(match f (g b),oK f (m.map g)with
   | some b,some m=>some (b::m)
   | _,_=>none)=_
  rw[h b,Av h m]
def Aw:D->Option Nat
 | .int (.ofNat n)=>some n
 | _=>none
def Ax:D->Option It
 | .int (.ofNat n)=>some (.inl n)
 | .tup ds=>(oK Aw ds).map .inr
 | _=>none
def xl:D->Option Ky
 | .tup ds=>oK Ax ds
 | _=>none
theorem j4o(d:D)(n:Nat)(h:Aw d=some n):d=.int (Int.ofNat n):=by
 unfold Aw at h;split at h
 ·cases h;rfl
 ·cases h
theorem j3r(d:D)(k:It)(h:Ax d=some k):d=As k:=by
 unfold Ax at h;split at h
 ·cases h;rfl
 next ds=>
  obtain⟨l,e,rfl⟩:=QC.mp h;show D.tup ds=.tup ((j9 l).map D.int);rw[Au j4o e,QV];rfl
 ·cases h
theorem j18(k:It):Ax (As k)=some k:=by
 rcases k with n|l
 ·rfl
 ·show(oK Aw ((j9 l).map D.int)).map Sum.inr=_;rw[QV,Av (g:=D.int ∘ Int.ofNat) (λb=>rfl)];rfl
theorem j2s(d:D)(k:Ky)(h:xl d=some k):d=ke k:=by
 unfold xl at h;split at h
 ·rw[Au j3r h]
 ·cases h
theorem j45(k:Ky):xl (ke k)=some k:=Av j18 k
def Ay:List Ky->List Nat
 | []=>[0]
 | k::_=>k.map sh
def pY (ks:List Ky):Prop:=ks.length<64/\(Ay ks).head? = some 0/\∀ k∈ks,k.map sh=Ay ks/\∀ d∈fU k,d<1000
instance (ks:List Ky):Decidable (pY ks):=by unfold pY;exact inferInstance
def jz (ks:List Ky):List Ky:=ks.eraseDups.mergeSort λa b=>decide (cZ a<=cZ b)
theorem j4j(ks:List Ky):(jz ks).Pairwise λa b=>cZ a<=cZ b:=by
 have:=Ym (le:=λa b:Ky=>decide (cZ a<=cZ b)) (λa b c h1 h2=>Qr (VY (QM h1) (QM h2))) (λa b=>by
  rcases UB (cZ a) (cZ b)with h|h
  ·rw[Qr h];rfl
  ·rw[Qr h,UC]) ks.eraseDups
 exact this.imp λh=>QM h
theorem Az{α:Type}[BEq α][LawfulBEq α]:∀ (n:Nat) (l:List α),l.length<=n->l.eraseDups.Nodup
 | 0,[],_=>by rw[List.eraseDups_nil];exact JE
 | 0,_::_,h=>absurd h (by simp)
 | n+1,[],_=>by rw[List.eraseDups_nil];exact JE
 | n+1,a::l,h=>by rw[List.eraseDups_cons];refine Q5.mpr ⟨λz=>?_,Az n _ (QJ (Q7 _ _) (by simpa using h))⟩;rw[JR]at z;have:=(QS.mp z).2;simp at this
theorem uZ{x:Ky}:x∈jz ks ↔ x∈ks:=by unfold jz;rw[List.mem_mergeSort,JR]
theorem Kf(ks:List Ky):(jz ks).Nodup:=(ZY _ _).nodup_iff.mpr (Az _ ks (Qj _))
theorem AA{α:Type}[DecidableEq α]:∀ {l m:List α},l.Nodup->m.Nodup->(∀ x,x∈l ↔ x∈m)->l.Perm m
 | [],m,_,_,h=>by
  cases m with
  | nil=>exact .nil
  | cons a m=>exact absurd ((h a).mpr Qh) (by simp)
 | a::l,m,h1,h2,h=>by
  have ha:=(h a).mp Qh;have qN:=Q5.mp h1;refine List.Perm.trans (List.Perm.cons a (AA qN.2 (h2.erase a) λx=>?_)) (List.perm_cons_erase ha).symm;rw[h2.mem_erase_iff];constructor
  ·intro hx;exact⟨λz=>qN.1 (z ▸ hx),(h x).mp (Qf _ hx)⟩
  ·rintro ⟨ne,hx⟩;rcases Qs.mp ((h x).mpr hx)with z|z
   ·exact absurd z ne
   ·exact z
theorem z5w{cY:List Ky}(hb:pY ks)(nd:kl.Nodup)(mem:∀ x,x∈kl ↔ x∈ks)(pm:cY.Perm kl)(so:∀ i j,i<=j->j<cY.length->cZ (cY.getD i [])<=cZ (cY.getD j [])):cY=jz ks:=by
 have p1:cY.Perm (jz ks):=AA (pm.nodup_iff.mpr nd) (Kf ks) λx=>by rw[pm.mem_iff,mem,uZ]
 have u1:(cY.map cZ).Pairwise (· <= ·):=by rw[J0,Zw];intro i j hi hj nh;have:=so i j (by omega) hj;rw[Qg,Qg,Qb hi,Qb hj]at this;exact this
 have u2:((jz ks).map cZ).Pairwise (· <= ·):=by rw[J0];exact j4j ks
 have e:=lks_uniq (p1.map cZ) u1 u2;have key:∀ (l m:List Ky),(∀ x∈l,x∈ks)->(∀ x∈m,x∈ks)->l.map cZ=m.map cZ->l=m:=by
  intro l;induction l with
  | nil=>
   intro m _ _ h;cases m with
   | nil=>rfl
   | cons _ _=>cases h
  | cons a l ih=>
   intro m h1 h2 h;cases m with
   | nil=>cases h
   | cons b m=>
    rw[Qx,Qx]at h;injection h with q1 q2;obtain⟨s1,l1⟩:=hb.2.2 a (h1 a Qh);obtain⟨s2,l2⟩:=hb.2.2 b (h2 b Qh);rw[j20 (s1.trans s2.symm) (Ok.of l1) (Ok.of l2) q1,ih m (λx hx=>h1 x (Qf _ hx)) (λx hx=>h2 x (Qf _ hx)) q2]
 exact key _ _ (λx hx=>(mem x).mp (pm.mem_iff.mp hx)) (λx hx=>uZ.mp hx) e
def AB (ds:List D)(ρ1:aW):Option (D×Nat×aW):=match oK xl ds with
 | some ks=>if pY ks then some (.lst ((jz ks).map ke),1,ρ1)else none
 | none=>none
def tw (fa:aF):aF:=λρ=>match fa ρ with
 | some (.lst ds,q,ρ1)=>if q<=1 then AB ds ρ1 else none
 | some (.tup ds,_,ρ1)=>AB ds ρ1
 | _=>none
theorem Kg{ρ1:aW}(h:AB ds ρ1=some r):∃ ks,ds=ks.map ke/\pY ks/\r=(.lst ((jz ks).map ke),1,ρ1):=by
 unfold AB at h;split at h;next ks h2=>
  split at h;next ok=>
   cases h;exact⟨ks,Au j2s h2,ok,rfl⟩
  ·cases h
 ·cases h
theorem y3x{fa:aF}(h:tw fa ρ=some r):∃ x q1 ρ1 ks,fa ρ=some (x,q1,ρ1)/\pY ks/\r=(.lst ((jz ks).map ke),1,ρ1)/\((x=.lst (ks.map ke)/\q1<=1)\/x=.tup (ks.map ke)):=by
 unfold tw at h;split at h;next ds q1 ρ1 h1=>
  split at h;next hq=>
   obtain⟨ks,rfl,ok,e⟩:=Kg h;exact⟨_,_,_,ks,h1,ok,e,.inl ⟨rfl,hq⟩⟩
  ·cases h
 next ds q1 ρ1 h1=>
  obtain⟨ks,rfl,ok,e⟩:=Kg h;exact⟨_,_,_,ks,h1,ok,e,.inr rfl⟩
 ·cases h
theorem Kh:∀ {k:Ky} {vs:List V} {F:List Addr},af K H w o 0 (k.map As) vs F->nF H k vs
 | [],_,_,h=>by cases h;exact .nil
 | x::k,_,_,h=>by
  cases h with
  | cons r rs _=>
   refine .cons ?_ (Kh rs);rcases x with n|l
   ·exact .inl ⟨n,rfl,f_ r⟩
   ·cases r with
    | tup ha hr=>rw[HF hr]at ha;exact .inr ⟨l,_,rfl,rfl,ha⟩
theorem Ki:∀ {ks:List Ky} {vs:List V} {F:List Addr},af K H w o 0 (ks.map ke) vs F->∃ du:List Addr,vs=du.map V.ref/\pX H ks du
 | [],_,_,h=>by cases h;exact⟨[],rfl,rfl,λi x b e _=>by simp at e⟩
 | x::ks,_,_,h=>by
  cases h with
  | cons r rs _=>
   obtain⟨du,rfl,l,t⟩:=Ki rs;cases r with
   | @tup _ a ip eG ha hr=>
    refine⟨a::du,rfl,by rw[Qz,Qz,l],λi y b q1 q2=>?_⟩;cases i with
    | zero=>cases q1;cases q2;exact⟨_,ha,Kh hr⟩
    | succ i=>exact t i y b q1 q2
theorem Kj:∀ (l:List Int),af K H w o 0 (l.map D.int) (l.map V.int) []
 | []=>.nil
 | i::l=>.cons (F:=[]) (G:=[]) (.int _) (Kj l) nM
theorem Kk:∀ {ks:List Ky} {du:List Addr},pX H ks du->af K H w o 0 (ks.map ke) (du.map V.ref) []
 | [],[],_=>.nil
 | [],_::_,h=>nomatch h.1
 | _::_,[],h=>nomatch h.1
 | x::ks,a::du,h=>by
  obtain⟨vs,hv,r⟩:=h.2 0 x a rfl rfl;refine .cons (F:=[]) (G:=[]) (.tup hv ?_) (Kk ⟨by simpa using h.1,λi y b e1 e2=>h.2 (i+1) y b (by rw[Zl];exact e1) (by rw[Zl];exact e2)⟩) nM;clear hv h;induction r with
  | nil=>exact .nil
  | cons q _ ih=>
   refine .cons (F:=[]) (G:=[]) ?_ ih nM;rcases q with⟨n,rfl,rfl⟩|⟨l,c,rfl,rfl,hc⟩
   ·exact .int _
   ·exact .tup hc (Kj _)
section
variable {X:Cx}{a:Expr}{fa:aF}{p p2 pos nG:Pos}{j:Nat}
theorem Kl(hc:X.calm=true)(hr:bA j X.A)(hm:X.mg "sorted" = none)(hmS:X.mg "set" = none)(ha:QD X a fa)(hb:bootBuiltins "set" = some (.type "set"):=by kernel_rfl)(oM:bootBuiltins "sorted" = some (.builtin "sorted"):=by kernel_rfl)(hg:Gl X "sorted":=by rfl)(hgS:Gl X "set":=by rfl)(hs:starEach [a] X.env=(false,eval a X.env)::starEach [] X.env:=by rfl)(cA:(backTo nG (starEach [] X.env)).any (·.1)=false:=by rfl)(mr:starEach [.Call (.Name "set" p2) [a] [] nG] X.env=(false,eval (.Call (.Name "set" p2) [a] [] nG) X.env)::starEach [] X.env:=by rfl)(DX:(backTo pos (starEach [] X.env)).any (·.1)=false:=by rfl):QD X (.Call (.Name "sorted" p) [.Call (.Name "set" p2) [a] [] nG] [] pos) (tw fa):=⟨have ha:=ha.o;by
 refine PE.imp (o9 (z2e hc (by have:=hr.un;omega)) hg hm oM (ma (vW (z4q hc (by have:=hr.un;omega)) hgS hmS hb (ma ha mO hs) (by decide) (by decide) hs cA) mO mr) (by decide) (by decide) mr DX) λσ H Q aj=>?_;obtain⟨ρ,w,t,r',q,ρ',gd,ee,k⟩:=aj;obtain⟨x,q1,ρ1,ks,h1,ok,e,hx⟩:=y3x ee;cases e;refine⟨ρ,w,t,_,_,_,gd,h1,λv H1 w1 F1 g1 aS r1=>?_⟩;have hs:∃ b p1 vs,v=.ref p1/\oD b X.K H1 p1 vs/\af X.K H1 w1 (.t t) 0 (ks.map ke) vs []:=by
  rcases hx with⟨rfl,CY⟩|rfl
  ·obtain⟨p1,vs,e,xm,rs⟩:=r1.Dj CY;exact⟨true,p1,vs,e,xm,rs⟩
  ·obtain⟨p1,vs,e,xm,rs⟩:=r1.eI;exact⟨false,p1,vs,e,xm,rs⟩
 obtain⟨b,p1,vs,rfl,xm,rs⟩:=hs;obtain⟨du,rfl,tu⟩:=Ki rs;refine⟨b,p1,ks,du,Ay ks,rfl,xm,tu,λx hx=>(ok.2.2 x hx).1,by have:=ok.1;omega,λp' kl bs mf nd mem tu2=>?_⟩;have up:∀ b o,H1 b=some o->upd H1 p' (.ext (S9 X.prog X.w p' kl bs)) b=some o:=λb o z=>by unfold upd;rw[Ql (λy=>by rw[y,mf]at z;cases z)];exact z
 have kl:kl.length<=ks.length:=nH nd λx hx=>(mem x).mp hx;refine⟨p',_,bs,Ay ks,rfl,fD,tu2.up up,λx hx=>⟨(ok.2.2 x ((mem x).mp hx)).1,Ok.of (ok.2.2 x ((mem x).mp hx)).2⟩,ok.2.1,by have:=ok.1;omega,λl cY cs hl pm so xn=>?_⟩;have es:=z5w ok nd mem pm so;subst es;have gg:=g1.drop (t':=t);obtain⟨g2,cD⟩:=gg.grow (H':=upd H1 p' _) (λb o z=>sm (up b o z)) (gg.wl.tb.upd rfl (.inl mf));obtain⟨a1,a2,a3⟩:=oq g2 hl (Kk xn);exact k _ _ _ _ a1 (((aS.drop gd.wt).trans cD).trans a2) a3⟩
where
 nH {α:Type} [DecidableEq α]:∀ {l l':List α},l.Nodup->(∀ x∈l,x∈l')->l.length<=l'.length
 | [],_,_,_=>Q6 _
 | a::l,l',nd,h=>by
  have ha:=h a Qh;have i:=nH (l:=l) (l':=l'.erase a) (Q5.mp nd).2 λx hx=>by have ne:x≠a:=λz=>(Q5.mp nd).1 (z ▸ hx);exact(YM ne).mpr (h x (Qf _ hx))
  rw[Yc ha]at i;have:0<l'.length:=Yw ha;show l.length+1<=l'.length;omega
end
section
variable {X:Cx}{a:Expr}{fa:aF}{p pos:Pos}
def kD (ks:List (Nat×Nat)):List (Nat×Nat):=ks.mergeSort λa b=>decide (rk a<=rk b)
theorem AD{cY:List (Nat×Nat)}(hb:∀ x∈kp,x.2<1000)(pm:cY.Perm kp)(so:∀ i j,i<=j->j<cY.length->rk (cY.getD i (0,0))<=rk (cY.getD j (0,0))):cY=kD kp:=by
 have p1:cY.Perm (kD kp):=pm.trans (ZY _ _).symm;have u1:(cY.map rk).Pairwise (· <= ·):=by rw[J0,Zw];intro i j hi hj nh;have:=so i j (by omega) hj;rw[Qg,Qg,Qb hi,Qb hj]at this;exact this
 have u2:((kD kp).map rk).Pairwise (· <= ·):=by
  rw[J0];have:=Ym (le:=λa b:Nat×Nat=>decide (rk a<=rk b)) (λa b c h1 h2=>Qr (VY (QM h1) (QM h2))) (λa b=>by
   rcases UB (rk a) (rk b)with h|h
   ·rw[Qr h];rfl
   ·rw[Qr h,UC]) kp
  exact this.imp λh=>QM h
 have e:=lks_uniq (p1.map rk) u1 u2;have key:∀ (l m:List (Nat×Nat)),(∀ x∈l,x.2<1000)->(∀ x∈m,x.2<1000)->l.map rk=m.map rk->l=m:=by
  intro l;induction l with
  | nil=>
   intro m _ _ h;cases m with
   | nil=>rfl
   | cons _ _=>cases h
  | cons a l ih=>
   intro m h1 h2 h;cases m with
   | nil=>cases h
   | cons b m=>
    rw[Qx,Qx]at h;injection h with q1 q2;rw[j6h (h1 a Qh) (h2 b Qh) q1,ih m (λx hx=>h1 x (Qf _ hx)) (λx hx=>h2 x (Qf _ hx)) q2]
 exact key _ _ (λx hx=>hb x (pm.mem_iff.mp hx)) (λx hx=>hb x ((ZY _ _).mem_iff.mp hx)) e
end
section
variable {prog:Program}{w:World}{A:Around}{E:Tl}{s:Shared}{it d:Addr}{od:Obj}{es:Array DictEntry}{i ep:Nat}
theorem j3v{Q:Tl}(lo:(d==sysModules)=false)(hT:s.TypeIs (.ref d) "dict")(ho:s.heap.get? d=some od)(hd:od.data=.dict es ep)
  (q:Q (.ref s.heap.objs.size) { s with heap:=s.heap.push { cls:=.type "dict_keyiterator",data:=.fields #[.ref d,.int 0 0,.int es.size 0,.int ep 0] } }):wpAny (model prog w) A (pyIter (.ref d)) Q E s:=by refine Vy hT V0 (QY V0 hT PySem.F.entry_dict_iter ?_ (PySem.F.args_dict_iter_1 _));unfold Builtin.«dict.__iter__» Builtin.Dict.dictSlotNone;refine Qa (Qa (wpAny_notOrdered_dict hT (show wpAny _ _ (pure (Value.ref d)) _ _ s from Qe (show wpAny _ _ (Builtin.Dict.showsAll d >>= _) _ _ s from ?_))));unfold Builtin.Dict.showsAll;rw[Ql (by rw[lo];exact Zp)];refine Qa (Qe (Qa (Vz ho hd (Qa (V5 ho hd (Qa (Q8 (Qe ⟨_,rfl,"dict_keyiterator",_,⟨_,Qp _ rfl,rfl⟩,Zx.lookup,?_⟩))))))));simpa [rawInt]using q
theorem j2t(hit:s.heap.IsKeyIter it d i es.size ep)(xp:s.heap.get? d=some od)(xq:od.data=.dict es ep)(hi:i<es.size)
  (q:∀ h',h'.IsKeyIter it d (i+1) es.size ep->Heap.SameBut it s.heap h'->Q (some es[i].key) { s with heap:=h' }):wpAny (model prog w) A (pyNext (.ref it)) Q E s:=by
 obtain⟨o,ho,hc,hd⟩:=id hit;unfold pyNext;refine Qa (JA (Za (name:=Str.ofString "__next__") hit.typeIs Zx (QY Zx hit.typeIs Ye ?body (J9 _))))
 case body=>
 refine Qa (Qe (Qa (Qa (Qa (Z8 hit.typeIs (Qe (Qa (Vi ho hd ?b1))))))))
 case b1=>
 simp only[show Builtin.Dict_items.ownsTuple "dict_keyiterator" = false from by decide,Qt,Zf];refine(show wpAny _ _ (if(Value.ref d==Value.none)=true then _ else _) _ _ s from ?b2)
 case b2=>
 rw[Ql (show ¬ ((Value.ref d==Value.none)=true)from Zp)];refine Qa (Qe (Qa (Vz xp xq ?b3)))
 case b3=>
 rw[Ql (by simp)];refine Qa (Qe (Qa (V5 xp xq ?b4)))
 case b4=>
 rw[Ql (by simp)];refine Qe ?b5
 case b5=>
 simp only[show ¬ ((i:Int)<0)from by omega,Zf,Yt,Zn hi];refine Qa (Qa (Z8 hit.typeIs (Qe (Qa (wpAny_isOneOf_keyiter hit.typeIs ?b6)))))
 case b6=>
 refine(show wpAny _ _ (setField (.ref it) 1 (rawInt ((i:Int)+1)) >>= _) _ _ s from Qa (Vg ho hd (by simp) ?b7))
 case b7=>
 have xr:(s.heap.update it (Obj.mapFields (·.setIfInBounds 1 (rawInt ((i:Int)+1))))).IsKeyIter it d (i+1) es.size ep:=⟨_,Z0 _ ho (Obj.isFreed_of_fields (Yh hd _)),(Obj.cls_mapFields ..).trans hc,by rw[Yh hd];simp[rawInt]⟩;refine Qa (Zc (Qa (wpAny_isOneOf_keyiter (s:={ s with heap:=s.heap.update it (Obj.mapFields (·.setIfInBounds 1 (rawInt ((i:Int)+1)))) }) xr.typeIs ?b8)))
 case b8=>exact(show wpAny _ _ (pure es[i].key) _ _ _ from Qe (Qe ⟨_,rfl,Qe (q _ xr (ZX ..))⟩))
theorem j2j(hh:A.handled=none)(hit:s.heap.IsKeyIter it d es.size es.size ep)(xp:s.heap.get? d=some od)(xq:od.data=.dict es ep)
  (q:∀ h',Heap.ExtBut it s.heap h'->Q none { s with heap:=h' }):wpAny (model prog w) A (pyNext (.ref it)) Q E s:=by
 obtain⟨o,ho,hc,hd⟩:=id hit;unfold pyNext;refine Qa (JA (Za (name:=Str.ofString "__next__") hit.typeIs Zx (QY Zx hit.typeIs Ye ?body (J9 _))))
 case body=>
 refine Qa (Qe (Qa (Qa (Qa (Z8 hit.typeIs (Qe (Qa (Vi ho hd ?b1))))))))
 case b1=>
 simp only[show Builtin.Dict_items.ownsTuple "dict_keyiterator" = false from by decide,Qt,Zf];refine(show wpAny _ _ (if(Value.ref d==Value.none)=true then _ else _) _ _ s from ?b2)
 case b2=>
 rw[Ql (show ¬ ((Value.ref d==Value.none)=true)from Zp)];refine Qa (Qe (Qa (Vz xp xq ?b3)))
 case b3=>
 rw[Ql (by simp)];refine Qa (Qe (Qa (V5 xp xq ?b4)))
 case b4=>
 rw[Ql (by simp)];refine Qe ?b5
 case b5=>
 simp only[show ¬ ((es.size:Int)<0)from by omega,Zf,Yt,JP (Qj es.size)];refine Qa (Qa (Z8 hit.typeIs (Qe ?b6)))
 case b6=>
 refine(show wpAny _ _ (setField (.ref it) 0 .none >>= _) _ _ s from Qa (Vg ho hd (by simp) (show wpAny _ _ (newExc (.type "StopIteration") [] >>= _) _ _ _ from Qa ?b7)))
 case b7=>
 simp only[newExc,newTuple];refine Qa (Q8 (Qa (m:=firstArgMember _ _) (Ui (a:=Value.none) (by first|rfl|(simp only[firstArgMember];rfl)) (Q8 ?b8 (by size_fits)))) (by size_fits))
 case b8=>
 simp only[raiseNew];refine Qa (wpAny_handled ?b9)
 case b9=>
 rw[show A.in1.handled=none from hh];refine Qa (Qe (wpAny_throw ?bx))
 case bx=>
 refine Qa (Z5 (b:=true) (T:="StopIteration") ⟨_,Qp _ rfl,rfl⟩ Vh (Qe (q _ (((ZX ..).extBut.push _).push _))))
theorem j6x(lo:(d==sysModules)=false)(hc:od.cls=.type "dict")(hd:od.data=.dict es ep):KdlSrc prog w "dict" d d es.size (λi v=>∃ e,es[i]? = some e/\v=e.key) (λh=>h.get? d=some od) where
 type:=λ_ h=>⟨_,h,hc⟩
 there:=λ_ h=>⟨Qq h,Qq h⟩
 keep:=λ_ _ h k=>k d (.inl rfl) _ h
 notList:=by decide
 notTuple:=by decide
 hint:=λ_ _ _ _ h q=>kdl_hint_dict ⟨_,h,hc⟩ q
 iter:=λA s hh h=>⟨_,λi h'=>h'.IsKeyIter s.heap.objs.size d i es.size ep/\h'.get? d=some od,(λ_ _ q=>j3v lo ⟨_,h,hc⟩ h hd q),{
  sub:=λb hb=>by simp at hb;simp[hb]
  frame:=λ_ _ _ st k=>⟨st.1.at λo e=>k _ (by simp) o e,k d (by simp) _ st.2⟩
  item:=λi s' Q E hi st q=>j2t st.1 st.2 hd hi λh' bS sb=>q _ h' s'.toks ⟨_,Zn hi,rfl⟩ ⟨bS,by rw[sb.2 d (Q4 (Qq h))];exact st.2⟩ λb o hb e=>sb.extBut b o (λz=>hb (by simp[z])) e
  done:=λs' Q E st q=>j2j hh st.1 st.2 hd λh' he=>q h' s'.toks λb o hb e=>he b o (λz=>hb (by simp[z])) e
  self:=λ_ _ _ _ st q=>wpAny_pyIter_keyiter st.1 q },⟨_,Qp _ rfl,rfl,rfl⟩,Qd _ h⟩
end
section
variable {prog:Program}{w:World}{A:Around}{E:Tl}{s:Shared}
theorem j3m{ty:String}{r d:Addr}{n:Nat}{Pv:Nat->Value->Prop}{OK:Heap->Prop}{bs:List Addr}{Q:Tl}(S:KdlSrc prog w ty r d n Pv OK)(hh:A.handled=none)(ho:OK s.heap)(iE:n<64)(hb:∀ x∈kp,x.2<1000)
  (wk:∀ vs:List Value,vs.length=n->(∀ (j:Nat) (v:Value),vs[j]? = some v->Pv j v)->∃ ks:List (Nat×Nat),oJ prog w s.heap vs ks/\ks.Perm kp/\∀ v∈vs,∃ b∈bs,v=.ref b)
  (h:∀ (h1:Heap) (h':Heap) (tk:Nat) (us:List Value) (ks:List (Nat×Nat)) (c:Nat),(∀ b o,s.heap.get? b=some o->h1.get? b=some o)->(∀ b o,s.heap.get? b=some o->h'.get? b=some o)->oJ prog w s.heap us ks->(∀ v∈us,∃ b∈bs,v=.ref b)->ks.Perm kp->(∀ i j,i<=j->j<ks.length->rk (ks.getD i (0,0))<=rk (ks.getD j (0,0)))->
    h'.get? h1.objs.size=some { cls:=.type "list",data:=.seq us.toArray c }->Q (.ref h1.objs.size) { s with heap:=h',toks:=tk }) :
  wpAny (model prog w) A (call (.builtin "sorted") [.ref r]) Q E s:=by
 refine J7 kind_sorted plain_sorted entry_sorted (args_sorted1 _) ?_;unfold Builtin.«sorted»;refine Qa (m:=checkCount "sorted" 1 1 _) (Qe (Qa (kdu_collect (A:=A.in1) S hh ho (YA (by omega)) λh' tk acc hk cV=>?c1)))
 case c1=>
 have hl:acc.toList.length=n:=by rw[QA];exact cV.1
 refine Qa (VF ?c2 (by rw[hl];exact YA (by omega)))
 case c2=>
 obtain⟨ks,T,pm,mb⟩:=wk acc.toList hl λj v e=>cV.2 j v (by rw[<- Zd];exact e);have T1:oJ prog w (h'.push (seqObj "list" acc.toList.toArray 0)) acc.toList ks:=T.keep λb o q _=>Qd _ (hk b o q);have oL:(h'.push (seqObj "list" acc.toList.toArray 0)).get? h'.objs.size=some (seqObj "list" acc.toList.toArray 0):=Qp _ rfl;refine Qa (Zc (QY slot_list_sort ⟨_,oL,rfl⟩ entry_list_sort (I9 oL T1 (λx hx=>hb x (pm.mem_iff.mp hx)) (by rw[hl];exact iE) λout cY o1 om o2 o3=>⟨_,rfl,?c3⟩) (args_list_sort _)))
 case c3=>
 refine Qe ⟨_,rfl,?c4⟩
 case c4=>
 have ne:∀ b o,s.heap.get? b=some o->b≠h'.objs.size:=λb o e=>Q4 (Qq (hk b o e));have up:∀ (G:Heap) (f:Array Value->Array Value),(∀ b o,s.heap.get? b=some o->G.get? b=some o)->∀ b o,s.heap.get? b=some o->(G.update h'.objs.size (Obj.mapSeq f)).get? b=some o:=
  λG f q b o e=>(ZS _ _ (Zm (ne b o e))).trans (q b o e)
 unfold sortedHeap;have g1:=Jt oL (λ_=>(#[]:Array Value));have g4:=Jt (Qd (seqObj "list" #[] 0) (Qd (seqObj "tuple" acc.toList.toArray 0) g1)) (λ_=>out.toArray);refine h h' _ _ out cY _ hk ?c5 ?c6 (λv hv=>mb v (om v hv)) (o2.trans pm) o3 g4
 case c5=>exact up _ _ λb o e=>Qd _ (Qd _ (up _ _ (λb o e=>Qd _ (hk b o e)) b o e))
 case c6=>
  refine⟨o1.1,λi x q=>?_⟩;obtain⟨b,e1,k1⟩:=o1.2 i x q;obtain⟨j,hj,qj⟩:=Zg (om _ (QK e1));have gj:ks[j]? = some (ks[j]'(by rw[<- T.1];exact hj)):=Qb _;obtain⟨b',e2,k2⟩:=T.2 j _ gj;rw[Qb hj,qj]at e2;cases e2;obtain⟨b2,e3,k3⟩:=T1.2 j _ gj;rw[Qb hj,qj]at e3;cases e3;have:=k3.inj k1;rw[this]at k2;exact⟨b,e1,k2⟩
end
abbrev dh (x:Nat×Nat):List Key:=[.inl (Int.ofNat x.1),.inl (Int.ofNat x.2)]
theorem j5f:∀ {au:List (List Key×V)} {xs:List (List Key×Addr×Value)} {kp:List (Nat×Nat)},KT H au xs->au.map (·.1)=kp.map dh->xk K H kp (xs.map (·.2.1)):=by
 intro au xs kp r;induction r generalizing kp with
 | nil=>
  intro e;have:kp=[]:=Y0.mp e.symm;subst this;exact⟨rfl,λi x b e1 _=>by simp at e1⟩
 | @cons p q ps qs hq t ih=>
  intro e;cases kp with
  | nil=>cases e
  | cons x kp=>
   rw[Qx,Qx]at e;injection e with e1 e2;obtain⟨l,tu⟩:=ih e2;refine⟨by rw[Qz,Qx,Qz,l],λi y b z1 z2=>?_⟩;cases i with
   | zero=>
    cases z1;cases z2;have:=hq.2.1;rw[e1]at this;exact this
   | succ i=>exact tu i y b z1 z2
section
variable {X:Cx}
theorem z37(hc:X.calm=true):kO X (.builtin "sorted") (λxs H Q=>∃ t au kp,xs=[.ref t]/\H t=some (.dT au)/\au.map (·.1)=kp.map dh/\kp.length<64/\(∀ x∈kp,x.2<1000) /\
  ∀ p ks cs,H p=none->ks.Perm kp->(∀ i j,i<=j->j<ks.length->rk (ks.getD i (0,0))<=rk (ks.getD j (0,0)))->xk X.K H ks cs->Q (.ref p) (upd H p (.lst (cs.map V.ref)))):=by
 intro Tk s σ H xs us Q I r hh;obtain⟨t,au,kp,rfl,hq,ek,iE,hb,q⟩:=hh;obtain⟨u,rfl,ru⟩:=mM r;cases ru;obtain⟨_,lo,zs,kt,o,es,ep,ho,hx,hd,he,_,_⟩:=Gi I.aG hq;have tu:xk X.K H kp (zs.map (·.2.1)):=j5f kt ek;have len:es.size=kp.length:=by rw[<- QA,he,Qc,tu.1,Qc]
 have gk:∀ (i:Nat) (e:DictEntry),es[i]? = some e->∃ b:Addr,(zs.map (·.2.1))[i]? = some b/\e.key=Value.ref b:=λi e h=>by rw[<- Zd,he,Qm,QC]at h;obtain⟨z,z1,rfl⟩:=h;exact⟨z.2.1,by rw[Qm,z1];rfl,rfl⟩
 refine j3m (bs:=zs.map (·.2.1)) (kp:=kp) (j6x lo hx.1 hd) (I.ok.hd hc) ho (by rw[len];exact iE) hb (λvs hl hv=>?w1) λh1 h' tk us ks c k1 q9 T mb pm so hg=>?w2
 case w1=>
  refine⟨kp,⟨by rw[hl,len],λi x e=>?_⟩,Uq _,λv m=>?_⟩
  ·have hi:=(QN.mp e).1;obtain⟨e',q1,q2⟩:=hv i _ (Qb (by rw[hl,len];exact hi));obtain⟨b,q3,q4⟩:=gk i e' q1;exact⟨b,by rw[Qb (by rw[hl,len];exact hi),q2,q4],Ke I (.inl (.inl (tu.2 i x b e q3)))⟩
  ·obtain⟨j,hj,qj⟩:=Zg m;obtain⟨e',q1,q2⟩:=hv j v (by rw[Qb hj,qj]);obtain⟨b,q3,q4⟩:=gk j e' q1;exact⟨b,QK q3,by rw[q2,q4]⟩
 case w2=>
  obtain⟨cs,rfl⟩:∃ cs:List Addr,us=cs.map Value.ref:=by
   have:∀ (l:List Value),(∀ v∈l,∃ b∈zs.map (·.2.1),v=.ref b)->∃ cs:List Addr,l=cs.map Value.ref:=by
    intro l;induction l with
    | nil=>intro _;exact⟨[],rfl⟩
    | cons v l ih=>
     intro h;obtain⟨cs,e⟩:=ih λw hw=>h w (Qf _ hw);obtain⟨b,_,rfl⟩:=h v Qh;exact⟨b::cs,by rw[e];rfl⟩
   exact this us mb
  have lc:cs.length=ks.length:=by have:=T.1;rwa [Qc]at this
  refine⟨.ref h1.objs.size,_,HM (o:=.lst (cs.map V.ref)) I k1 (Qj _) q9 ⟨YA (by rw[Qc,lc,pm.length_eq];omega),cs.map Value.ref,c,Ar cs,hg⟩,rfl,q _ ks cs (Dm I.aG k1 (Qj _)) pm so ⟨lc.symm,λi x b x1 x2=>?_⟩⟩;obtain⟨a,y1,y2⟩:=T.2 i x x1;rw[Qm,x2]at y1;cases y1;obtain⟨b',eZ,e⟩:=mb (.ref b) (Qk.mpr ⟨b,QK x2,rfl⟩);cases e;obtain⟨j,hj,qj⟩:=Zg eZ;have gj:kp[j]? = some (kp[j]'(by rw[tu.1];exact hj)):=Qb _;have sq:=tu.2 j _ b gj (by rw[Qb hj,qj]);have:=Kd ((Ke I (.inl (.inl sq))).inj y2);rw[this]at sq;exact sq
end
section
variable {α β:Type}[DecidableEq α]
def vL:List α->List β->α->Option β
 | x::ks,d::ds,k=>if x=k then some d else vL ks ds k
 | _,_,_=>none
def nI (ks:List α)(k:α):Bool:=ks.any λx=>decide (x=k)
def kg:List α->List β->α->β->List β
 | x::ks,d::ds,k,e=>(if x=k then e else d)::kg ks ds k e
 | _,_,_,_=>[]
end
theorem DY{α β:Type}[DecidableEq α](k:α)(e:β):∀ {ks:List α} {ds:List β},ks.length=ds.length->(kg ks ds k e).length=ds.length
 | [],[],_=>rfl
 | x::ks,d::ds,h=>by show(kg ks ds k e).length+1=ds.length+1;rw[DY k e (JQ h)]
theorem DZ{α:Type}[DecidableEq α](k:α):∀ (ks:List α) (vs:List V),jq (ks.zip vs) k=vL ks vs k
 | [],_=>rfl
 | _::_,[]=>rfl
 | x::ks,v::vs=>by
  show jq ((x,v)::ks.zip vs) k=_;unfold vL;by_cases h:x=k
  ·rw[wa h,Qi h]
  ·rw[wb h,Ql h,DZ k ks vs]
theorem Km{α:Type}[DecidableEq α](k:α):∀ (ks:List α) (vs:List V),ks.length=vs.length->((ks.zip vs).any λkv=>decide (kv.1=k))=nI ks k
 | [],[],_=>rfl
 | x::ks,v::vs,h=>by rw[JN,YI,Km k ks vs (JQ h)];rfl
theorem Kn{α:Type}[DecidableEq α](k:α)(u:V)(ks:List α)(vs:List V)(h:ks.length=vs.length) :
  i6 (ks.zip vs) k u=if nI ks k=true then ks.zip (kg ks vs k u)else(ks++[k]).zip (vs++[u]):=by
 unfold i6;rw[Km k ks vs h];by_cases hk:nI ks k=true
 ·rw[Qi hk,Qi hk];clear hk;induction ks generalizing vs with
  | nil=>rfl
  | cons x ks ih=>
   cases vs with
   | nil=>cases h
   | cons v vs=>
    show(if x=k then(x,u)else(x,v))::_=(x,if x=k then u else v)::_;have:=ih vs (JQ h);unfold List.zip at this;rw[this];by_cases hx:x=k
    ·rw[Qi hx,Qi hx]
    ·rw[Ql hx,Ql hx]
 ·rw[Ql hk,Ql hk,List.zip_append h];rfl
section
variable {K:PySem.W.Frag}{H:Hp}{w:Wn}{o:Ow}
theorem af.split(r:af K H w o 0 (d::ds) vs []):∃ v us,vs=v::us/\Rep K H w o 0 d v []/\af K H w o 0 ds us []:=by
 generalize hF:([]:List Addr)=F at r;cases r with
 | @cons _ d' v' eG ip F' G' r s _=>
  have h1:F'=[]:=r.zero;have h2:G'=[]:=s.zero;subst h1 h2;exact⟨v',ip,rfl,r,s⟩
theorem af.mk2(r:Rep K H w o 0 d v [])(s:af K H w o 0 ds vs []):af K H w o 0 (d::ds) (v::vs) []:=.cons (F:=[]) (G:=[]) r s nM
theorem af.tz(r:af K H w o 0 [] vs []):vs=[]:=by
 have:=r.length;cases vs with
 | nil=>rfl
 | cons _ _=>cases this
theorem D0{α:Type}[DecidableEq α](k:α):∀ {ks:List α} {ds:List D} {vs:List V},af K H w o 0 ds vs []->
  (∀ d,vL ks ds k=some d->∃ v,vL ks vs k=some v/\Rep K H w o 0 d v [])/\(vL ks ds k=none->vL ks vs k=none)
 | [],ds,vs,r=>⟨λd h=>by simp[vL]at h,λ_=>by simp[vL]⟩
 | x::ks,[],vs,r=>by rw[r.tz];exact⟨λd h=>by simp[vL]at h,λ_=>by simp[vL]⟩
 | x::ks,d::ds,vs,r=>by
  obtain⟨v,us,rfl,r1,s⟩:=r.split;have ih:=D0 k (ks:=ks) s;by_cases hx:x=k
  ·simp only[vL,Qi hx];exact⟨λd' h=>by cases h;exact⟨v,rfl,r1⟩,λh=>by cases h⟩
  ·simp only[vL,Ql hx];exact ih
theorem D1{α:Type}[DecidableEq α](k:α){e:D}(re:Rep K H w o 0 e u []):∀ {ks:List α} {ds:List D} {vs:List V},af K H w o 0 ds vs []->af K H w o 0 (kg ks ds k e) (kg ks vs k u) []
 | [],ds,vs,r=>by simp only[kg];exact .nil
 | x::ks,[],vs,r=>by rw[r.tz];simp only[kg];exact .nil
 | x::ks,d::ds,vs,r=>by
  obtain⟨v,us,rfl,r1,s⟩:=r.split;simp only[kg];refine .mk2 ?_ (D1 k re s);by_cases hx:x=k
  ·rw[Qi hx,Qi hx];exact re
  ·rw[Ql hx,Ql hx];exact r1
end
def AE:D->Option Key
 | .int i=>some (.inl i)
 | .str x=>some (.inr x)
 | _=>none
def AF:List D->Option (List Key)
 | []=>some []
 | d::ds=>match AE d with
  | some k=>(AF ds).map (k :: ·)
  | none=>none
def D2:D->Option (List Key)
 | .tup ds=>AF ds
 | _=>none
def q_:MK->List D->D->Option (Option D)
 | .t ks,ds,x=>(D2 x).map λy=>vL ks ds y
 | .k ks,ds,x=>(AE x).map λy=>vL ks ds y
 | .i _ _ _,_,_=>none
def xt:MK->List D->D->D->Option (MK×List D)
 | .t ks,ds,x,d=>(D2 x).map λy=>if nI ks y=true then(.t ks,kg ks ds y d)else(.t (ks++[y]),ds++[d])
 | .k ks,ds,x,d=>(AE x).map λy=>if nI ks y=true then(.k ks,kg ks ds y d)else(.k (ks++[y]),ds++[d])
 | .i _ _ _,_,_,_=>none
section
variable {K:PySem.W.Frag}{H:Hp}{w:Wn}{o:Ow}
theorem D3{k:Key}(h:AE x=some k)(r:Rep K H w o q x v F):v=kV k:=by cases x<;>cases h<;>cases r<;>rfl
theorem Ko:∀ {ds:List D} {ks:List Key} {vs:List V},AF ds=some ks->af K H w o 0 ds vs []->vs=ks.map kV
 | [],ks,vs,h,r=>by cases h;exact r.tz
 | d::ds,ks,vs,h,r=>by
  unfold AF at h;split at h;next k hk=>
   obtain⟨cY,e,rfl⟩:=QC.mp h;obtain⟨v,us,rfl,r1,s⟩:=r.split;rw[D3 hk r1,Ko e s];rfl
  ·cases h
theorem Kp{k:List Key}(h:D2 x=some k)(r:Rep K H w o q x v F):∃ b,v=.ref b/\H b=some (.tup (k.map kV)):=by
 cases x with
 | tup ds=>
  obtain⟨a,vs,rfl,e,rs⟩:=r.jF;rw[Ko h rs]at e;exact⟨a,rfl,e⟩
 | _=>cases h
theorem Kq{k:MK}{y:V}{r:Option D}(hH:H a=some z)(i:k.Is K a vs z)(rs:af K H w o 0 ds vs [])(rx:Rep K H w' o' q x y F)(h:q_ k ds x=some r) :
  ∃ rv,lJ H a y rv/\(∀ d,r=some d->∃ v,rv=some v/\Rep K H w o 0 d v [])/\(r=none->rv=none):=by
 cases k with
 | t ks=>
  obtain⟨kk,e,rfl⟩:=QC.mp h;cases i;obtain⟨b,rfl,hb⟩:=Kp e rx;refine⟨_,lJ.t hH hb,?_⟩;rw[DZ];exact D0 kk rs
 | k ks=>
  obtain⟨kk,e,rfl⟩:=QC.mp h;cases i;rw[D3 e rx];refine⟨_,lJ.k hH,?_⟩;rw[DZ];exact D0 kk rs
 | i C fs p=>cases h
theorem j4g{k k':MK}{eG:List D}{y:V}(hH:H a=some z)(i:k.Is K a vs z)(hl:k.len=ds.length)(iE:ds.length<1000)(rs:af K H w o 0 ds vs [])(rx:Rep K H w' o' q x y F)(rd:Rep K H w o 0 d u [])(h:xt k ds x d=some (k',eG)) :
  ∃ z' ip,ph H a y u (upd H a z')/\k'.Is K a ip z'/\k'.len=eG.length/\af K H w o 0 eG ip []:=by
 have lv:=rs.length;cases k with
 | t ks=>
  obtain⟨kk,e,hh⟩:=QC.mp h;cases i;obtain⟨b,rfl,hb⟩:=Kp e rx;have hl:ks.length=ds.length:=hl;have dp:=ph.t (v:=u) hH hb (by rw[Js,<- lv,hl,UA];exact pf (Z6 iE));rw[Kn kk u ks vs (by omega)]at dp;by_cases hk:nI ks kk=true
  ·rw[Qi hk]at hh dp;cases hh;exact⟨_,_,dp,rfl,hl.trans (DY kk d hl).symm,D1 kk rd rs⟩
  ·rw[Ql hk]at hh dp;cases hh;refine⟨_,_,dp,rfl,?_,af.snoc (F:=[]) (G:=[]) rd rs nM⟩;show(ks++[kk]).length=_;rw[Qn,Qn,hl];rfl
 | k ks=>
  obtain⟨kk,e,hh⟩:=QC.mp h;cases i;rw[D3 e rx];have hl:ks.length=ds.length:=hl;have dp:=ph.k (k:=kk) (v:=u) hH (by rw[Js,<- lv,hl,UA];exact pf (Z6 iE));rw[Kn kk u ks vs (by omega)]at dp;by_cases hk:nI ks kk=true
  ·rw[Qi hk]at hh dp;cases hh;exact⟨_,_,dp,rfl,hl.trans (DY kk d hl).symm,D1 kk rd rs⟩
  ·rw[Ql hk]at hh dp;cases hh;refine⟨_,_,dp,rfl,?_,af.snoc (F:=[]) (G:=[]) rd rs nM⟩;show(ks++[kk]).length=_;rw[Qn,Qn,hl];rfl
 | i C fs p=>cases h
end
theorem j46(v:OX):qI v.ho=false:=by cases v<;>rfl
theorem MK.Kr{k:MK}{x:HO}(h:k.Is K a vs x):qI x=false:=by obtain⟨v,rfl⟩:=MK.ox h;exact j46 v
section
variable {K:PySem.W.Frag}{σ:St}{ρ:aW}{t:Nat}
theorem Ks{H1:Hp}{p:Addr}{w1:Wn}{k:MK}(g:Good K ρ σ H1 w1 t)(hp:H1 p=none)(i:k.Is K p vs z)(hl:k.len=ds.length)(r:af K H1 w1 .f 0 ds vs []) :
  Good K ρ σ (upd H1 p z) (kS p (.t t) w1) (t+1)/\Go H1 w1 (upd H1 p z) (kS p (.t t) w1)/\Rep K (upd H1 p z) (kS p (.t t) w1) (.t t) 1 (.mp k ds) (.ref p) [p]:=by
 have ne:∀ a x,H1 a=some x->a≠p:=λa x e=>gC e hp;have nw:∀ a o,w1 a=some o->a≠p:=λa o e=>by obtain⟨vs,q⟩:=g.wl a o e;exact ne a _ q
 have st:dY H1 w1 (upd H1 p z) (kS p (.t t) w1):=λa x e n=>⟨sm (by rw[a_ (ne a x e)];exact e),by rw[i7 (ne a x e)];exact n⟩;refine⟨⟨⟨λa o e=>?_,g.wl.tb.upd (MK.Kr i) (.inl hp)⟩,λa i e=>?_,λa i e=>?_,g.len,λi d q e=>?_⟩,⟨st,λa o e _=>⟨a_ (nw a o e),(i7 (nw a o e)).trans e⟩⟩,?_⟩
 ·by_cases h:a=p
  ·subst h;obtain⟨v,rfl⟩:=MK.ox i;exact⟨v,fD⟩
  ·rw[i7 h]at e;obtain⟨us,q⟩:=g.wl a o e;exact⟨us,by rw[a_ h];exact q⟩
 ·by_cases h:a=p
  ·subst h;rw[pC]at e;cases e
  ·rw[i7 h]at e;exact g.ws a i e
 ·by_cases h:a=p
  ·subst h;rw[pC]at e;cases e;exact ZG _
  ·rw[i7 h]at e;exact ZJ (g.wt a i e)
 ·obtain⟨v,F,h1,h2⟩:=g.slot i d q e;exact⟨v,F,h1,Rep.go g.wl st h2 λa m=>⟨a_ (nw a _ (h2.aM a m)),(i7 (nw a _ (h2.aM a m))).trans (h2.aM a m)⟩⟩
 ·exact .px fD i pC hl (af.go g.wl st r nM)
theorem Rep.D4{k:MK}(r:Rep K H w o q (.mp k ds) v F):∃ a vs z,v=.ref a/\H a=some z/\k.Is K a vs z/\k.len=ds.length/\af K H w o 0 ds vs []:=by
 cases r with
 | qH h i e l r=>exact⟨_,_,_,rfl,h,i,l,r⟩
 | px h i e l r=>exact⟨_,_,_,rfl,h,i,l,r⟩
theorem Good.jL{k:MK}(g:Good K ρ σ H w t)(e:ρ[i]? = some (some (.mp k ds,q))) :
  ∃ l vs z,σ[i]? = some (some (.ref l))/\H l=some z/\k.Is K l vs z/\k.len=ds.length/\af K H w .f 0 ds vs []:=by obtain⟨v,F,h1,h2⟩:=g.slot i _ _ e;obtain⟨a,vs,z,rfl,x1,x2,x3,x4⟩:=h2.D4;exact⟨a,vs,z,h1,x1,x2,x3,x4.any g.wl⟩
theorem Good.D5{k:MK}(g:Good K ρ σ H w t)(e:ρ[i]? = some (some (.mp k ds,1))) :
  ∃ l vs z,σ[i]? = some (some (.ref l))/\H l=some z/\k.Is K l vs z/\k.len=ds.length/\af K H w .f 0 ds vs []/\∀ k' eG ip z',k'.Is K l ip z'->k'.len=eG.length->af K H w .f 0 eG ip []->
   Good K (ρ.set i (some (.mp k' eG,1))) σ (upd H l z') w t/\Go H w (upd H l z') w:=by
 obtain⟨v,F,h1,h2⟩:=g.slot i _ _ e;cases h2 with
 | @px _ l vs _ _ z hl lK hw hlen rs=>
  refine⟨l,vs,z,h1,hl,lK,hlen,rs.any g.wl,λk' eG ip z' i' l' r'=>?_⟩;have nl:∀ a o,w a=some o->o ≠ .s i->a≠l:=λa o e n z=>by subst z;rw[hw]at e;exact n (QL e).symm
  have nn:∀ a,w a=none->a≠l:=λa e z=>by subst z;rw[hw]at e;cases e
  have st:dY H w (upd H l z') w:=λa x h n=>⟨sm (by rw[a_ (nn a n)];exact h),n⟩;refine⟨⟨⟨λa o h=>?_,g.wl.tb.upd (MK.Kr i') (.inr (g.wl l _ hw))⟩,g.ws,g.wt,by rw[Zj];exact g.len,λj d' q' e'=>?_⟩,⟨st,λa o h n=>⟨a_ (nl a o h (n i)),h⟩⟩⟩
  ·by_cases z:a=l
   ·subst z;obtain⟨v,rfl⟩:=MK.ox i';exact⟨v,fD⟩
   ·obtain⟨us,q⟩:=g.wl a o h;exact⟨us,by rw[a_ z];exact q⟩
  ·by_cases hj:i=j
   ·subst hj;rw[QZ (QN.mp e).1]at e';cases e';exact⟨_,_,h1,.px fD i' hw l' (af.go g.wl st r' nM)⟩
   ·rw[Q3 hj]at e';obtain⟨v',F',qN,ni⟩:=g.slot j d' q' e';exact⟨v',F',qN,Rep.go g.wl st ni λa m=>⟨a_ (nl a _ (ni.aM a m) (λz=>hj (by cases z;rfl))),ni.aM a m⟩⟩
end
@[simp] def eK:Option (OD)->Bool
 | some (some (.mp (.t _) _,_))=>true
 | some (some (.mp (.k _) _,_))=>true
 | _=>false
theorem j23{o:Option (OD)}(h:eK o=true):∃ k ds q,o=some (some (.mp k ds,q))/\(∀ C fs p,k ≠ .i C fs p):=by
 unfold eK at h;split at h
 ·exact⟨_,_,_,rfl,λ_ _ _ z=>nomatch z⟩
 ·exact⟨_,_,_,rfl,λ_ _ _ z=>nomatch z⟩
 ·cases h
theorem MK.gY{k:MK}(i:k.Is K a vs z)(n:∀ C fs p,k ≠ .i C fs p)(e:H a=some z):L2.zg H a:=by
 cases k with
 | t ks=>cases i;exact .inr ⟨_,.inl e⟩
 | k ks=>cases i;exact .inl ⟨_,.inl e⟩
 | i C fs p=>exact absurd rfl (n C fs p)
theorem Good.eK{t:Nat}(g:Good K ρ σ H w t)(h:eK ρ[i]? = true):∃ l,σ[i]? = some (some (.ref l))/\L2.zg H l:=by obtain⟨k,ds,q,e,n⟩:=j23 h;obtain⟨l,vs,z,h1,h2,h3,_,_⟩:=g.jL e;exact⟨l,h1,MK.gY h3 n h2⟩
@[simp] def Kt:aF:=λρ=>some (.mp (.t []) [],1,ρ)
@[simp] def Ku:aF:=λρ=>some (.mp (.k []) [],1,ρ)
def u0 (i:Nat)(fk:aF):aF:=λρ=>if eK ρ[i]? = true then match fk ρ with
 | some (x,_,ρ1)=>match ρ1[i]? with
  | some (some (.mp k ds,_))=>match q_ k ds x with
   | some (some d)=>some (d,c_ d,ρ1)
   | _=>none
  | _=>none
 | none=>none
 else none
def u3 (i:Nat)(fk fz:aF):aF:=λρ=>if eK ρ[i]? = true then match fk ρ with
 | some (x,_,ρ1)=>match fz ρ1 with
  | some (z,_,ρ2)=>match ρ2[i]? with
   | some (some (.mp k ds,_))=>match q_ k ds x with
    | some r=>some (r.getD z,c_ (r.getD z),ρ2)
    | none=>none
   | _=>none
  | none=>none
 | none=>none
 else none
def u5 (i:Nat)(fk fv:aF):aI:=λρ=>match fv ρ with
 | some (d,_,ρ1)=>if eK ρ1[i]? = true then match fk ρ1 with
  | some (x,_,ρ2)=>match ρ2[i]? with
   | some (some (.mp k ds,1))=>if ds.length<1000 then match xt k ds x d with
    | some (k',eG)=>some (.nx (ρ2.set i (some (.mp k' eG,1))))
    | none=>none
    else none
   | _=>none
  | none=>none
  else none
 | none=>none
def tB:List (List Key)->Option (List (Nat×Nat))
 | []=>some []
 | [.inl i,.inl j]::ks=>if 0<=i/\0<=j/\j<1000 then(tB ks).map ((i.toNat,j.toNat) :: ·)else none
 | _=>none
def xu (i:Nat):aF:=λρ=>match ρ[i]? with
 | some (some (.mp (.t ks) ds,_))=>match tB ks with
  | some kp=>if kp.length<64 then some (.lst ((kD kp).map mz),1,ρ)else none
  | none=>none
 | _=>none
theorem j25:∀ {ks:List (List Key)} {kp:List (Nat×Nat)},tB ks=some kp->ks=kp.map dh/\∀ x∈kp,x.2<1000:=by
 intro ks;induction ks with
 | nil=>intro kp h;cases h;exact⟨rfl,λx hx=>nomatch hx⟩
 | cons k ks ih=>
  intro kp h;unfold tB at h;split at h
  ·rename_i h0;cases h0
  next i j cY h0=>
   cases h0;split at h;next hb=>
    obtain⟨q9,e,rfl⟩:=QC.mp h;obtain⟨e1,e2⟩:=ih e;refine⟨?_,λx hx=>?_⟩
    ·rw[Qx,<- e1];have h1:Int.ofNat i.toNat=i:=Jg hb.1;have h2:Int.ofNat j.toNat=j:=Jg hb.2.1;show _=[Sum.inl (Int.ofNat i.toNat),Sum.inl (Int.ofNat j.toNat)]::_;rw[h1,h2]
    ·rcases Qs.mp hx with z|z
     ·rw[z];show j.toNat<1000;omega
     ·exact e2 x z
   ·cases h
  ·cases h
theorem Kv:∀ (kp:List (Nat×Nat)),(∀ x∈kp,x.2<1000)->tB (kp.map dh)=some kp
 | [],_=>rfl
 | x::kp,h=>by have ih:=Kv kp λy hy=>h y (Qf _ hy);have hx:=h x Qh;show(if 0<=Int.ofNat x.1/\0<=Int.ofNat x.2/\Int.ofNat x.2<1000 then(tB (kp.map dh)).map _ else none)=_;rw[Qi ⟨JS _,JS _,by show(x.2:Int)<1000;omega⟩,ih];rfl
section
variable {X:Cx}{a b c e:Expr}{fa fb fc f:aF}{p p1 pos pos' aC apos:Pos}{x:Str}{i:Nat}
theorem z80:QD X (.Dict [] [] pos) Kt:=⟨PE.imp RW λσ H Q aj=>by obtain⟨ρ,w,t,r',q,ρ',gd,ee,k⟩:=aj;cases ee;intro p hp;obtain⟨a1,a2,a3⟩:=Ks (k:=.t []) (vs:=[]) (ds:=[]) gd hp rfl rfl .nil;exact k _ _ _ _ a1 a2 a3⟩
theorem z7u:QD X (.Dict [] [] pos) Ku:=⟨PE.imp RV λσ H Q aj=>by obtain⟨ρ,w,t,r',q,ρ',gd,ee,k⟩:=aj;cases ee;intro p hp;obtain⟨a1,a2,a3⟩:=Ks (k:=.k []) (vs:=[]) (ds:=[]) gd hp rfl rfl .nil;exact k _ _ _ _ a1 a2 a3⟩
theorem j8j{k:Nat}(hr:bA k X.A)(h:QE X (.Name x p1) (iZ i))(hk:QD X b fb)(hs:Cb b:=by exact λ_ _=>rfl):QD X (.Subscript (.Name x p1) b pos) (u0 i fb):=⟨have h:=h.o;have hk:=hk.o;PE.imp (RP (zb hr) h hk hs) λσ H Q aj=>by
 obtain⟨ρ,w,t,r',q,ρ',gd,ee,kk⟩:=aj;unfold u0 at ee;split at ee;next hd=>
  obtain⟨l,ef,_⟩:=gd.eK hd;split at ee;next x0 q1 ρ1 h1=>
   split at ee;next k0 ds q2 e1=>
    split at ee;next d hg=>
     cases ee;refine⟨_,ef,ρ,w,t,_,_,_,gd,h1,λy H1 w1 F1 g1 aS r1=>?_⟩;obtain⟨l',vs,z,dw,hH,lK,_,rs⟩:=(g1.drop (t':=t)).jL e1;rw[ef]at dw;cases dw;obtain⟨rv,dg,v1,_⟩:=Kq hH lK rs r1 hg;obtain⟨v,rfl,rd⟩:=v1 _ rfl;exact⟨l,v,rfl,dg,oo kk gd g1 aS (rd.any (g1.drop (t':=t)).wl).j0⟩
    ·cases ee
   ·cases ee
  ·cases ee
 ·cases ee⟩
theorem Kw{k:Nat}(hr:bA k X.A)(h:QE X (.Name x p1) (iZ i))(hk:QD X b fb)(hz:QD X c fc)(cw:attributeBase (.Name x p1) "get" X.env (eval (.Name x p1) X.env)=eval (.Name x p1) X.env:=by rfl)(fF:((backTo aC (starEach [b,c] X.env)).all (λx=>!x.1)&&(backToKw aC (keywordEach [] X.env)).all (λx=>x.1.isSome)
   && decide (([b,c]:List Expr).length+([]:List Keyword).length+(if([]:List Keyword).isEmpty then 0 else 1)<30))=true:=by rfl) (cy:(apos.endLine==aC.line)=true:=by rfl) (Di:backTo aC (starEach [b,c] X.env)=[(false,eval b X.env),(false,eval c X.env)]:=by rfl):QD X (.Call (.Attribute (.Name x p1) "get" apos) [b,c] [] aC) (u3 i fb fc):=⟨have h:=h.o;have hk:=hk.o;have hz:=hz.o;PE.imp (Gq (zb hr) h hk hz ⟨cw,fF,cy,Di⟩) λσ H Q aj=>by
 obtain⟨ρ,w,t,r',q,ρ',gd,ee,kk⟩:=aj;unfold u3 at ee;split at ee;next hd=>
  obtain⟨l,ef,isd⟩:=gd.eK hd;split at ee;next x0 q1 ρ1 h1=>
   split at ee;next z0 q3 ρ2 h2=>
    split at ee;next k0 ds q2 e1=>
     split at ee;next r hg=>
      cases ee;refine⟨_,ef,l,rfl,isd,ρ,w,t,_,_,_,gd,h1,λy H1 w1 F1 g1 aS r1=>⟨ρ1,w1,t+1,_,_,_,g1,h2,λzv H2 w2 F2 g2 cD r2=>?_⟩⟩;have gg:=g2.drop (t':=t);obtain⟨l',vs,z,dw,hH,lK,_,rs⟩:=gg.jL e1;rw[ef]at dw;cases dw;have rx:=r1.gone g1.wl cD;have rz:=r2.drop (o:=.t t) (t':=t) (by omega);obtain⟨rv,dg,v1,v2⟩:=Kq hH lK rs rx hg;refine⟨rv,dg,?_⟩;cases r with
      | none=>
       rw[v2 rfl];exact oo kk gd g2 (aS.trans cD) rz.j0
      | some d=>
       obtain⟨v,rfl,rd⟩:=v1 d rfl;exact oo kk gd g2 (aS.trans cD) (rd.any gg.wl).j0
     ·cases ee
    ·cases ee
   ·cases ee
  ·cases ee
 ·cases ee⟩
theorem Kx{k:Nat}(hr:bA k X.A)(h:QE X (.Name x p1) (iZ i))(hk:QD X b fb)(hv:QD X e f)(hs:swapsWith e (some (.Subscript (.Name x p1) b pos')) pos.line X.env=pure false:=by rfl):lN X (.Assign [.Subscript (.Name x p1) b pos'] e pos) (u5 i fb f):=⟨have h:=h.o;have hk:=hk.o;have hv:=hv.o;PS.imp (RQ (zb hr) h hk hv hs) λDn σ H aj=>by
 obtain⟨ρ,w,o,gd,ee,kk⟩:=aj;unfold u5 at ee;split at ee;next d q0 ρ1 h0=>
  split at ee;next hd=>
   split at ee;next x0 q1 ρ2 h1=>
    split at ee;next k0 ds e1=>
     split at ee;next iE=>
      split at ee;next k' eG hp=>
       cases ee;refine⟨ρ,w,0,_,_,_,gd,h0,λu H1 w1 F1 g1 aS r1=>?_⟩;obtain⟨l,ef,_⟩:=g1.eK hd;refine⟨_,ef,ρ1,w1,1,_,_,_,g1,h1,λy H2 w2 F2 g2 cD r2=>?_⟩;have gg:=g2.drop (t':=0);obtain⟨l',vs,z,dw,hH,lK,hl,rs,mk⟩:=gg.D5 e1;rw[ef]at dw;cases dw;have rv:=((r1.gone g1.wl cD).drop (o:=.f) (t':=0) (Qj 0));obtain⟨z',ip,dp,i',l',uK⟩:=j4g hH lK hl iE rs r2 rv hp;obtain⟨m1,m2⟩:=mk k' eG ip z' i' l' uK;exact⟨l,_,rfl,dp,kk σ _ _ rfl m1 (((aS.trans cD).drop gd.wt).trans m2)⟩
      ·cases ee
     ·cases ee
    ·cases ee
   ·cases ee
  ·cases ee
 ·cases ee⟩
theorem z7l(hc:X.calm=true)(hm:X.mg "sorted" = none)(h:QE X (.Name x p1) (iZ i))(oM:bootBuiltins "sorted" = some (.builtin "sorted"):=by kernel_rfl)(hg:Gl X "sorted":=by rfl)(hs:starEach [.Name x p1] X.env=(false,eval (.Name x p1) X.env)::starEach [] X.env:=by rfl)(cA:(backTo pos (starEach [] X.env)).any (·.1)=false:=by rfl):QD X (.Call (.Name "sorted" p) [.Name x p1] [] pos) (xu i):=⟨have h:=h.o;by
 refine PE.imp (o9 (z37 hc) hg hm oM (ma h mO hs) (by decide) (by decide) hs cA) λσ H Q aj=>?_;obtain⟨ρ,w,t,r',q,ρ',gd,ee,k⟩:=aj;unfold xu at ee;split at ee;next ks ds q1 e1=>
  split at ee;next kp hp=>
   split at ee;next q8=>
    cases ee;obtain⟨l,vs,z,ef,hH,lK,hl,rs⟩:=gd.jL e1;cases lK;obtain⟨ek,jM⟩:=j25 hp;refine⟨_,ef,l,_,kp,rfl,hH,?_,q8,jM,λl cY cs hl pm so xn=>?_⟩
    ·rw[List.map_fst_zip (by have:ks.length=ds.length:=hl;have:=rs.length;omega)];exact ek
    ·have es:=AD jM pm so;subst es;obtain⟨a1,a2,a3⟩:=oq gd hl (DW xn);exact k _ _ _ _ a1 a2 a3
   ·cases ee
  ·cases ee
 ·cases ee⟩
end
theorem k0g{h':Heap}{t':Nat}(I:Inv X Tk σ H s)(k:∀ b u,s.heap.get? b=some u->h'.get? b=some u)(up:∀ b x,H b=some x->H' b=some x)(nw:∀ b,H' b≠H b->s.heap.get? b=none)
  (ok:∀ b x,H' b=some x->H b=none->dA X.prog X.w H' h' b x):Inv X Tk σ H' { s with heap:=h',toks:=t' }:=by
 have un:Un X.fs [] H H' s.heap h':={
  keep:=λb u q _ _ _=>k b u q
  slot:=λb u q _ _ _=>⟨u.slots,k b u q⟩
  free:=λb u q n _=>by
   by_cases e:H' b=H b
   ·rw[e];exact n
   ·rw[nw b e]at q;cases q
  there:=λb u q _=>⟨u,k b u q⟩
  iy:=λb xs q=>up b _ q
  gN:=λb u xs q=>up b _ q
  iz:=λb ps q=>⟨#[],by rw[up b _ q];simp⟩ }
 refine I.un un λb x e=>?_;cases q:H b with
 | none=>exact ok b x e q
 | some y=>
  have:=up b y q;rw[e]at this;cases this;exact(I.aG b x q).ix (λc v _ z=>k c v z) (λc z=>up c _ z) λc xs z=>up c _ z
def IV (r d:Addr):Heap->Prop:=λh=>h.IsItemsView r d
def j6p (td:TE):TE:=λσ H Q=>td σ H λx H1=>∃ a au,x=.ref a/\H1 a=some (.dK au)/\∀ p,H1 p=none->Q (.ref p) (upd H1 p (.ext (IV p a)))
section
variable {X:Cx}{o:Expr}{apos aC:Pos}{td:TE}
theorem z90(ho:PE X o td)(cw:attributeBase o "items" X.env (eval o X.env)=eval o X.env:=by rfl)(cy:(apos.endLine==aC.line)=true:=by rfl):PE X (.Call (.Attribute o "items" apos) [] [] aC) (j6p td):=by intro Tk s σ H Q I h;refine wpAny_Call_method (T:="dict") (id:="dict.items") cw rfl cy VL VN PySem.F.type_dict_items (bg (ho Tk s σ H _ I h) λu s1 aj=>?_);obtain⟨x,H1,I1,rx,a,au,ex,e,q⟩:=aj;subst ex;obtain rfl:u=Value.ref a:=rx;obtain⟨_,lo,vs,_,hm⟩:=zc I1.aG e;refine⟨hm.typeIs,hm.mapOf.noDict,?_⟩;show wpAny _ _ (callWith aC (.builtin "dict.items") [.ref a] [] []) _ _ s1;refine method_meetsIn VN PySem.F.entry_dict_items rfl (PyProof.Rows.evalArgs_none ⟨rfl,hm.typeIs,PySem.F.args_dict_items_1 _,_,meets_dict_items (ig X.prog X.w) a lo,⟨vs,hm⟩,?_⟩);have g:(s1.heap.push { cls:=.type "dict_items",data:=.fields #[.ref a] }).get? s1.heap.objs.size=some { cls:=.type "dict_items",data:=.fields #[.ref a] }:=Qp _ rfl;refine⟨.ref s1.heap.objs.size,_,I1.laid (a:=s1.heap.objs.size) (o:=.ext (IV s1.heap.objs.size a)) (t':=s1.toks) (λ_ _ q=>Qd _ q) (Qj _) ⟨⟨_,g,rfl,rfl⟩,⟨_,g⟩,λh1 h2 x k=>?_⟩,rfl,q _ (I1.aG.fresh (Qj _))⟩;obtain⟨o,e1,e2⟩:=x;exact⟨o,k o e1,e2⟩
theorem Kz{P:Program}{w:World}{o:HO}(x:dA P w H h a o):∃ ob,h.get? a=some ob:=by
 cases o with
 | lst xs=>obtain⟨_,_,_,_,e⟩:=x;exact⟨_,e⟩
 | tup xs=>obtain⟨_,_,_,o,e,_⟩:=x;exact⟨_,e⟩
 | dK au=>obtain⟨_,_,_,_,o,_,_,e,_⟩:=x;exact⟨_,e⟩
 | dT au=>obtain⟨_,_,_,_,o,_,_,e,_⟩:=x;exact⟨_,e⟩
 | set S n=>obtain⟨o,_,_,_,e,_⟩:=x;exact⟨_,e⟩
 | ins C dx fs=>obtain⟨_,_,_,e,_⟩:=x;exact⟨_,e⟩
 | own y=>obtain⟨_,e⟩:=x;exact⟨_,e⟩
 | xd fs=>obtain⟨_,⟨_,_,_,e,_⟩,_⟩:=x;exact⟨_,e⟩
 | l_ lo hi=>obtain⟨_,_,_,e⟩:=x;exact⟨_,e⟩
 | ij ob u=>obtain⟨e,_⟩:=x;exact⟨_,e⟩
 | iP ps=>exact⟨_,show h.get? a=some _ from x⟩
 | met f y=>exact⟨_,show h.get? a=some _ from x⟩
 | ext φ=>obtain⟨_,⟨_,e⟩,_⟩:=x;exact⟨_,e⟩
abbrev D6 (x:Nat×Nat):Key×V:=(.inl (Int.ofNat x.1),.int (Int.ofNat x.2))
theorem KA:∀ {kp:List (Nat×Nat)} {vs:List (Key×Value)},KV (kp.map D6) vs->vs.length=kp.length/\∀ (i:Nat) (x:Nat×Nat),kp[i]? = some x->∃ t,vs[i]? = some (.inl (Int.ofNat x.1),.int (Int.ofNat x.2) t)
 | [],_,r=>by cases r;exact⟨rfl,λi x e=>by simp at e⟩
 | y::kp,_,r=>by
  rw[Qx]at r;cases r with
  | @cons p q ps qs h t=>
   obtain⟨l,ih⟩:=KA t;obtain⟨q1,q2⟩:=q;obtain⟨h1,tt,h2⟩:=h;dsimp only at h1 h2;subst h1 h2;refine⟨by rw[Qz,Qz,l],λi x e=>?_⟩;cases i with
   | zero=>cases e;exact⟨tt,rfl⟩
   | succ i=>exact ih i x e
theorem z2p(hc:X.calm=true):kO X (.builtin "sorted") (λxs H Q=>∃ r a kp,xs=[.ref r]/\H r=some (.ext (IV r a))/\H a=some (.dK (kp.map D6))/\kp.length<64/\(∀ x∈kp,x.2<1000) /\
  ∀ H' p ks cs,(∀ b x,H b=some x->H' b=some x)->(∀ b ps,H' b=some (.iP ps)->H b=some (.iP ps))->H' p=none->ks.Perm kp->(∀ i j,i<=j->j<ks.length->rk (ks.getD i (0,0))<=rk (ks.getD j (0,0)))->xk X.K H' ks cs->Q (.ref p) (upd H' p (.lst (cs.map V.ref)))):=by
 intro Tk s σ H xs us Q I r hh;obtain⟨rr,a,kp,rfl,hr,ha,iE,hb,q⟩:=hh;obtain⟨u,rfl,ru⟩:=mM r;cases ru;obtain⟨hv,_,_⟩:=I.aG _ _ hr;obtain⟨_,lo,vs,kv,⟨od,es,ep,ho,xw⟩⟩:=zc I.aG ha;have hm:s.heap.DictAt (ig X.prog X.w) a vs ep:=⟨od,es,ho,xw⟩;obtain⟨lv,D7⟩:=KA kv;refine J7 kind_sorted plain_sorted entry_sorted (args_sorted1 _) ?_;unfold Builtin.«sorted»;refine Qa (m:=checkCount "sorted" 1 1 _) (Qe (Qa (kdx_collect (A:=X.A.in1) (knd:=ig X.prog X.w) (I.ok.hd hc) hv hm (YA (by rw[lv];omega)) λh' tk as hk hl hG=>?c1)))
 case c1=>
 have D8:(as.map Value.ref).length=kp.length:=by rw[Qc,hl,lv]
 have jF:∀ (i:Nat) (x:Nat×Nat),kp[i]? = some x->∃ b t1 t2,as[i]? = some b/\h'.get? b=some { cls:=.type "tuple",data:=.seq #[.int (Int.ofNat x.1) t1,.int (Int.ofNat x.2) t2] }:=λi x e=>by
  have hi:=(QN.mp e).1;have ea:as[i]? = some (as[i]'(by rw[hl,lv];exact hi)):=Qb _;obtain⟨key,k,y,e1,e2,e3⟩:=hG.pairs i _ ea;obtain⟨t2,e4⟩:=D7 i x e;rw[e4]at e1;cases e1;rw[NR]at e2;rcases L2.nZ e2 with⟨j,t1,z1,z2⟩|⟨j,t1,z1,z2⟩
  ·cases z1;subst z2;exact⟨_,t1,t2,ea,e3⟩
  ·cases z1
 have T0:oJ X.prog X.w h' (as.map Value.ref) kp:=⟨D8,λi x e=>by obtain⟨b,t1,t2,e1,e2⟩:=jF i x e;exact⟨b,by rw[Qm,e1];rfl,_,_,_,e2,rfl,rfl,.cons (VZ _ _ _ _) (.cons (VZ _ _ _ _) .nil)⟩⟩
 refine Qa (VF ?c2 (by rw[D8];exact YA (by omega)))
 case c2=>
 have T1:oJ X.prog X.w (h'.push (seqObj "list" (as.map Value.ref).toArray 0)) (as.map Value.ref) kp:=T0.keep λb o q _=>Qd _ q;have oL:(h'.push (seqObj "list" (as.map Value.ref).toArray 0)).get? h'.objs.size=some (seqObj "list" (as.map Value.ref).toArray 0):=Qp _ rfl;refine Qa (Zc (QY slot_list_sort ⟨_,oL,rfl⟩ entry_list_sort (I9 (s:={ s with heap:=h'.push (seqObj "list" (as.map Value.ref).toArray 0),toks:=tk }) oL T1 hb (by rw[D8];exact iE) λout cY o1 om o2 o3=>⟨_,rfl,?c3⟩) (args_list_sort _)))
 case c3=>
 refine Qe ⟨_,rfl,?c4⟩
 case c4=>
 have up:∀ (G:Heap) (f:Array Value->Array Value),(∀ b o,h'.get? b=some o->G.get? b=some o)->∀ b o,h'.get? b=some o->(G.update h'.objs.size (Obj.mapSeq f)).get? b=some o:=
  λG f q b o e=>(ZS _ _ (Y2 (Qq e))).trans (q b o e)
 unfold sortedHeap;have g1:=Jt oL (λ_=>(#[]:Array Value));have g4:=Jt (Qd (seqObj "list" #[] 0) (Qd (seqObj "tuple" (as.map Value.ref).toArray 0) g1)) (λ_=>out.toArray);have KC:∀ b o,h'.get? b=some o->_:=up _ (λ_=>out.toArray) λb o e=>Qd (seqObj "list" #[] 0) (Qd (seqObj "tuple" (as.map Value.ref).toArray 0) (up _ (λ_=>(#[]:Array Value)) (λb o e=>Qd (seqObj "list" (as.map Value.ref).toArray 0) e) b o e));obtain⟨cs,rfl⟩:∃ cs:List Addr,out=cs.map Value.ref:=by
  have:∀ (l:List Value),(∀ v∈l,v∈as.map Value.ref)->∃ cs:List Addr,l=cs.map Value.ref:=by
   intro l;induction l with
   | nil=>intro _;exact⟨[],rfl⟩
   | cons v l ih=>
    intro h;obtain⟨cs,e⟩:=ih λw hw=>h w (Qf _ hw);obtain⟨b,_,rfl⟩:=Qk.mp (h v Qh);exact⟨b::cs,by rw[e];rfl⟩
  exact this out om
 have lc:cs.length=cY.length:=by have:=o1.1;rwa [Qc]at this
 let kE:Addr->Option (Nat×Nat):=λb=>((as.zip kp).find? λy=>decide (y.1=b)).map (·.2)
 let Hn:Hp:=λb=>match kE b with
  | some x=>some (.tup [.int (Int.ofNat x.1),.int (Int.ofNat x.2)])
  | none=>H b
 have fS:∀ b x,kE b=some x->∃ i,as[i]? = some b/\kp[i]? = some x:=λb x e=>by
  obtain⟨y,e1,rfl⟩:=QC.mp e;have m:=List.mem_of_find?_eq_some e1;have hy:=List.find?_some e1;have hy:y.1=b:=QM hy;obtain⟨i,hi,e2⟩:=Zg m;refine⟨i,?_,?_⟩
  ·rw[<- hy,<- e2];rw[VO];exact Qb _
  ·rw[<- e2,VO];exact Qb _
 have fN:∀ b,b∈as->∃ x,kE b=some x:=λb m=>by
  obtain⟨i,hi,e⟩:=Zg m;have hz:i<(as.zip kp).length:=by rw[Js,hl,lv];rw[hl,lv]at hi;omega
  cases q:kE b with
  | some x=>exact⟨x,rfl⟩
  | none=>
   have q':(as.zip kp).find? (λy=>decide (y.1=b))=none:=Option.map_eq_none_iff.mp q;have:=List.find?_eq_none.mp q' _ (QW hz);rw[VO]at this;exact absurd (Qr e) this
 have r_:∀ b,b∈as->s.heap.objs.size<b/\∃ o,h'.get? b=some o:=λb m=>by refine⟨hG.above b m,?_⟩;obtain⟨i,hi,e⟩:=Zg m;obtain⟨_,_,_,_,_,e3⟩:=hG.pairs i b (by rw[Qb hi,e]);exact⟨_,e3⟩
 have fA:∀ b x,kE b=some x->b∈as:=λb x e=>by obtain⟨i,e1,_⟩:=fS b x e;exact QK e1
 have KD:∀ b x,H b=some x->Hn b=some x:=λb x e=>by
  have:kE b=none:=by
   cases z:kE b with
   | none=>rfl
   | some y=>
    have:=(r_ b (fA b y z)).1;exact absurd ((I.aG b x e).lt) (Nat.not_lt.mpr (Z6 this))
  show(match kE b with|some x=>_|none=>H b)=_;rw[this];exact e
 have tE:∀ b x,Hn b=some x->H b=some x\/∃ y,kE b=some y/\x=.tup [.int (Int.ofNat y.1),.int (Int.ofNat y.2)]:=λb x e=>by
  cases z:kE b with
  | none=>
   have e':(match kE b with|some x=>some (HO.tup [.int (Int.ofNat x.1),.int (Int.ofNat x.2)])|none=>H b)=some x:=e;rw[z]at e';exact .inl e'
  | some y=>
   have e':(match kE b with|some x=>some (HO.tup [.int (Int.ofNat x.1),.int (Int.ofNat x.2)])|none=>H b)=some x:=e;rw[z]at e';cases e';exact .inr ⟨y,rfl,rfl⟩
 have hp:s.heap.get? h'.objs.size=none:=by
  cases z:s.heap.get? h'.objs.size with
  | none=>rfl
  | some o=>exact absurd (Qq (hk _ o z)) (QT _)
 have pas:h'.objs.size ∉ as:=λm=>by obtain⟨o,e⟩:=(r_ _ m).2;exact absurd (Qq e) (QT _)
 have KG:H h'.objs.size=none:=by
  cases z:H h'.objs.size with
  | none=>rfl
  | some x=>
   obtain⟨o,e⟩:=Kz (I.aG _ x z);rw[hp]at e;cases e
 have Hnp:Hn h'.objs.size=none:=by
  cases z:Hn h'.objs.size with
  | none=>rfl
  | some x=>
   rcases tE _ x z with y|⟨y,y1,_⟩
   ·rw[KG]at y;cases y
   ·exact absurd (fA _ _ y1) pas
 have as0:∀ b,b∈as->H b=none/\s.heap.get? b=none:=λb m=>by
  have e0:s.heap.get? b=none:=by
   cases z:s.heap.get? b with
   | none=>rfl
   | some o=>exact absurd (JJ (Qq z) (r_ b m).1) (QT _)
  refine⟨?_,e0⟩;cases z:H b with
  | none=>rfl
  | some x=>
   obtain⟨o,e⟩:=Kz (I.aG _ x z);rw[e0]at e;cases e
 refine⟨.ref h'.objs.size,upd Hn h'.objs.size (.lst (cs.map V.ref)),k0g (s:=s) (t':=tk) I (λb u e=>KC b u (hk b u e)) (λb x e=>?_) (λb e=>?_) (λb x e n=>?_),rfl,q Hn _ cY cs KD (λb ps e=>?_) Hnp o2 o3 ⟨lc.symm,λi x b x1 x2=>?_⟩⟩
 ·rw[a_ (gC e KG)];exact KD b x e
 ·by_cases eZ:b=h'.objs.size
  ·rw[eZ];exact hp
  ·rw[a_ eZ]at e;cases z:kE b with
   | none=>
    have:Hn b=H b:=by show(match kE b with|some x=>_|none=>H b)=_;rw[z]
    exact absurd this e
   | some y=>exact(as0 b (fA b y z)).2
 ·by_cases eZ:b=h'.objs.size
  ·subst eZ;rw[fD]at e;cases e;exact⟨YA (by rw[Qc,lc,o2.length_eq];omega),cs.map Value.ref,_,Ar cs,g4⟩
  ·rw[a_ eZ]at e;rcases tE b x e with y|⟨y,y1,rfl⟩
   ·rw[n]at y;cases y
   ·obtain⟨i,z1,z2⟩:=fS b y y1;obtain⟨b',t1,t2,e1,e2⟩:=jF i y z2;rw[z1]at e1;cases e1;exact⟨YA (by show 2<=_;decide),[.int (Int.ofNat y.1) t1,.int (Int.ofNat y.2) t2],.cons ⟨t1,rfl⟩ (.cons ⟨t2,rfl⟩ .nil),_,KC _ _ e2,rfl,⟨_,rfl⟩,rfl⟩
 ·rcases tE b _ e with y|⟨y,_,y2⟩
  ·exact y
  ·cases y2
 ·obtain⟨a',y1,y2⟩:=o1.2 i x x1;rw[Qm,x2]at y1;cases y1;have mb:b∈as:=by obtain⟨b',eZ,e⟩:=Qk.mp (om (.ref b) (Qk.mpr ⟨b,QK x2,rfl⟩));cases e;exact eZ
  obtain⟨y,hy⟩:=fN b mb;obtain⟨j,z1,z2⟩:=fS b y hy;obtain⟨b',z3,z4⟩:=T1.2 j y z2;rw[Qm,z1]at z3;cases z3;have:=Kd (z4.inj y2);subst this;show(match kE b with|some x=>_|none=>H b)=_;rw[hy]
end
def rf:List Key->List D->Option (List (Nat×Nat))
 | [],[]=>some []
 | .inl i::ks,.int j::ds=>if 0<=i/\0<=j/\j<1000 then(rf ks ds).map ((i.toNat,j.toNat) :: ·)else none
 | _,_=>none
theorem j17:∀ {ks:List Key} {ds:List D} {kp:List (Nat×Nat)} {vs:List V},rf ks ds=some kp->af K H w o 0 ds vs []->ks.zip vs=kp.map D6/\∀ x∈kp,x.2<1000:=by
 intro ks;induction ks with
 | nil=>
  intro ds kp vs h r;cases ds with
  | nil=>cases h;exact⟨rfl,λx hx=>nomatch hx⟩
  | cons _ _=>cases h
 | cons k ks ih=>
  intro ds kp vs h r;unfold rf at h;split at h
  ·rename_i h0;cases h0
  next i cY j eG h0=>
   cases h0;split at h;next hb=>
    obtain⟨q9,e,rfl⟩:=QC.mp h;obtain⟨v,us,rfl,r1,s⟩:=r.split;obtain⟨e1,e2⟩:=ih e s;have hv:v=.int j:=by cases r1;rfl
    subst hv;refine⟨?_,λx hx=>?_⟩
    ·rw[Qx,<- e1];have h1:Int.ofNat i.toNat=i:=Jg hb.1;have h2:Int.ofNat j.toNat=j:=Jg hb.2.1;show _=(Sum.inl (Int.ofNat i.toNat),V.int (Int.ofNat j.toNat))::_;rw[h1,h2];rfl
    ·rcases Qs.mp hx with z|z
     ·rw[z];show j.toNat<1000;omega
     ·exact e2 x z
   ·cases h
  ·cases h
theorem KH:∀ (kp:List (Nat×Nat)),(∀ x∈kp,x.2<1000)->rf (kp.map λx=>.inl (Int.ofNat x.1)) (kp.map λx=>.int (Int.ofNat x.2))=some kp
 | [],_=>rfl
 | x::kp,h=>by have ih:=KH kp λy hy=>h y (Qf _ hy);have hx:=h x Qh;show(if 0<=Int.ofNat x.1/\0<=Int.ofNat x.2/\Int.ofNat x.2<1000 then(rf (kp.map λx=>.inl (Int.ofNat x.1)) (kp.map λx=>.int (Int.ofNat x.2))).map _ else none)=_;rw[Qi ⟨JS _,JS _,by show(x.2:Int)<1000;omega⟩,ih];rfl
def AG (i:Nat):aF:=λρ=>match ρ[i]? with
 | some (some (.mp (.k ks) ds,_))=>match rf ks ds with
  | some kp=>if kp.length<64 then some (.lst ((kD kp).map mz),1,ρ)else none
  | none=>none
 | _=>none
section
variable {X:Cx}{p p1 pos apos aC:Pos}{x:Str}{i:Nat}
theorem y8g(hc:X.calm=true)(hm:X.mg "sorted" = none)(h:QE X (.Name x p1) (iZ i))(oM:bootBuiltins "sorted" = some (.builtin "sorted"):=by kernel_rfl)(hg:Gl X "sorted":=by rfl)(cw:attributeBase (.Name x p1) "items" X.env (eval (.Name x p1) X.env)=eval (.Name x p1) X.env:=by rfl)(cy:(apos.endLine==aC.line)=true:=by rfl)(hs:starEach [.Call (.Attribute (.Name x p1) "items" apos) [] [] aC] X.env=(false,eval (.Call (.Attribute (.Name x p1) "items" apos) [] [] aC) X.env)::starEach [] X.env:=by rfl)(cA:(backTo pos (starEach [] X.env)).any (·.1)=false:=by rfl):QD X (.Call (.Name "sorted" p) [.Call (.Attribute (.Name x p1) "items" apos) [] [] aC] [] pos) (AG i):=⟨have h:=h.o;by
 refine PE.imp (o9 (z2p hc) hg hm oM (ma (z90 h cw cy) mO hs) (by decide) (by decide) hs cA) λσ H Q aj=>?_;obtain⟨ρ,w,t,r',q,ρ',gd,ee,k⟩:=aj;unfold AG at ee;split at ee;next ks ds q1 e1=>
  split at ee;next kp hp=>
   split at ee;next q8=>
    cases ee;obtain⟨l,vs,z,ef,hH,lK,hl,rs⟩:=gd.jL e1;cases lK;obtain⟨ek,jM⟩:=j17 hp rs;rw[ek]at hH;refine⟨_,ef,l,_,rfl,hH,λr hr=>⟨r,l,kp,rfl,fD,by rw[a_ (gC hH hr)];exact hH,q8,jM,λH' p cY cs up tb hp pm so xn=>?_⟩⟩;have es:=AD jM pm so;subst es;have mo:Mo X.K H H':=⟨λa x e=>up a x (by rw[a_ (gC e hr)];exact e),λt=>?_⟩
    ·obtain⟨g1,aS⟩:=gd.more mo;obtain⟨a1,a2,a3⟩:=oq g1 hp (DW xn);exact k _ _ _ _ a1 (aS.trans a2) a3
    ·have bk:∀ P ps,H' P=some (.iP ps)->H P=some (.iP ps):=λP ps e=>by
      have:=tb P ps e;by_cases hP:P=r
      ·subst hP;rw[fD]at this;cases this
      ·rw[a_ hP]at this;exact this
     have fw:∀ a x,H a=some x->H' a=some x:=λa x e=>up a x (by rw[a_ (gC e hr)];exact e);refine⟨λP ps e=>t.tr P ps (bk P ps e),λP ps e pos cv hc=>?_,λx hx c P hP=>?_⟩
     ·obtain⟨c,oc,u,vs,q,tt,h1,h2,h3⟩:=t.cd P ps (bk P ps e) pos cv hc;exact⟨c,oc,u,vs,q,tt,h1,fw _ _ h2,h3⟩
     ·obtain⟨ps,e⟩:=t.is x hx c P hP;exact⟨ps,fw _ _ e⟩
   ·cases ee
  ·cases ee
 ·cases ee⟩
end
end L3
namespace L3
open PySem PySem.Spec PyProof.Rows L2
variable {K:PySem.W.Frag}{N ps:List Str}{P:Program}{X:Cx}{base:Heap}{body:aI}{es:List Expr}{g:cK}{mg:Str->Option Value}{st:Stmt}{w:World}{x:Str}
theorem qv(i:Nat){pos:Pos}(hN:X.N[i]? = some x:=by rfl)(hv:ug X.env.scope x:=by first|exact Or.inl rfl|exact Or.inr (Or.inl rfl)|exact Or.inr (Or.inr rfl))(hd:(x==("__debug__":Str))=false:=by decide)(i3:(x==("__classdict__":Str))=false:=by decide):QE X (.Name x pos) (iZ i):=⟨pv i hN hv hd i3⟩
theorem ql(i:Nat){pos:Pos}(hN:X.N[i]? = some x)(hv:X.env.scope.names.lookup x=some .local)(hd:(x==("__debug__":Str))=false:=by decide)(i3:(x==("__classdict__":Str))=false:=by decide):QE X (.Name x pos) (iZ i):=⟨pv i hN (.inl hv) hd i3⟩
theorem pZ{e:Expr}{f:cS}(h:sA X e f):jt X e f:=⟨PW.pt h.o⟩
theorem aD(i:Nat){pos:Pos}(hN:X.N[i]? = some x)(hv:X.env.scope.names.lookup x=some .local)(hd:(x==("__debug__":Str))=false:=by decide)(i3:(x==("__classdict__":Str))=false:=by decide):QD X (.Name x pos) (aa i):=aX (ql i hN hv hd i3)
theorem aB(i:Nat){pos:Pos}(hN:X.N[i]? = some x)(hv:X.env.scope.names.lookup x=some .local)(hr:iq X es g)(hd:(x==("__debug__":Str))=false:=by decide)(i3:(x==("__classdict__":Str))=false:=by decide):iq X (.Name x pos::es) (ae (aa i) g):=av (aD i hN hv hd i3) hr cX
theorem cP{i:Int}{j:Nat}{pos:Pos}(hr:iq X es g):iq X (.Constant (.int i) j pos::es) (ae (eC (.int i)) g):=av aY hr zV
theorem aw.cN{k:Nat}(a:At K mg x st ps)(S:ag N ps (bB st))
  (h:∀ (f:Addr) (cO:Value) (A:Around) (outer:List Env) (s:Shared) (H:Hp) (E:XK),bA k (A.deeper (envOfC x (bB st) s.heap.objs.size f cO))->iI (mP jZ P w K mg base N x (bB st) f cO A outer s H E).n8 (kR st) body) :
  aw P w K mg base (k+1) x ps.length (bT N.length body):=aw.mk a S λf cO A outer s H E hr=>(h f cO A outer s H E hr).o
theorem j1x{k:Nat}{f:Addr}{fd:FuncData}(F:mV K x x st f fd)(S:ag N ps (bB st))
  (h:∀ (f:Addr) (cO:Value) (A:Around) (outer:List Env) (s:Shared) (H:Hp) (E:XK),bA k (A.deeper (envOfC x (bB st) s.heap.objs.size f cO))->iI (mP jZ P w K mg base N x (bB st) f cO A outer s H E).n8 (kR st) body) :
  eU P w K mg base jZ (k+1) f fd ps (lL K ps.length (bT N.length body)):=UW F S λf cO A outer s H E hr=>(h f cO A outer s H E hr).o
end L3
namespace L3
open PySem PySem.Spec PyProof.Rows PySem.W L2
variable {K:PySem.W.Frag}{x:Str}
theorem j8x(a:nsIn K mainGlobals x=some none):tabIn K x=none:=by unfold tabIn;rw[a]
theorem T0.of(h1:tabIn K "turned" = none)(h2:tabIn K "chain_ladder" = none)(h3:tabIn K "flat_ladder" = none)(h4:tabIn K "paired" = none)(h5:tabIn K "height_of" = none)(h6:tabIn K "_law_high" = none):∀ x∈uv,tabIn K x=none:=λx hx=>by unfold uv at hx;simp only[Qs,Qw,Yu]at hx;rcases hx with rfl|rfl|rfl|rfl|rfl|rfl<;>assumption
theorem z73{l:PySem.W.OpenLaw}{n k:Nat}{q:Program}{loose:List Str}{XP:(Str->Option Value)->Heap->Prop}{YP:World->Heap->Prop}{d:DefRec}{K:Params->PySem.W.Frag}{F0:List D->OD}
  (hn:l.most=some n) (zm:n<=sizeLine) (v8:d.params.defaults=[]) (hr:bA k callerA) (hY:∀ (w:World) (h:Heap),YP w h->(K w.params).In h)
  (F:∀ (w:World) (mg:Str->Option Value) (fa:Addr) (h:Heap),(K w.params).In h->h.Ns mainGlobals mg->mg d.name=some (.ref fa)->(∀ x∈uv,tabIn (K w.params) x=none) /\
    ∃ fd:FuncData,(∀ (s:Shared) (u:Value),BindsTo s fd ⟨[u],[]⟩ [(x,u)])/\∀ base:Heap,(K w.params).In base->base.Ns mainGlobals mg->eU l.prog w (K w.params) mg base jZ k fa fd [x] (lL (K w.params) 1 F0))
  (oe:∀ (w:World) (H:Hp) (a:Addr) (ns:List Int),ns.length<=n->TB (K w.params) H->cW (K w.params) H a (ns.map V.int)->lL (K w.params) 1 F0 [.ref a] H (λv _=>v=.bl true) λ_ _ _=>False) :
  PySem.W.WalkO q loose XP YP l.row.toRowW d [] (λf vs=>PySem.call f vs):=by refine Gc.RB hn v8 λw cF aV mg mb fa o pm cd doc a vs ns G Y ho hd i3 hmg rY hints hlen hg=>?_;have KX:=hY w _ Y;obtain⟨hT,fd,hb,hF⟩:=F w mg fa _ KX G.T.g hmg;exact RD KX G.T.g G.T.b G.T.builtins G.T.nolimit hg rY hints (QJ hlen zm) hr hF hb (λH hO hS=>oe w H a ns hlen (TB.only hO hT) hS) λ_ _ _ z=>z
def hI (v:Nat):Int:=if v=7 then -2 else Int.ofNat v
end L3
namespace L3
open PySem PySem.Spec PyProof.Rows L2
theorem p6{k:Nat}{pt:gE}{tt:cS}{te:aF}{deep:Bool}:∀ (ds:List D) (S:Nat->aW) (b:Nat->Bool) (v:Nat->D),
  (∀ i (h:i<ds.length),∃ ρ1 ρ2,pt ds[i] (S i++replicate k none)=some ρ1/\tt ρ1=some (b i,ρ2) /\
    (if b i=true then ∃ q gG,te ρ2=some (v i,q,gG)/\¬ (deep=true/\(v i).cR=true/\q≠1)/\gG.take (S i).length=S (i+1)else ρ2.take (S i).length=S (i+1)))->
  jH k pt tt te deep ds (S 0)=some (((range ds.length).filter b).map v,S ds.length)
 | [],S,b,v,_=>rfl
 | d::ds,S,b,v,h=>by
  obtain⟨ρ1,ρ2,h1,h2,h3⟩:=h 0 (by simp);have ih:=p6 ds (λi=>S (i+1)) (λi=>b (i+1)) (λi=>v (i+1)) (λi hi=>h (i+1) (by simpa using hi));have er:((range (d::ds).length).filter b).map v=(if b 0=true then [v 0]else [])++((range ds.length).filter λi=>b (i+1)).map λi=>v (i+1):=by rw[Qz,JT,List.filter_cons,List.filter_map];split<;>simp[J1]
  rw[er];unfold jH;rw[show pt d (S 0++replicate k none)=some ρ1 from h1];simp only[h2];split at h3;next hb=>
   obtain⟨q,gG,h4,h5,h6⟩:=h3;simp only[hb,ZC,h4,Ql h5,h6,ih];rfl
  next hb=>
   simp only[hb,h3,ih];rfl
theorem kh{pt:gE}{body:aI}:∀ (ds:List D) (I:Nat->aW->Prop) (ρ:aW),(∀ i (h:i<ds.length) ρ,I i ρ->∃ ρ1 ρ2,pt ds[i] ρ=some ρ1/\(body ρ1=some (.nx ρ2)\/body ρ1=some (.ct ρ2))/\I (i+1) ρ2)->I 0 ρ->∃ ρ',fP pt body ds ρ=some (.nx ρ')/\I ds.length ρ'
 | [],I,ρ,_,h0=>⟨ρ,rfl,h0⟩
 | d::ds,I,ρ,h,h0=>by obtain⟨ρ1,ρ2,h1,h2,h3⟩:=h 0 (by simp) ρ h0;obtain⟨ρ',e,h4⟩:=kh ds (λi=>I (i+1)) ρ2 (λi hi=>h (i+1) (by simpa using hi)) h3;refine⟨ρ',?_,h4⟩;unfold fP;rw[show pt d ρ=some ρ1 from h1];rcases h2 with h2|h2<;>(simp only[h2];exact e)
theorem aU{f g:aI}{ρ ρ1:aW}(h:f ρ=some (.nx ρ1)):aJ f g ρ=g ρ1:=by unfold aJ;rw[h]
theorem p7{f g:aI}{ρ:aW}{d:D}{q:Nat}(h:f ρ=some (.rt d q)):aJ f g ρ=some (.rt d q):=by unfold aJ;rw[h]
theorem dG{n:Nat}{body:aI}{ds:List D}{d:D}{q:Nat}(h:body (m_ n ds)=some (.rt d q)):bT n body ds=some (d,q):=by unfold bT;rw[h]
theorem fB{k:Nat}{it:kU}{pt:gE}{tt:cS}{te:aF}{deep:Bool}{ρ ρ1 ρ2:aW}{ds vs:List D}(hi:it ρ=some (ds,ρ1))(hc:jH k pt tt te deep ds ρ1=some (vs,ρ2)):dz k it pt tt te deep ρ=some (.lst vs,if deep=true then 2 else 1,ρ2):=by unfold dz;rw[hi];simp only[hc]
theorem j1d{i:Nat}{f:aF}{ρ ρ1:aW}{d:D}{q:Nat}(h:f ρ=some (d,q,ρ1)):br i f ρ=some (.nx (ρ1.set i (some (d,q)))):=by unfold br;rw[h]
theorem fC{f:aF}{ρ ρ1:aW}{d:D}{q:Nat}(h:f ρ=some (d,q,ρ1)):bJ f ρ=some (.rt d q):=by unfold bJ;rw[h]
theorem gZ{it:kU}{pt:gE}{body:aI}{ρ ρ1:aW}{ds:List D}(h:it ρ=some (ds,ρ1)):d3 it pt body ρ=fP pt body ds ρ1:=by unfold d3;rw[h]
theorem rh{g:cS}{s s':aI}{ρ ρ1:aW}(h:g ρ=some (true,ρ1)):dy g s s' ρ=s ρ1:=by unfold dy;rw[h];rfl
theorem lS{g:cS}{s s':aI}{ρ ρ1:aW}(h:g ρ=some (false,ρ1)):dy g s s' ρ=s' ρ1:=by unfold dy;rw[h];rfl
theorem dM{i:Nat}{f:aF}{ρ ρ1 ρ2:aW}{d:D}{q:Nat}(h:f ρ=some (d,q,ρ1))(e:ρ1.set i (some (d,q))=ρ2):br i f ρ=some (.nx ρ2):=by rw[j1d h,e]
theorem bV{f:aF}{ρ ρ1:aW}{d:D}{q:Nat}(h:f ρ=some (d,q,ρ1)):ae f ah ρ=some ([d],ρ1):=by unfold ae;rw[h];rfl
theorem cu{f:aF}{g:cK}{ρ ρ1 ρ2:aW}{d:D}{q:Nat}{ds:List D}(h:f ρ=some (d,q,ρ1))(h':g ρ1=some (ds,ρ2)):ae f g ρ=some (d::ds,ρ2):=by unfold ae;rw[h];simp only[h']
theorem k9{g:cK}{ρ ρ1:aW}{ds:List D}(h:g ρ=some ([.lst ds],ρ1)):gH g ρ=some (.tup ds,9,ρ1):=by unfold gH;rw[h]
theorem AH{g:cK}{ρ ρ1:aW}{ds:List D}(h:cL g ρ=some (ds,ρ1)):oA g ρ=some (.lst ds,1,ρ1):=by unfold oA;rw[h]
theorem bq{F:List D->OD}{n:Nat}{g:cK}{ρ ρ1:aW}{ds:List D}{d:D}{q:Nat}(h:g ρ=some (ds,ρ1))(hl:ds.length=n)(hF:F ds=some (d,q)):aK F n g ρ=some (d,q,ρ1):=by unfold aK;rw[h];simp only[hl,ZC,hF]
def ai (l:List Nat):List D:=l.map λi=>.int (Int.ofNat i)
abbrev iD (k:Nat):D:=.int (Int.ofNat k)
abbrev uL (v:List Nat):OD:=some (.lst (ai v),1)
abbrev v9 (v:List Nat):OD:=some (.tup (ai v),9)
abbrev b9 (b:Bool):OD:=some (.bl b,9)
abbrev i9 (k:Nat):OD:=some ((iD k),9)
theorem z03(n:Nat):cE n=ai (range n):=rfl
def lT (n:Nat)(f:Nat->Nat->Nat)(i:Nat):D:=.tup (ai ((range n).map λj=>f i j))
def aN (n:Nat)(f:Nat->Nat->Nat):D:=.tup ((range n).map λi=>lT n f i)
abbrev t9 (n:Nat)(f:Nat->Nat->Nat):OD:=some (aN n f,9)
def e_ (n:Nat)(f:Nat->Nat->Nat)(i:Nat):D:=.lst (ai ((range n).map λj=>f i j))
def cf (n:Nat)(f:Nat->Nat->Nat):D:=.lst ((range n).map λi=>e_ n f i)
@[simp] theorem j8v{n:Nat}{f:Nat->Nat->Nat}:(aN n f).cR=false:=rfl
@[simp] theorem j8u{n:Nat}{f:Nat->Nat->Nat}{i:Nat}:(lT n f i).cR=false:=rfl
@[simp] theorem j8s{n:Nat}{f:Nat->Nat->Nat}:(cf n f).cR=true:=rfl
@[simp] theorem j94{n:Nat}{f:Nat->Nat->Nat}{i:Nat}:(e_ n f i).cR=true:=rfl
theorem d7(l:List Nat):(ai l).length=l.length:=by simp[ai]
theorem AI(l:List Nat)(i:Nat):(ai l)[i]? = (l[i]?).map λx=>.int (Int.ofNat x):=by simp[ai]
theorem xx{n i:Nat}(h:i<n):kr n (Int.ofNat i)=some i:=by unfold kr;rw[Qi (by exact JS i),Qi (by show(i:Int)<n;omega)];rfl
theorem xy{α:Type}{xs:List α}{i:Nat}{x:α}(h:xs[i]? = some x):L2.eR xs (Int.ofNat i)=some x:=by unfold L2.eR;rw[xx (QN.mp h).1];exact h
theorem AJ{l:List Nat}{i x:Nat}(h:l[i]? = some x):L2.eR (ai l) (Int.ofNat i)=some (iD x):=xy (by rw[AI,h];rfl)
theorem KI{g:Nat->D}{n i:Nat}(h:i<n):L2.eR ((range n).map g) (Int.ofNat i)=some (g i):=xy (by rw[Qm,Q9 h];rfl)
theorem u6{g:Nat->Nat}{n i:Nat}(h:i<n):L2.eR (ai ((range n).map g)) (Int.ofNat i)=some (iD (g i)):=AJ (by rw[Qm,Q9 h];rfl)
theorem k_{n:Nat}{f:Nat->Nat->Nat}{i:Nat}(h:i<n):da (aN n f) (Int.ofNat i)=some (lT n f i):=KI h
theorem lU{n:Nat}{f:Nat->Nat->Nat}{i j:Nat}(h:j<n):da (lT n f i) (Int.ofNat j)=some (iD (f i j)):=u6 h
theorem j3g{n:Nat}{f:Nat->Nat->Nat}{i:Nat}(h:i<n):da (cf n f) (Int.ofNat i)=some (e_ n f i):=KI h
theorem j47{n:Nat}{f:Nat->Nat->Nat}{i j:Nat}(h:j<n):da (e_ n f i) (Int.ofNat j)=some (iD (f i j)):=u6 h
theorem iS{n:Nat}{f:Nat->Nat->Nat}:gm (aN n f)=some n:=by simp[aN,gm]
theorem xA{n:Nat}{f:Nat->Nat->Nat}:gm (cf n f)=some n:=by simp[cf,gm]
theorem AK{n:Nat}{f g:Nat->Nat->Nat}(h:∀ a b,a<n->b<n->f a b=g a b):cf n f=cf n g:=by unfold cf e_;refine ZD D.lst (QX λa ha=>?_);refine ZD (λl=>D.lst (ai l)) (QX λb hb=>?_);exact h a b (Qv.mp ha) (Qv.mp hb)
theorem KJ{α:Type}{g:Nat->α}{n m:Nat}{x:α}:((range n).map g).set m x=(range n).map λa=>if a=m then x else g a:=by
 apply Zo;intro i;by_cases hi:i<n
 ·by_cases h:m=i
  ·subst h;rw[QZ (by simpa using hi),Qm,Q9 hi];simp
  ·rw[Q3 h,Qm,Qm,Q9 hi];simp;exact λz=>absurd z.symm h
 ·rw[QG (by simp;omega),QG (by simp;omega)]
theorem tF{g:Nat->Nat}{n:Nat}:ai ((range n).map g)=(range n).map λi=>.int (Int.ofNat (g i)):=by simp[ai]
theorem z7c{n:Nat}{f:Nat->Nat->Nat}{a b v:Nat}:D.lst (((range n).map λi=>e_ n f i).set a (.lst ((ai ((range n).map λj=>f a j)).set b (iD v))))=cf n λi j=>if i=a/\j=b then v else f i j:=by
 unfold cf;rw[KJ];refine ZD D.lst (QX λi hi=>?_);by_cases h:i=a
 ·subst h;rw[Qi rfl,tF,KJ];unfold e_;rw[tF];refine ZD D.lst (QX λj hj=>?_);by_cases hj:j=b<;>simp[hj]
 ·rw[Ql h];unfold e_;simp[h]
theorem k0e(n:Nat):D.lst (replicate n [D.int 0]).flatten=e_ n (λ_ _=>0) 0:=by unfold e_ ai;congr 1;simp[ZU,V6]
theorem KN:∀ ds:List D,eJ ds=ds.map cn
 | []=>rfl
 | d::ds=>by rw[eJ,KN ds];rfl
def lay (d:D):Bool:=kX d&&(cn d).canLay0
theorem KO{d:D}(h:lay d=true):kX d=true:=(ZE.mp h).1
theorem KP{d:D}(h:lay d=true):(cn d).canLay0=true:=(ZE.mp h).2
theorem D9:∀ {ds:List D},(∀ d∈ds,lay d=true)->sI ds=true
 | [],_=>rfl
 | d::ds,h=>by show(kX d&&sI ds)=true;rw[KO (h d Qh),D9 λx m=>h x (Qf _ m)];rfl
def j0 (d:D):Nat:=(cn d).depth
theorem D_:∀ {ds:List D},(∀ d∈ds,lay d=true)->PyData.canLayAll0 (eJ ds)=true
 | [],_=>rfl
 | d::ds,h=>by rw[eJ,PyData.canLayAll0,D_ λx m=>h x (Qf _ m),Ut];exact KP (h d Qh)
theorem Ea{k:Nat}:∀ {ds:List D},(∀ d∈ds,j0 d<=k)->PyData.depthAll (eJ ds)<=k
 | [],_=>Q6 _
 | d::ds,h=>by rw[eJ,PyData.depthAll];exact Nat.max_le.mpr ⟨h d Qh,Ea λx m=>h x (Qf _ m)⟩
def Sh (k:Nat)(d:D):Prop:=lay d=true/\j0 d<=k
theorem Sh.int{k:Nat}(i:Int):Sh k (.int i):=⟨rfl,Q6 _⟩
theorem Sh.bK{k:Nat}:Sh k .bK:=⟨rfl,Q6 _⟩
theorem Sh.tup{k:Nat}{ds:List D}(h:∀ d∈ds,Sh k d):Sh (k+1) (.tup ds):=⟨ZE.mpr ⟨D9 λd m=>(h d m).1,D_ λd m=>(h d m).1⟩,VI (Ea λd m=>(h d m).2)⟩
theorem Sh.lst{k:Nat}{ds:List D}(h:∀ d∈ds,Sh k d):Sh (k+1) (.lst ds):=⟨ZE.mpr ⟨D9 λd m=>(h d m).1,D_ λd m=>(h d m).1⟩,VI (Ea λd m=>(h d m).2)⟩
theorem Sh.ok{k:Nat}{d:D}(h:Sh k d)(hk:k<=64:=by decide):fQ d=true:=by show(kX d&&((cn d).canLay0&&decide ((cn d).depth<=64)))=true;rw[KO h.1,KP h.1,JW,JW];exact Qr (QJ h.2 hk)
theorem KQ{l:List Nat}{d:D}(m:d∈ai l):Sh 0 d:=by obtain⟨x,_,rfl⟩:=Qk.mp m;exact .int _
theorem u7(l:List Nat):Sh 1 (.lst (ai l)):=.lst λ_ m=>KQ m
theorem u9(l:List Nat):Sh 1 (.tup (ai l)):=.tup λ_ m=>KQ m
theorem j3i(n:Nat)(f:Nat->Nat->Nat):Sh 2 (aN n f):=.tup λd m=>by obtain⟨x,_,rfl⟩:=Qk.mp m;exact u9 _
theorem Eb:∀ l l':List Nat,PyData.eqvAll (eJ (ai l)) (eJ (ai l'))=decide (l=l')
 | [],[]=>rfl
 | [],_::_=>rfl
 | _::_,[]=>rfl
 | x::l,y::l'=>by
  show(((x:Int)==(y:Int))&&PyData.eqvAll (eJ (ai l)) (eJ (ai l')))=_;rw[Eb l l'];by_cases h:x=y
  ·subst h;simp
  ·have:((x:Int)==(y:Int))=false:=by simp;omega
   rw[this];simp[h]
theorem KR(l l':List Nat):pJ (.lst (ai l)) (.lst (ai l'))=decide (l=l'):=Eb l l'
theorem KS(l l':List Nat):pJ (.tup (ai l)) (.tup (ai l'))=decide (l=l'):=Eb l l'
theorem Ec(i j:Int):pJ (.int i) (.int j)=decide (i=j):=by show(i==j)=_;rw[Bool.beq_eq_decide_eq]
theorem Ed(i j:Nat):pJ (iD i) (iD j)=decide (i=j):=by rw[Ec];exact ZP.mpr ⟨λh=>ZQ h,λh=>by rw[h]⟩
theorem k0k(l l':List Nat):dS (.lst (ai l)) (.lst (ai l'))=some (.bl (decide (l=l'))):=by unfold dS;rw[Qi ⟨(u7 l).ok,(u7 l').ok⟩,KR]
theorem k0d(l l':List Nat):dk (.lst (ai l)) (.lst (ai l'))=some (.bl (!decide (l=l'))):=by unfold dk;rw[Qi ⟨(u7 l).ok,(u7 l').ok⟩,KR]
theorem KU(i j:Int):dS (.int i) (.int j)=some (.bl (decide (i=j))):=by unfold dS;rw[Qi ⟨(Sh.int (k:=0) i).ok,(Sh.int (k:=0) j).ok⟩,Ec]
theorem j3k(i j:Int):dk (.int i) (.int j)=some (.bl (!decide (i=j))):=by unfold dk;rw[Qi ⟨(Sh.int (k:=0) i).ok,(Sh.int (k:=0) j).ok⟩,Ec]
theorem rj(i j:Nat):dS (iD i) (iD j)=some (.bl (decide (i=j))):=by unfold dS;rw[Qi ⟨(Sh.int (k:=0) _).ok,(Sh.int (k:=0) _).ok⟩,Ed]
theorem nJ(i j:Nat):dk (iD i) (iD j)=some (.bl (!decide (i=j))):=by unfold dk;rw[Qi ⟨(Sh.int (k:=0) _).ok,(Sh.int (k:=0) _).ok⟩,Ed]
theorem KW{α:Type}{p:α->Bool}:∀ {l:List α} {j:Nat} {x:α},l[j]? = some x->p x=true->(∀ i y,i<j->l[i]? = some y->p y=false)->l.findIdx? p=some j
 | [],j,x,h,_,_=>by simp at h
 | a::l,0,x,h,hp,_=>by simp at h;subst h;simp[List.findIdx?_cons,hp]
 | a::l,j+1,x,h,hp,hn=>by have h0:p a=false:=hn 0 a (JL _) rfl;have ih:=KW (l:=l) (j:=j) (x:=x) (by simpa using h) hp λi y hi hy=>hn (i+1) y (Nat.succ_lt_succ hi) (by simpa using hy);simp[List.findIdx?_cons,h0,ih]
structure ba (n:Nat) (f:Nat->Nat->Nat):Prop where
 lo:0<n
 hi:n<=16
 cl:∀ i j,i<n->j<n->f i j<n
 idem:∀ i,i<n->f i i=i
 comm:∀ i j,i<n->j<n->f i j=f j i
 assoc:∀ i j k,i<n->j<n->k<n->f (f i j) k=f i (f j k)
 bot:∃ z,z<n/\∀ j,j<n->f z j=j
def Ee (n:Nat)(f:Nat->Nat->Nat):Bool:=
 decide (0<n)&&decide (n<=16)&&((range n).all λi=>(range n).all λj=>decide (f i j<n))&&((range n).all λi=>decide (f i i=i))&&((range n).all λi=>(range n).all λj=>decide (f i j=f j i)) &&
 ((range n).all λi=>(range n).all λj=>(range n).all λk=>decide (f (f i j) k=f i (f j k)))&&((range n).any λz=>(range n).all λj=>decide (f z j=j))
theorem j3x{n:Nat}{f:Nat->Nat->Nat}(h:Ee n f=true):ba n f:=by unfold Ee at h;simp only[ZF,ZB,Z3,List.any_eq_true,Qv]at h;obtain⟨⟨⟨⟨⟨⟨h1,h2⟩,h3⟩,h4⟩,h5⟩,h6⟩,z,hz,h7⟩:=h;exact⟨h1,h2,λi j hi hj=>h3 i hi j hj,h4,λi j hi hj=>h5 i hi j hj,λi j k hi hj hk=>h6 i hi j hj k hk,z,hz,h7⟩
theorem ba.ren{n:Nat}{f:Nat->Nat->Nat}(L:ba n f){π ι:Nat->Nat}(h1:∀ i,i<n->π i<n)(h2:∀ i,i<n->ι i<n)(h3:∀ i,i<n->ι (π i)=i)(h4:∀ i,i<n->π (ι i)=i):ba n λa b=>π (f (ι a) (ι b)):=by
 obtain⟨l1,l2,cl,idem,comm,assoc,z,hz,bot⟩:=L;refine⟨l1,l2,λi j hi hj=>h1 _ (cl _ _ (h2 i hi) (h2 j hj)),λi hi=>?_,λi j hi hj=>?_,λi j k hi hj hk=>?_,π z,h1 z hz,λj hj=>?_⟩
 ·show π (f (ι i) (ι i))=i;rw[idem _ (h2 i hi),h4 i hi]
 ·show π (f (ι i) (ι j))=π (f (ι j) (ι i));rw[comm _ _ (h2 i hi) (h2 j hj)]
 ·show π (f (ι (π (f (ι i) (ι j)))) (ι k))=π (f (ι i) (ι (π (f (ι j) (ι k)))));rw[h3 _ (cl _ _ (h2 i hi) (h2 j hj)),h3 _ (cl _ _ (h2 j hj) (h2 k hk)),assoc _ _ _ (h2 i hi) (h2 j hj) (h2 k hk)]
 ·show π (f (ι (π z)) (ι j))=j;rw[h3 z hz,bot _ (h2 j hj),h4 j hj]
def bR (p:Nat->Nat->Nat)(n:Nat):Nat->List Nat
 | 0=>range n
 | k+1=>(bR p n k).eraseIdx (p k (bR p n k).length)
def drawn (p:Nat->Nat->Nat)(n k:Nat):Nat:=(bR p n k).getD (p k (bR p n k).length) 0
theorem KY:∀ (l:List Nat) (j:Nat),(ai l).eraseIdx j=ai (l.eraseIdx j)
 | [],_=>rfl
 | _::_,0=>rfl
 | a::l,j+1=>ZD ((iD a) :: ·) (KY l j)
theorem xB{p:Nat->Nat->Nat}{n:Nat}(hp:∀ k m,0<m->p k m<m):∀ k,k<=n->(bR p n k).length=n-k
 | 0,_=>by simp[bR]
 | k+1,h=>by have ih:=xB hp k (Nat.le_of_succ_le h);have:=hp k (n-k) (by omega);rw[bR,Uk,ih,Qi this];omega
theorem KZ:∀ {l:List Nat} {j:Nat} (h:j<l.length),(l[j]::l.eraseIdx j).Perm l
 | a::l,0,_=>Uq _
 | a::l,j+1,h=>(List.Perm.swap a (l[j]'(by simpa using h)) (l.eraseIdx j)).trans (List.Perm.cons a (KZ (by simpa using h)))
theorem K0{p:Nat->Nat->Nat}{n:Nat}(hp:∀ k m,0<m->p k m<m):∀ k,k<=n->(((range k).map (drawn p n))++bR p n k).Perm (range n)
 | 0,_=>by simp[bR]
 | k+1,h=>by
  have ih:=K0 hp k (Nat.le_of_succ_le h);have hl:=xB hp k (by omega:k<=n);have hj:p k (bR p n k).length<(bR p n k).length:=by rw[hl];exact hp k _ (by omega)
  refine List.Perm.trans ?_ ih;rw[V7,QU,Jb];refine Ua _ ?_;have e:drawn p n k=(bR p n k)[p k (bR p n k).length]:=by unfold drawn;rw[Qg,Qb hj];rfl
  show(drawn p n k::(bR p n (k+1))).Perm _;rw[e,bR];exact KZ hj
theorem AL{p:Nat->Nat->Nat}{n:Nat}(hp:∀ k m,0<m->p k m<m):((range n).map (drawn p n)).Perm (range n):=by have h:=K0 hp n (Qj n);have hl:=xB hp n (Qj n);rw[Uz]at hl;rw[ZO.mp hl,ZM]at h;exact h
theorem K1{p:Nat->Nat->Nat}{n:Nat}(hp:∀ k m,0<m->p k m<m){i:Nat}(h:i<n):drawn p n i<n:=by have m:drawn p n i∈(range n).map (drawn p n):=Qk.mpr ⟨i,Qv.mpr h,rfl⟩;exact Qv.mp ((AL hp).mem_iff.mp m)
def lg (p:Nat->Nat->Nat)(n a:Nat):Nat:=((range n).map (drawn p n)).idxOf a
theorem K2{p:Nat->Nat->Nat}{n:Nat}(hp:∀ k m,0<m->p k m<m){a:Nat}(h:a<n):lg p n a<n:=by have m:a∈(range n).map (drawn p n):=(AL hp).mem_iff.mpr (Qv.mpr h);have:=Y6 m;rw[Qc,QI]at this;exact this
theorem K3{p:Nat->Nat->Nat}{n:Nat}(hp:∀ k m,0<m->p k m<m){a:Nat}(h:a<n):drawn p n (lg p n a)=a:=by have m:a∈(range n).map (drawn p n):=(AL hp).mem_iff.mpr (Qv.mpr h);have:=List.getElem_idxOf (Y6 m);rw[List.getElem_map,List.getElem_range]at this;exact this
theorem K4{p:Nat->Nat->Nat}{n:Nat}(hp:∀ k m,0<m->p k m<m){i:Nat}(h:i<n):lg p n (drawn p n i)=i:=by
 have nd:((range n).map (drawn p n)).Nodup:=(AL hp).nodup_iff.mpr Jm;have hi:i<((range n).map (drawn p n)).length:=by simpa using h
 have:=nd.idxOf_getElem i hi;rw[List.getElem_map,List.getElem_range]at this;exact this
theorem tG{i n:Nat}{tt:cS}{te:aF}{ρ:aW}{deep:Bool}(hi:ρ.length=i)(b:Nat->Bool)(v:Nat->D)(q:Nat->Nat)(ht:∀ j,j<n->tt (ρ++[i9 j])=some (b j,ρ++[i9 j]))
  (he:∀ j,j<n->b j=true->te (ρ++[i9 j])=some (v j,q j,ρ++[i9 j])) (hd:deep=true->∀ j,(v j).cR=true->q j=1:=by intro h;cases h) :
  jH 1 (aA i) tt te deep (cE n) ρ=some (((range n).filter b).map v,ρ):=by
 have h:=p6 (k:=1) (pt:=aA i) (tt:=tt) (te:=te) (deep:=deep) (cE n) (λ_=>ρ) b v (λj hj=>?_)
 ·rw[eY]at h;exact h
 ·rw[eY]at hj;refine⟨ρ++[i9 j],_,?_,ht j hj,?_⟩
  ·have:(cE n)[j]'(by rw[eY];exact hj)=(iD j):=by simp[cE]
   rw[this];unfold aA;rw[Qi (by simp[hi])];subst hi;simp[YX]
  ·by_cases hb:b j=true
   ·rw[Qi hb];exact⟨q j,_,he j hj hb,λ⟨h1,h2,h3⟩=>h3 (hd h1 j h2),by simp⟩
   ·rw[Ql hb];simp
theorem K5{z:Nat}:∀ n:Nat,(range n).filter (λw=>decide (w=z))=if z<n then [z]else []
 | 0=>by simp
 | n+1=>by
  rw[V7,Vk,K5 n];by_cases h:n=z
  ·subst h;simp
  ·have:¬ (n=z):=h;by_cases h2:z<n
   ·rw[Qi h2,Qi (by omega)];simp[h]
   ·rw[Ql h2,Ql (by omega)];simp[h]
theorem y79{n:Nat}{g:Nat->Nat}:(range n).map g=range n ↔ ∀ j,j<n->g j=j:=by
 constructor
 ·intro h j hj;have:=ZD (λl=>l[j]?) h;simpa [hj]using this
 ·intro h;have e:=QX (l:=range n) (f:=g) (g:=id) λa ha=>h a (Qv.mp ha);rw[e,UD]
namespace ba
variable {z:Nat}
variable {n:Nat}{f:Nat->Nat->Nat}(L:ba n f)
include L
theorem nK{x:Nat}(hz:z<n)(bz:∀ j,j<n->f z j=j)(hx:x<n)(bx:∀ j,j<n->f x j=j):x=z:=by have h1:=bx z hz;have h2:=bz x hx;rw[L.comm x z hx hz]at h1;omega
theorem fold_lt:∀ {l:List Nat} {a:Nat},a<n->(∀ x∈l,x<n)->l.foldl f a<n
 | [],a,ha,_=>ha
 | y::l,a,ha,h=>fold_lt (l:=l) (L.cl a y ha (h y Qh)) λx m=>h x (Qf _ m)
theorem K6:∀ {l:List Nat} {a x:Nat},a<n->x<n->(∀ x∈l,x<n)->f x a=a->f x (l.foldl f a)=l.foldl f a
 | [],a,x,_,_,_,e=>e
 | y::l,a,x,ha,hx,h,e=>by have hy:=h y Qh;refine K6 (l:=l) (L.cl a y ha hy) hx (λx m=>h x (Qf _ m)) ?_;rw[<- L.assoc x a y hx ha hy,e]
theorem bY:∀ {l:List Nat} {a x:Nat},a<n->(∀ x∈l,x<n)->x∈l->f x (l.foldl f a)=l.foldl f a
 | y::l,a,x,ha,h,m=>by
  have hy:=h y Qh;have hl:∀ x∈l,x<n:=λx m=>h x (Qf _ m);rcases Qs.mp m with rfl|m
  ·refine K6 L (l:=l) (L.cl a x ha hy) hy hl ?_;rw[L.comm a x ha hy,<- L.assoc x x a hy hy ha,L.idem x hy]
  ·exact bY (l:=l) (L.cl a y ha hy) hl m
theorem g9(hz:z<n)(bz:∀ j,j<n->f z j=j):∀ {l:List Nat} {a:Nat},a<n->(∀ x∈l,x<n)->l.foldl f a=f a (l.foldl f z)
 | [],a,ha,_=>by show a=f a z;rw[L.comm a z ha hz,bz a ha]
 | y::l,a,ha,h=>by have hy:=h y Qh;have hl:∀ x∈l,x<n:=λx m=>h x (Qf _ m);show l.foldl f (f a y)=f a (l.foldl f (f z y));rw[bz y hy,g9 hz bz (L.cl a y ha hy) hl,g9 hz bz hy hl,L.assoc a y _ ha hy (L.fold_lt hz hl)]
end ba
theorem xC{pt:gE}{body:aI}{d:D}{q:Nat}:∀ (ds:List D) (I:aW->Prop) (ok:Nat->Bool) (ρ:aW),
  (∀ i (h:i<ds.length) ρ,I ρ->∃ ρ1,pt ds[i] ρ=some ρ1/\(ok i=true->∃ ρ2,body ρ1=some (.nx ρ2)/\I ρ2)/\(ok i=false->body ρ1=some (.rt d q)))->I ρ->
  ((range ds.length).all ok=true->∃ ρ',fP pt body ds ρ=some (.nx ρ')/\I ρ')/\((range ds.length).all ok=false->fP pt body ds ρ=some (.rt d q))
 | [],I,ok,ρ,_,h0=>⟨λ_=>⟨ρ,rfl,h0⟩,λh=>by simp at h⟩
 | x::ds,I,ok,ρ,h,h0=>by
  obtain⟨ρ1,h1,h2,h3⟩:=h 0 (by simp) ρ h0;have e1:pt x ρ=some ρ1:=h1;have er:(range (x::ds).length).all ok=(ok 0&&(range ds.length).all λi=>ok (i+1)):=by rw[Qz,JT,Uw,V2];rfl
  rw[er];cases hk:ok 0 with
  | false=>
   refine⟨λz=>by simp at z,λ_=>?_⟩;unfold fP;simp only[e1,h3 hk]
  | true=>
   obtain⟨ρ2,h4,h5⟩:=h2 hk;obtain⟨i1,i2⟩:=xC ds I (λi=>ok (i+1)) ρ2 (λi hi=>h (i+1) (by simpa using hi)) h5;rw[JW];unfold fP;simp only[e1,h4];exact⟨i1,i2⟩
theorem range_all{n:Nat}{p:Nat->Bool}:(range n).all p=true ↔ ∀ i,i<n->p i=true:=by rw[Z3];exact⟨λh i hi=>h i (Qv.mpr hi),λh i hi=>h i (Qv.mp hi)⟩
theorem K7(p:Nat->Bool):∀ l:List Nat,((range l.length).all λi=>p (l.getD i 0))=l.all p
 | []=>rfl
 | a::l=>by rw[Qz,JT,Uw,V2,Uw,<- K7 p l];rfl
theorem K8{l:List Nat}{i:Nat}(h:i<(ai l).length):(ai l)[i]=(iD (l.getD i 0)):=by
 have h':i<l.length:=by rw[d7]at h;exact h
 simp[ai,h']
theorem Ef{l:List Nat}{i:Nat}(h:i<l.length):l.getD i 0∈l:=by rw[Qg,Qb h];exact QW h
theorem K9{i:Nat}{te:aF}{ρ:aW}{deep:Bool}(l:List Nat)(hi:ρ.length=i)(v:Nat->D)(q:Nat->Nat)
  (he:∀ x,x∈l->te (ρ++[i9 x])=some (v x,q x,ρ++[i9 x])) (hd:deep=true->∀ j,(v j).cR=true->q j=1:=by intro h;cases h) :
  jH 1 (aA i) di te deep (ai l) ρ=some (l.map v,ρ):=by
 have h:=p6 (k:=1) (pt:=aA i) (tt:=di) (te:=te) (deep:=deep) (ai l) (λ_=>ρ) (λ_=>true) (λj=>v (l.getD j 0)) (λj hj=>?_)
 ·rw[d7,show(range l.length).filter (λ_=>true)=range l.length by simp]at h;rw[h];have e:(range l.length).map (λj=>v (l.getD j 0))=l.map v:=by
   apply Zo;intro k;by_cases hk:k<l.length
   ·simp[hk]
   ·rw[QG (by simp;omega),QG (by simp;omega)]
  rw[e]
 ·have hj':j<l.length:=by rw[d7]at hj;exact hj
  refine⟨ρ++[i9 (l.getD j 0)],_,?_,rfl,?_⟩
  ·rw[K8 hj];unfold aA;rw[Qi (by simp[hi])];subst hi;simp[YX]
  ·rw[Qi rfl];exact⟨q _,_,he _ (Ef hj'),λ⟨h1,h2,h3⟩=>h3 (hd h1 _ h2),by simp⟩
theorem dN{g:D->D->Option D}{fa fb:aF}{ρ ρ1 ρ2:aW}{x y d:D}{q q':Nat}(ha:fa ρ=some (x,q,ρ1))(hb:fb ρ1=some (y,q',ρ2))(hg:g x y=some d):e2 g fa fb ρ=some (d,9,ρ2):=by unfold e2;rw[ha];simp only[hb,hg]
theorem fg{f:aF}{ρ ρ1:aW}{b:Bool}{q:Nat}(h:f ρ=some (.bl b,q,ρ1)):bC f ρ=some (b,ρ1):=by unfold bC;rw[h]
theorem u_{i:Nat}{g:cK}{ρ ρ1 ρ2:aW}{ds:List D}{d:D}(hl:pL ρ[i]? = true)(hg:g ρ=some ([d],ρ1))(h1:ρ1[i]? = some (some (.lst ds,1)))(hn:ds.length<=1000)(e:ρ1.set i (some (.lst (ds++[d]),1))=ρ2):fy (jI i g) ρ=some (.nx ρ2):=by unfold fy jI;rw[Qi hl,hg];simp only[h1,Qi hn,e]
theorem K_{b:List D->Option D}{g:cK}{ρ ρ1:aW}{ds:List D}{d:D}(h:g ρ=some (ds,ρ1))(hd:b ds=some d):eB b g ρ=some (d,9,ρ1):=by unfold eB;rw[h];simp only[hd]
def aL (n:Nat)(r:Nat->Nat):D:=.tup (ai ((range n).map r))
abbrev r9 (n:Nat)(r:Nat->Nat):OD:=some (aL n r,9)
@[simp] theorem j5r{n:Nat}{r:Nat->Nat}:(aL n r).cR=false:=rfl
theorem lh{n i:Nat}{r:Nat->Nat}(h:i<n):da (aL n r) (Int.ofNat i)=some (iD (r i)):=u6 h
theorem La(l l':List Nat):dk (.tup (ai l)) (.tup (ai l'))=some (.bl (!decide (l=l'))):=by unfold dk;rw[Qi ⟨(u9 l).ok,(u9 l').ok⟩,KS]
theorem tH{n:Nat}{r s:Nat->Nat}(h:∀ i,i<n->r i=s i):aL n r=aL n s:=ZD (λl=>D.tup (ai l)) (QX λi hi=>h i (Qv.mp hi))
theorem Lb{n:Nat}(g:Nat->Nat):D.tup ((range n).map λi=>(iD (g i)))=aL n g:=by unfold aL;rw[tF]
theorem Lc(n:Nat)(r:Nat->Nat):Sh 1 (aL n r):=u9 _
theorem z68(n:Nat)(a b:Nat->Nat):((ai ((range n).map a)).zip (ai ((range n).map b))).map (λx=>D.tup [x.1,x.2])=(range n).map λj=>.tup [iD (a j),iD (b j)]:=by rw[tF,tF,List.zip_map',QV];rfl
theorem k0u{i n:Nat}{tt:cS}{te:aF}{ρ:aW}{deep:Bool}(hi:ρ.length=i)(a b:Nat->Nat)(ok:Nat->Bool)(v:Nat->D)(q:Nat->Nat)
  (ht:∀ j,j<n->tt (ρ++[i9 (a j),i9 (b j)])=some (ok j,ρ++[i9 (a j),i9 (b j)]))
  (he:∀ j,j<n->ok j=true->te (ρ++[i9 (a j),i9 (b j)])=some (v j,q j,ρ++[i9 (a j),i9 (b j)]))
  (hd:deep=true->∀ j,(v j).cR=true->q j=1:=by intro h;cases h) :
  jH 2 (gX (bU (aA i) (bU (aA (i+1)) gq))) tt te deep ((range n).map λj=>.tup [iD (a j),iD (b j)]) ρ=some (((range n).filter ok).map v,ρ):=by
 have h:=p6 (k:=2) (pt:=gX (bU (aA i) (bU (aA (i+1)) gq))) (tt:=tt) (te:=te) (deep:=deep) ((range n).map λj=>.tup [iD (a j),iD (b j)]) (λ_=>ρ) ok v (λj hj=>?_)
 ·rw[Qc,QI]at h;exact h
 ·rw[Qc,QI]at hj;refine⟨ρ++[i9 (a j),i9 (b j)],_,?_,ht j hj,?_⟩
  ·subst hi;simp[-ofNat_eq_natCast,YX]
  ·by_cases hb:ok j=true
   ·rw[Qi hb];exact⟨q j,_,he j hj hb,λ⟨h1,h2,h3⟩=>h3 (hd h1 j h2),by simp⟩
   ·rw[Ql hb];simp
namespace ba
variable {b x y z:Nat}
variable {n:Nat}{f:Nat->Nat->Nat}(L:ba n f)
include L
theorem le_trans(hx:x<n)(hy:y<n)(hz:z<n)(h1:f x y=y)(h2:f y z=z):f x z=z:=by rw[<- h2,<- L.assoc x y z hx hy hz,h1]
theorem lj(hx:x<n)(hy:y<n)(h1:f x y=y)(h2:f y x=x):x=y:=by rw[L.comm y x hy hx,h1]at h2;exact h2.symm
theorem nL(hx:x<n)(hy:y<n):f x (f x y)=f x y:=by rw[<- L.assoc x x y hx hx hy,L.idem x hx]
theorem Eg(hx:x<n)(hy:y<n):f y (f x y)=f x y:=by rw[L.comm x y hx hy];exact L.nL hy hx
theorem lub(hx:x<n)(hy:y<n)(hz:z<n)(h1:f x z=z)(h2:f y z=z):f (f x y) z=z:=by rw[L.assoc x y z hx hy hz,h2,h1]
theorem bL(hz:z<n)(bz:∀ j,j<n->f z j=j)(hb:b<n):∀ {l:List Nat},(∀ x∈l,x<n)->(∀ x∈l,f x b=b)->f (l.foldl f z) b=b
 | [],_,_=>bz b hb
 | y::l,h,k=>by
  have hy:=h y Qh;have hl:∀ x∈l,x<n:=λx m=>h x (Qf _ m);have e:(y::l).foldl f z=f y (l.foldl f z):=by show l.foldl f (f z y)=_;rw[bz y hy,L.g9 hz bz hy hl]
  rw[e];exact L.lub hy (L.fold_lt hz hl) hb (k y Qh) (bL hz bz hb hl λx m=>k x (Qf _ m))
omit L
def low (n:Nat)(f:Nat->Nat->Nat)(x:Nat):List Nat:=(range n).filter λy=>decide (f y x=x)
theorem dH:y∈low n f x ↔ y<n/\f y x=x:=by simp[low]
def lr (n:Nat)(f:Nat->Nat->Nat)(z:Nat)(r:Nat->Nat)(x:Nat):Nat:=((low n f x).map r).foldl f z
include L
variable {z:Nat}(hz:z<n)(bz:∀ j,j<n->f z j=j){r s:Nat->Nat}(hr:∀ i,i<n->r i<n)
include hz bz hr
theorem jc:∀ y∈(low n f x).map r,y<n:=λy m=>by obtain⟨k,hk,rfl⟩:=Qk.mp m;exact hr k (dH.mp hk).1
theorem nN(x:Nat):lr n f z r x<n:=L.fold_lt hz (jc L hz bz hr)
theorem xD(hy:y<n)(h:f y x=x):f (r y) (lr n f z r x)=lr n f z r x:=L.bY hz (jc L hz bz hr) (Qk.mpr ⟨y,dH.mpr ⟨hy,h⟩,rfl⟩)
theorem nO(hb:b<n)(h:∀ y,y<n->f y x=x->f (r y) b=b):f (lr n f z r x) b=b:=L.bL hz bz hb (jc L hz bz hr) λy m=>by obtain⟨k,hk,rfl⟩:=Qk.mp m;exact h k (dH.mp hk).1 (dH.mp hk).2
theorem nP(hx:x<n)(hy:y<n)(h:f x y=y):f (lr n f z r x) (lr n f z r y)=lr n f z r y:=
 L.nO hz bz hr (L.nN hz bz hr y) λk hk e=>L.xD hz bz hr hk (L.le_trans hk hx hy e h)
end ba
theorem lR{α:Type}{us:List α}(h:us.length=1):∃ a,us=[a]:=match us,h with|[a],_=>⟨a,rfl⟩
theorem fV{α:Type}{us:List α}(h:us.length=2):∃ a b,us=[a,b]:=by
 cases us with
 | nil=>cases h
 | cons a us=>
  obtain⟨b,hh⟩:=lR (JQ h);exact⟨a,b,by rw[hh]⟩
theorem lV{α:Type}{us:List α}(h:us.length=3):∃ a b c,us=[a,b,c]:=by
 cases us with
 | nil=>cases h
 | cons a us=>
  obtain⟨b,c,hh⟩:=fV (JQ h);exact⟨a,b,c,by rw[hh]⟩
theorem Eh{α:Type}{us:List α}(h:us.length=4):∃ a b c d,us=[a,b,c,d]:=by
 cases us with
 | nil=>cases h
 | cons a us=>
  obtain⟨b,c,d,hh⟩:=lV (JQ h);exact⟨a,b,c,d,by rw[hh]⟩
theorem Ld{c:cS}{b:aI}{Q:aW->Prop}(I:Nat->aW->Prop)
  (h:∀ k ρ,I k ρ->(∃ ρ1,c ρ=some (false,ρ1)/\Q ρ1)\/(∃ ρ1 ρ2 k',c ρ=some (true,ρ1)/\b ρ1=some (.nx ρ2)/\k'<k/\I k' ρ2)):∀ m k ρ,k<m->I k ρ->∃ ρ',nu c b m ρ=some (.nx ρ')/\Q ρ'
 | 0,k,_,hk,_=>absurd hk (Zk k)
 | m+1,k,ρ,hk,i=>by
  rcases h k ρ i with⟨ρ1,h1,h2⟩|⟨ρ1,ρ2,k',h1,h2,h3,h4⟩
  ·exact⟨ρ1,by unfold nu;simp[h1],h2⟩
  ·obtain⟨ρ',e,q⟩:=Ld I h m k' ρ2 (by omega) h4;refine⟨ρ',?_,q⟩;unfold nu;simp[h1,h2,e]
theorem Le{c:cS}{b:aI}{Q:aW->Prop}(I:Nat->aW->Prop){k:Nat}{ρ:aW}(hk:k<1000)(i:I k ρ)
  (h:∀ k ρ,I k ρ->(∃ ρ1,c ρ=some (false,ρ1)/\Q ρ1)\/(∃ ρ1 ρ2 k',c ρ=some (true,ρ1)/\b ρ1=some (.nx ρ2)/\k'<k/\I k' ρ2)):∃ ρ',Ah c b ρ=some (.nx ρ')/\Q ρ':=Ld I h 1000 k ρ hk i
def gv (v:List Nat)(i:Nat):Nat:=v.getD i 0
theorem AM{v:List Nat}{i:Nat}(h:i<v.length):v[i]? = some (gv v i):=by unfold gv;simp[h]
theorem Lf{v:List Nat}{i:Nat}(h:i<v.length):gv v i∈v:=Ef h
theorem k2b{v:List Nat}{i:Nat}(h:i<v.length):da (.lst (ai v)) (Int.ofNat i)=some (iD (gv v i)):=AJ (AM h)
theorem va{v:List Nat}{i:Nat}(h:i<v.length):da (.tup (ai v)) (Int.ofNat i)=some (iD (gv v i)):=AJ (AM h)
theorem xE{v:List Nat}{i:Nat}(h:i<v.length)(x j:Nat):gv (v.set i x) j=if j=i then x else gv v j:=by
 unfold gv;rw[Qg,Qg];by_cases e:j=i
 ·subst e;rw[Qi rfl,QZ h];rfl
 ·rw[Ql e,Q3 (λz=>e z.symm)]
theorem Lg{u v:List Nat}(h:u.length=v.length)(k:∀ i,i<u.length->gv u i=gv v i):u=v:=by
 apply Zo;intro i;by_cases hi:i<u.length
 ·rw[AM hi,AM (by omega),k i hi]
 ·rw[QG (by omega),QG (by omega)]
structure Vn (n p:Nat) (v:List Nat):Prop where
 len:v.length=p
 lt:∀ x∈v,x<n
theorem Vn.gv{n p:Nat}{v:List Nat}(h:Vn n p v){i:Nat}(hi:i<p):gv v i<n:=h.lt _ (Lf (by rw[h.len];exact hi))
theorem Vn.set{n p:Nat}{v:List Nat}(h:Vn n p v){i x:Nat}(hx:x<n):Vn n p (v.set i x):=⟨by rw[Zj];exact h.len,λy hy=>by
 rcases List.mem_or_eq_of_mem_set hy with h' | h'
 ·exact h.lt y h'
 ·rw[h'];exact hx⟩
def g_ (f:Nat->Nat->Nat)(p:Nat)(u v:List Nat):Prop:=∀ i,i<p->f (gv u i) (gv v i)=gv v i
abbrev lX:=Nat×(List Nat->Nat)
def d8 (f:Nat->Nat->Nat)(v:List Nat)(s:lX):List Nat:=v.set s.1 (f (gv v s.1) (s.2 v))
structure lq (n p:Nat) (f:Nat->Nat->Nat) (s:lX):Prop where
 pl:s.1<p
 lt:∀ v,Vn n p v->s.2 v<n
 mono:∀ u v,Vn n p u->Vn n p v->g_ f p u v->f (s.2 u) (s.2 v)=s.2 v
def mB (f:Nat->Nat->Nat)(l:List lX)(v:List Nat):Prop:=∀ s∈l,f (s.2 v) (gv v s.1)=gv v s.1
namespace ba
variable {s:lX}{u v:List Nat}
variable {n:Nat}{f:Nat->Nat->Nat}(L:ba n f){p:Nat}
include L
theorem jN(h:Vn n p v):g_ f p v v:=λi hi=>L.idem _ (h.gv hi)
theorem iT{w:List Nat}(hu:Vn n p u)(hv:Vn n p v)(hw:Vn n p w)(a:g_ f p u v)(b:g_ f p v w):g_ f p u w:=λi hi=>L.le_trans (hu.gv hi) (hv.gv hi) (hw.gv hi) (a i hi) (b i hi)
theorem jO(hu:Vn n p u)(hv:Vn n p v)(a:g_ f p u v)(b:g_ f p v u):u=v:=
 Lg (hu.len.trans hv.len.symm) λi hi=>by rw[hu.len]at hi;exact L.lj (hu.gv hi) (hv.gv hi) (a i hi) (b i hi)
theorem jP(hs:lq n p f s)(h:Vn n p v):Vn n p (d8 f v s):=h.set (L.cl _ _ (h.gv hs.pl) (hs.lt v h))
theorem hU(hs:lq n p f s)(h:Vn n p v)(i:Nat):gv (d8 f v s) i=if i=s.1 then f (gv v s.1) (s.2 v)else gv v i:=xE (by rw[h.len];exact hs.pl) _ _
theorem kF(hs:lq n p f s)(h:Vn n p v):g_ f p v (d8 f v s):=λi hi=>by
 rw[L.hU hs h];by_cases e:i=s.1
 ·subst e;rw[Qi rfl];exact L.nL (h.gv hi) (hs.lt v h)
 ·rw[Ql e];exact L.idem _ (h.gv hi)
theorem nQ(hs:lq n p f s)(hu:Vn n p u)(hv:Vn n p v)(a:g_ f p u v):g_ f p (d8 f u s) (d8 f v s):=λi hi=>by
 rw[L.hU hs hu,L.hU hs hv];by_cases e:i=s.1
 ·subst e;rw[Qi rfl,Qi rfl];have h1:=hu.gv hs.pl;have h2:=hs.lt u hu;have h3:=hv.gv hs.pl;have h4:=hs.lt v hv;exact L.lub h1 h2 (L.cl _ _ h3 h4) (L.le_trans h1 h3 (L.cl _ _ h3 h4) (a _ hs.pl) (L.nL h3 h4)) (L.le_trans h2 h4 (L.cl _ _ h3 h4) (hs.mono u v hu hv a) (L.Eg h3 h4))
 ·rw[Ql e,Ql e];exact a i hi
theorem je(hs:lq n p f s)(h:Vn n p v):d8 f v s=v ↔ f (s.2 v) (gv v s.1)=gv v s.1:=by
 constructor
 ·intro e;have:=ZD (λu=>gv u s.1) e;rw[L.hU hs h,Qi rfl]at this;rw[L.comm _ _ (hs.lt v h) (h.gv hs.pl)];exact this
 ·intro e;refine Lg (by unfold d8;rw[Zj]) λi hi=>?_;rw[L.hU hs h];by_cases e':i=s.1
  ·subst e';rw[Qi rfl,L.comm _ _ (h.gv hs.pl) (hs.lt v h)];exact e
  ·rw[Ql e']
theorem jf:∀ {l:List lX} {v:List Nat},(∀ s∈l,lq n p f s)->Vn n p v->Vn n p (l.foldl (d8 f) v)
 | [],v,_,h=>h
 | s::l,v,hs,h=>jf (l:=l) (λt m=>hs t (Qf _ m)) (L.jP (hs s Qh) h)
theorem hV:∀ {l:List lX} {v:List Nat},(∀ s∈l,lq n p f s)->Vn n p v->g_ f p v (l.foldl (d8 f) v)
 | [],v,_,h=>L.jN h
 | s::l,v,hs,h=>by have h1:=L.jP (hs s Qh) h;have hl:∀ t∈l,lq n p f t:=λt m=>hs t (Qf _ m);exact L.iT h h1 (L.jf (l:=l) hl h1) (L.kF (hs s Qh) h) (hV (l:=l) hl h1)
theorem fW{a:List Nat}(ha:Vn n p a):∀ {l:List lX} {v:List Nat},(∀ s∈l,lq n p f s)->Vn n p v->mB f l a->g_ f p v a->g_ f p (l.foldl (d8 f) v) a
 | [],v,_,h,_,e=>e
 | s::l,v,hs,h,c,e=>by have s0:=hs s Qh;have h1:=L.jP s0 h;have hl:∀ t∈l,lq n p f t:=λt m=>hs t (Qf _ m);refine fW ha (l:=l) hl h1 (λt m=>c t (Qf _ m)) ?_;have:=L.nQ s0 h ha e;rw[(L.je s0 ha).mpr (c s Qh)]at this;exact this
theorem fI:∀ {l:List lX} {v:List Nat},(∀ s∈l,lq n p f s)->Vn n p v->(l.foldl (d8 f) v=v ↔ mB f l v)
 | [],v,_,h=>⟨λ_ _ m=>(Qw m).elim,λ_=>rfl⟩
 | s::l,v,hs,h=>by
  have s0:=hs s Qh;have h1:=L.jP s0 h;have hl:∀ t∈l,lq n p f t:=λt m=>hs t (Qf _ m);constructor
  ·intro e;have e0:l.foldl (d8 f) (d8 f v s)=v:=e;have up:=L.hV hl h1;rw[e0]at up;have e1:d8 f v s=v:=L.jO h1 h up (L.kF s0 h);rw[e1]at e0;have c:=(fI (l:=l) hl h).mp e0;intro t m;rcases Qs.mp m with rfl|m
   ·exact(L.je s0 h).mp e1
   ·exact c t m
  ·intro c;show l.foldl (d8 f) (d8 f v s)=v;rw[(L.je s0 h).mpr (c s Qh)];exact(fI (l:=l) hl h).mpr λt m=>c t (Qf _ m)
def cnt (n:Nat)(f:Nat->Nat->Nat)(x:Nat):Nat:=((range n).filter λy=>decide (f x y=y)).length
def mu (n:Nat)(f:Nat->Nat->Nat)(v:List Nat):Nat:=(v.map (cnt n f)).sum
omit L in
theorem nR(x:Nat):cnt n f x<=n:=by have:=Q7 (λy=>decide (f x y=y)) (range n);rw[QI]at this;exact this
omit L in
theorem xF(h:Vn n p v):mu n f v<=p*n:=by
 have key:∀ l:List Nat,(l.map (cnt n f)).sum<=l.length*n:=by
  intro l;induction l with
  | nil=>simp
  | cons x l ih=>
   have:=nR (n:=n) (f:=f) x;simp only[Qx,List.sum_cons,Qz,Y3];omega
 have:=key v;rw[h.len]at this;exact this
omit L in
theorem Lh{q r:Nat->Bool}{a:Nat}:∀ {l:List Nat},(∀ x∈l,r x=true->q x=true)->a∈l->q a=true->r a=false->(l.filter r).length<(l.filter q).length
 | y::l,h,ha,hq,hr=>by
  have hl:∀ x∈l,r x=true->q x=true:=λx m=>h x (Qf _ m);have le:∀ l:List Nat,(∀ x∈l,r x=true->q x=true)->(l.filter r).length<=(l.filter q).length:=by
   intro l;induction l with
   | nil=>intro _;simp
   | cons z l ih=>
    intro h;have i:=ih λx m=>h x (Qf _ m);by_cases hz:r z=true
    ·rw[Zb hz,Zb (h z Qh hz)];simp only[Qz];omega
    ·rw[Zv hz];by_cases sO:q z=true
     ·rw[Zb sO];simp only[Qz];omega
     ·rw[Zv sO];exact i
  by_cases e:y=a
  ·subst e;rw[Zv (by rw[hr];simp),Zb hq];have:=le l hl;simp only[Qz];omega
  ·have ha':a∈l:=by
    rcases Qs.mp ha with h' | h'
    ·exact absurd h'.symm e
    ·exact h'
   have i:=Lh (l:=l) hl ha' hq hr;by_cases hz:r y=true
   ·rw[Zb hz,Zb (h y Qh hz)];simp only[Qz];omega
   ·rw[Zv hz];by_cases sO:q y=true
    ·rw[Zb sO];simp only[Qz];omega
    ·rw[Zv sO];exact i
theorem nS{x y:Nat}(hx:x<n)(hy:y<n)(h:f x y=y)(ne:x≠y):cnt n f y<cnt n f x:=by refine Lh (a:=x) (λk m hk=>?_) (Qv.mpr hx) (Qr (L.idem x hx)) (Qy λe=>ne (L.lj hx hy h e));exact Qr (L.le_trans hx hy (Qv.mp m) h (QM hk))
theorem rl(hu:Vn n p u)(hv:Vn n p v)(a:g_ f p u v)(ne:u≠v):mu n f v<mu n f u:=by
 have key:∀ (u v:List Nat),u.length=v.length->(∀ x∈u,x<n)->(∀ x∈v,x<n)->(∀ i,i<u.length->f (gv u i) (gv v i)=gv v i)->((v.map (cnt n f)).sum<=(u.map (cnt n f)).sum)/\(u≠v->(v.map (cnt n f)).sum<(u.map (cnt n f)).sum):=by
  intro u;induction u with
  | nil=>
   intro v hl _ _ _;have:v=[]:=ZO.mp hl.symm;subst this;exact⟨Qj _,λh=>absurd rfl h⟩
  | cons x u ih=>
   intro v hl h1 h2 h3;cases v with
   | nil=>cases hl
   | cons y v=>
    have kK:u.length=v.length:=by simpa using hl
    obtain⟨i1,i2⟩:=ih v kK (λz m=>h1 z (Qf _ m)) (λz m=>h2 z (Qf _ m)) (λi hi=>h3 (i+1) (by simpa using hi));have e0:f x y=y:=h3 0 (by simp);have hx:=h1 x Qh;have hy:=h2 y Qh;simp only[Qx,List.sum_cons];by_cases e:x=y
    ·subst e;exact⟨by omega,λh=>by have:=i2 (λz=>h (by rw[z]));omega⟩
    ·have:=L.nS hx hy e0 e;exact⟨by omega,λ_=>by omega⟩
 exact(key u v (hu.len.trans hv.len.symm) hu.lt hv.lt (λi hi=>a i (by rw[<- hu.len];exact hi))).2 ne
end ba
end L3
namespace My
open PySem PySem.Spec PyProof.Rows L2 L3
variable {B ks:List (Nat×Nat)}{J c r s:Nat->Nat}{W:List (Nat×Nat×(Nat->Nat))}{a b i j m n p q q' q2 x y z:Nat}{body:aI}{d:D}{ds:List D}{f:Nat->Nat->Nat}{fa fb fk g te:aF}{h:cS}{l o qs u u' v:List Nat}{ns:List Int}{st:Stmt}{ρ ρ1 ρ2:aW}
def top (i:Nat):Stmt:=PySem.Challenge.pw_ladderhall_k72_whole_without_many.main.body.getD i (.Pass ⟨0,0,0,0⟩)
structure Bt (mg:Str->Option Value):Prop where
 rn:mg "all" = none
 tI:mg "bool" = none
 xG:mg "int" = none
 bZ:mg "isinstance" = none
 aE:mg "len" = none
 hZ:mg "list" = none
 rp:mg "max" = none
 ay:mg "range" = none
 rq:mg "set" = none
 fi:mg "sorted" = none
 xH:mg "str" = none
 aR:mg "tuple" = none
 xI:mg "zip" = none
section
variable {P:Program}{w:World}{K:PySem.W.Frag}{mg:Str->Option Value}{base:Heap}
def Li:aI:=aJ (dy (bC (e2 m8 (aa 1) (cj 0))) (bJ (aH 0 (aa 1))) d5)
 (aJ (dy (bC (e2 dS (aa 0) (dI ah))) (bJ (eC (.int 0))) d5)
 (bJ (e2 cU (e2 ky (aH 0 (e2 sv (aa 1) (cj 0))) (eC (.int 31))) (aa 1))))
def xJ:=bT 2 (Li)
theorem y83:ag ["_law_script","_law_k"] ["_law_script","_law_k"] (bB (top 45)):=cH (by decide +kernel)
theorem y94(B:Bt mg)(a:At K mg "_law_cell" (top 45) ["_law_script","_law_k"]):aw P w K mg base 1 "_law_cell" 2 (xJ):=
 aw.cN a y83 λ_ _ _ _ _ _ _ hr=>
  aP (gh (zJ (aD 1 rfl rfl) (d4 B.aE (ql 0 rfl rfl))) (aQ (bQ (bu (ql 0 rfl rfl) (aD 1 rfl rfl)))) gf)
  (aP (gh (mn hr (aD 0 rfl rfl) (eX ak)) (aQ (bQ aY)) gf)
  (aQ (bQ (dZ (mZ (bu (ql 0 rfl rfl) (uC (aD 1 rfl rfl) (d4 B.aE (ql 0 rfl rfl)))) aY) (aD 1 rfl rfl)))))
def Lj:aI:=aJ (br 3 (e2 sv (e2 ky (e2 cU (aK xJ 2 (ae (aa 0) (ae (aa 1) ah))) (e2 ky (eC (.int 6151)) (e2 cU (aa 1) (eC (.int 1))))) (eC (.int 40692))) (eC (.int 2147483399))))
 (bJ (e2 sv (e2 sv (e2 cU (e2 ky (aa 3) (aa 3)) (e2 zG (aa 3) (eC (.int 31)))) (eC (.int 2147483629))) (aa 2)))
def dP:=bT 4 (Lj)
theorem Lk:ag ["_law_script","_law_k","_law_many","_law_drawn"] ["_law_script","_law_k","_law_many"] (bB (top 46)):=cH (by decide +kernel)
theorem y9w(B:Bt mg)(c10:aw P w K mg base 1 "_law_cell" 2 xJ)(a:At K mg "_law_pick" (top 46) ["_law_script","_law_k","_law_many"]):aw P w K mg base 2 "_law_pick" 3 (dP):=
 aw.cN a Lk λ_ _ _ _ _ _ _ hr=>
  aP (cb (i:=3) Lk.nd rfl (Or.inl rfl) (uC (mZ (dZ (aZ c10 hr (by decide) (aB 0 rfl rfl (aB 1 rfl rfl ak))) (mZ aY (dZ (aD 1 rfl rfl) aY))) aY) aY))
  (aQ (bQ (uC (uC (dZ (mZ (aD 3 rfl rfl) (aD 3 rfl rfl)) (CH (aD 3 rfl rfl) aY)) aY) (aD 2 rfl rfl))))
def y8k:aI:=bJ (dz 1 (cL (ae (aa 0) ah)) (aA 1) di (dz 1 (cL (ae (aa 0) ah)) (aA 2) di (eB zS (ae (aa 1) (ae (aa 2) ah))) false) false)
def kG:=bT 1 (y8k)
theorem y5z:ag ["_law_many"] ["_law_many"] (bB (top 47)):=cH (by decide +kernel)
abbrev Ll:List Str:=["_law_many","_law_one","_law_other"]
theorem y3u:(Ll).Nodup:=by decide +kernel
abbrev Lm:List Str:=["_law_many","_law_one"]
theorem y3k:(Lm).Nodup:=by decide +kernel
theorem y88(B:Bt mg)(a:At K mg "_law_chain" (top 47) ["_law_many"]):aw P w K mg base 1 "_law_chain" 1 (kG):=
 aw.cN a y5z λ_ _ _ _ _ _ _ hr=>
  aQ (bQ (gU (k:=1) (N':=Lm) false rfl ⟨rfl,by decide +kernel,rfl,rfl,rfl⟩ (fO B.ay (av (aX (qv 0)) ak cX)) (λ_ _ _ _=>bN (i:=1) (show 1<=1 by decide) y3k rfl (Or.inr rfl) (Or.inl rfl)) (λ_ _ _ _=>jv) (λ_ _ _ _=>gU (k:=1) (N':=Ll) false rfl ⟨rfl,by decide +kernel,rfl,rfl,rfl⟩ (fO B.ay (av (aX (qv 0)) ak cX)) (λ_ _ _ _=>bN (i:=2) (show 2<=2 by decide) y3u rfl (Or.inl rfl) (Or.inr rfl)) (λ_ _ _ _=>jv) (λ_ _ _ _=>G3 rfl B.rp Ud (av (aX (qv 1)) (av (aX (qv 2)) ak cX) cX)))))
abbrev y3a:aI:=aJ (br 7 (dE (aH 0 (e2 zG (aa 4) (aa 2))) (e2 zG (aa 6) (aa 2))))
 (fy (jI 5 (ae (e2 cU (e2 ky (aa 7) (aa 2)) (dE (aH 1 (e2 sv (aa 4) (aa 2))) (e2 sv (aa 6) (aa 2)))) ah)))
abbrev y3i:aI:=aJ (br 5 (dI ah))
 (aJ (d3 (cL (ae (e2 ky (cj 0) (aa 2)) ah)) (aA 6) y3a)
 (fy (jI 3 (ae (aa 5) ah))))
def y3t:aI:=aJ (br 2 (cj 1))
 (aJ (br 3 (dI ah))
 (aJ (d3 (cL (ae (e2 ky (cj 0) (aa 2)) ah)) (aA 4) y3i)
 (bJ (aa 3))))
def oN:=bT 8 (y3t)
theorem tJ:ag ["_law_one","_law_other","_law_many","_law_made","_law_here","_law_row","_law_there","_law_first"] ["_law_one","_law_other"] (bB (top 48)):=cH (by decide +kernel)
theorem y3q(B:Bt mg)(a:At K mg "_law_couples" (top 48) ["_law_one","_law_other"]):aw P w K mg base 1 "_law_couples" 2 (oN):=
 aw.cN a tJ λ_ _ _ _ _ _ _ hr=>
  aP (cb (i:=2) tJ.nd rfl (Or.inl rfl) (d4 B.aE (ql 1 rfl rfl)))
  (aP (cb (i:=3) tJ.nd rfl (Or.inl rfl) (eX ak))
  (aP (gF QR rfl (fO B.ay (av (mZ (d4 B.aE (ql 0 rfl rfl)) (aD 2 rfl rfl)) ak gp)) (bN (i:=4) (show 0<=4 by decide) tJ.nd rfl (Or.inl rfl)) (aP (cb (i:=5) tJ.nd rfl (Or.inl rfl) (eX ak))
  (aP (gF QR rfl (fO B.ay (av (mZ (d4 B.aE (ql 0 rfl rfl)) (aD 2 rfl rfl)) ak gp)) (bN (i:=6) (show 0<=6 by decide) tJ.nd rfl (Or.inl rfl)) (aP (cb (i:=7) tJ.nd rfl (Or.inl rfl) (iH (bu (ql 0 rfl rfl) (CH (aD 4 rfl rfl) (aD 2 rfl rfl))) (CH (aD 6 rfl rfl) (aD 2 rfl rfl))))
  (aQ (j5 (nj (ql 5 rfl rfl) (av (dZ (mZ (aD 7 rfl rfl) (aD 2 rfl rfl)) (iH (bu (ql 1 rfl rfl) (uC (aD 4 rfl rfl) (aD 2 rfl rfl))) (uC (aD 6 rfl rfl) (aD 2 rfl rfl)))) ak gp))))))
  (aQ (j5 (nj (ql 3 rfl rfl) (aB 5 rfl rfl ak)))))))
  (aQ (bQ (aD 3 rfl rfl)))))
abbrev x85:aI:=fy (jI 3 (ae (CK (lM (bC (e2 ml (eC (.int 0)) (dF (ae (aa 2) (ae (aa 4) ah))))) (bC (e2 dS (aa 2) (aa 4)))) (eB zS (ae (aa 2) (ae (aa 4) ah))) (e2 cU (aa 0) (eC (.int 1)))) ah))
abbrev x89:aI:=aJ (br 3 (dI ah))
 (aJ (d3 (cL (ae (e2 cU (aa 0) (eC (.int 2))) ah)) (aA 4) x85)
 (fy (jI 1 (ae (aa 3) ah))))
def x8n:aI:=aJ (br 1 (dI ah))
 (aJ (d3 (cL (ae (e2 cU (aa 0) (eC (.int 2))) ah)) (aA 2) x89)
 (bJ (aa 1)))
def p9:=bT 5 (x8n)
theorem xK:ag ["_law_many","_law_made","_law_one","_law_row","_law_other"] ["_law_many"] (bB (top 49)):=cH (by decide +kernel)
theorem x8q(B:Bt mg)(a:At K mg "_law_side_by_side" (top 49) ["_law_many"]):aw P w K mg base 1 "_law_side_by_side" 1 (p9):=
 aw.cN a xK λ_ _ _ _ _ _ _ hr=>
  aP (cb (i:=1) xK.nd rfl (Or.inl rfl) (eX ak))
  (aP (gF QR rfl (fO B.ay (av (dZ (aD 0 rfl rfl) aY) ak gp)) (bN (i:=2) (show 0<=2 by decide) xK.nd rfl (Or.inl rfl)) (aP (cb (i:=3) xK.nd rfl (Or.inl rfl) (eX ak))
  (aP (gF QR rfl (fO B.ay (av (dZ (aD 0 rfl rfl) aY) ak gp)) (bN (i:=4) (show 0<=4 by decide) xK.nd rfl (Or.inl rfl)) (aQ (j5 (nj (ql 3 rfl rfl) (av (Tb (pZ (sD (zR hr aY (ir (aB 2 rfl rfl (aB 4 rfl rfl ak)))) (uF (mn hr (aD 2 rfl rfl) (aD 4 rfl rfl))))) (G3 rfl B.rp Ud (aB 2 rfl rfl (aB 4 rfl rfl ak))) (dZ (aD 0 rfl rfl) aY)) ak UT)))))
  (aQ (j5 (nj (ql 1 rfl rfl) (aB 3 rfl rfl ak)))))))
  (aQ (bQ (aD 1 rfl rfl))))
def Ln:aI:=aJ (br 2 (aK dP 3 (ae (aa 0) (ae (aa 1) (ae (eC (.int 9)) ah)))))
 (aJ (dy (bC (e2 m8 (aa 2) (eC (.int 3)))) (bJ (aK kG 1 (ae (e2 cU (eC (.int 1)) (aK dP 3 (ae (aa 0) (ae (e2 cU (aa 1) (eC (.int 1))) (ae (eC (.int 5)) ah))))) ah))) d5)
 (aJ (dy (bC (e2 m8 (aa 2) (eC (.int 5)))) (bJ (aK oN 2 (ae (aK kG 1 (ae (eC (.int 2)) ah)) (ae (aK kG 1 (ae (dE (dI (ae (eC (.int 2)) (ae (eC (.int 3)) (ae (eC (.int 4)) ah)))) (aK dP 3 (ae (aa 0) (ae (e2 cU (aa 1) (eC (.int 1))) (ae (eC (.int 3)) ah))))) ah)) ah)))) d5)
 (aJ (dy (bC (e2 m8 (aa 2) (eC (.int 7)))) (bJ (aK p9 1 (ae (aK dP 3 (ae (aa 0) (ae (e2 cU (aa 1) (eC (.int 1))) (ae (eC (.int 5)) ah)))) ah))) d5)
 (aJ (dy (bC (e2 dS (aa 2) (eC (.int 7)))) (bJ (aK oN 2 (ae (aK kG 1 (ae (eC (.int 2)) ah)) (ae (aK oN 2 (ae (aK kG 1 (ae (eC (.int 2)) ah)) (ae (aK kG 1 (ae (eC (.int 2)) ah)) ah))) ah)))) d5)
 (aJ (br 3 (dI (ae (dI (ae (eC (.int 0)) (ae (eC (.int 1)) (ae (eC (.int 2)) (ae (eC (.int 3)) (ae (eC (.int 4)) ah)))))) (ae (dI (ae (eC (.int 1)) (ae (eC (.int 1)) (ae (eC (.int 2)) (ae (eC (.int 4)) (ae (eC (.int 4)) ah)))))) (ae (dI (ae (eC (.int 2)) (ae (eC (.int 2)) (ae (eC (.int 2)) (ae (eC (.int 4)) (ae (eC (.int 4)) ah)))))) (ae (dI (ae (eC (.int 3)) (ae (eC (.int 4)) (ae (eC (.int 4)) (ae (eC (.int 3)) (ae (eC (.int 4)) ah)))))) (ae (dI (ae (eC (.int 4)) (ae (eC (.int 4)) (ae (eC (.int 4)) (ae (eC (.int 4)) (ae (eC (.int 4)) ah)))))) ah)))))))
 (bJ (aa 3)))))))
def xM:=bT 4 (Ln)
theorem Ei:ag ["_law_script","_law_at","_law_kind","_law_rows"] ["_law_script","_law_at"] (bB (top 50)):=cH (by decide +kernel)
theorem y9r(B:Bt mg)(gM:aw P w K mg base 2 "_law_pick" 3 dP)(vb:aw P w K mg base 1 "_law_chain" 1 kG)(Ej:aw P w K mg base 1 "_law_couples" 2 oN)(c21:aw P w K mg base 1 "_law_side_by_side" 1 p9)(a:At K mg "_law_base" (top 50) ["_law_script","_law_at"]):aw P w K mg base 3 "_law_base" 2 (xM):=
 aw.cN a Ei λ_ _ _ _ _ _ _ hr=>
  aP (cb (i:=2) Ei.nd rfl (Or.inl rfl) (aZ gM hr (by decide) (aB 0 rfl rfl (aB 1 rfl rfl (cP ak)))))
  (aP (gh (zJ (aD 2 rfl rfl) aY) (aQ (bQ (aZ vb hr (by decide) (av (dZ aY (aZ gM hr (by decide) (aB 0 rfl rfl (av (dZ (aD 1 rfl rfl) aY) (cP ak) gp)))) ak gp)))) gf)
  (aP (gh (zJ (aD 2 rfl rfl) aY) (aQ (bQ (aZ Ej hr (by decide) (av (aZ vb hr (by decide) (cP ak)) (av (aZ vb hr (by decide) (av (iH (eX (cP (cP (cP ak)))) (aZ gM hr (by decide) (aB 0 rfl rfl (av (dZ (aD 1 rfl rfl) aY) (cP ak) gp)))) ak fR)) ak bO) bO)))) gf)
  (aP (gh (zJ (aD 2 rfl rfl) aY) (aQ (bQ (aZ c21 hr (by decide) (av (aZ gM hr (by decide) (aB 0 rfl rfl (av (dZ (aD 1 rfl rfl) aY) (cP ak) gp))) ak bO)))) gf)
  (aP (gh (mn hr (aD 2 rfl rfl) aY) (aQ (bQ (aZ Ej hr (by decide) (av (aZ vb hr (by decide) (cP ak)) (av (aZ Ej hr (by decide) (av (aZ vb hr (by decide) (cP ak)) (av (aZ vb hr (by decide) (cP ak)) ak bO) bO)) ak bO) bO)))) gf)
  (aP (cb (i:=3) Ei.nd rfl (Or.inl rfl) (eX (av (eX (cP (cP (cP (cP (cP ak)))))) (av (eX (cP (cP (cP (cP (cP ak)))))) (av (eX (cP (cP (cP (cP (cP ak)))))) (av (eX (cP (cP (cP (cP (cP ak)))))) (av (eX (cP (cP (cP (cP (cP ak)))))) ak uM) uM) uM) uM) uM)))
  (aQ (bQ (aD 3 rfl rfl))))))))
abbrev y3o:aI:=wG 5 (sM 4 (sL 6)) (sM 4 (sL 7)) (aH 4 (dE (aH 2 (aa 6)) (aa 7)))
abbrev y40:aI:=d3 (cL (ae (cj 2) ah)) (aA 7) (y3o)
def Lq:aI:=aJ (br 2 (aK xM 2 (ae (aa 0) (ae (aa 1) ah))))
 (aJ (br 3 (oA (ae (cj 2) ah)))
 (aJ (br 4 (dz 1 (cL (ae (cj 2) ah)) (aA 8) di (qO 3 (ae (aK dP 3 (ae (aa 0) (ae (e2 cU (e2 cU (aa 1) (eC (.int 2))) (aa 8)) (ae (cj 3) ah)))) ah)) false))
 (aJ (br 5 (dz 1 (cz (aa 2)) (aA 8) di (pM (dI (ae (eC (.int 0)) ah)) (cj 2)) true))
 (aJ (d3 (cL (ae (cj 2) ah)) (aA 6) y40)
 (bJ (gH (ae (dz 1 (cz (aa 5)) (aA 8) di (gH (ae (aa 8) ah)) false) ah)))))))
def vc:=bT 8 (Lq)
theorem tK:ag ["_law_script","_law_at","_law_base_here","_law_left","_law_name","_law_made","_law_one","_law_other"] ["_law_script","_law_at"] (bB (top 51)):=cH (by decide +kernel)
abbrev Lr:List Str:=["_law_script","_law_at","_law_base_here","_law_left","_law_name","_law_made","_law_one","_law_other","_law_k"]
theorem y33:(Lr).Nodup:=by decide +kernel
abbrev Ek:List Str:=["_law_script","_law_at","_law_base_here","_law_left","_law_name","_law_made","_law_one","_law_other","_law_row"]
theorem Ls:(Ek).Nodup:=by decide +kernel
theorem y6g(B:Bt mg)(c0:aw P w K mg base 3 "_law_base" 2 xM)(gM:aw P w K mg base 2 "_law_pick" 3 dP)(a:At K mg "_law_ladder" (top 51) ["_law_script","_law_at"]):aw P w K mg base 4 "_law_ladder" 2 (vc):=
 aw.cN a tK λ_ _ _ _ _ _ _ hr=>
  aP (cb (i:=2) tK.nd rfl (Or.inr rfl) (aZ c0 hr (by decide) (av (aX (qv 0)) (av (aX (qv 1)) ak cX) cX)))
  (aP (cb (i:=3) tK.nd rfl (Or.inr rfl) (zT rfl B.hZ Jj B.ay (av (d4 B.aE (qv 2)) ak bO)))
  (aP (sH (i:=4) (k:=1) (N':=Lr) false tK.nd rfl (Or.inl rfl) rfl rfl ⟨rfl,by decide +kernel,rfl,rfl,rfl⟩ (fO B.ay (av (d4 B.aE (qv 2)) ak bO)) (λ_ _ _ _=>bN (i:=8) (show 8<=8 by decide) y33 rfl (Or.inl rfl) (Or.inr rfl)) (λ_ _ _ _=>jv) (λ_ _ _ _=>Hc (qv 3) (av (aZ gM hr (by decide) (av (aX (qv 0)) (av (dZ (dZ (aX (qv 1)) aY) (aX (qv 8))) (av (d4 B.aE (qv 3)) ak bO) gp) cX)) ak bO)))
  (aP (sH (i:=5) (k:=1) (N':=Ek) true tK.nd rfl (Or.inl rfl) rfl rfl ⟨rfl,by decide +kernel,rfl,rfl,rfl⟩ (fH (aX (qv 2))) (λ_ _ _ _=>bN (i:=8) (show 8<=8 by decide) Ls rfl (Or.inl rfl) (Or.inr rfl)) (λ_ _ _ _=>jv) (λ_ _ _ _=>CZ (eX (cP ak)) (d4 B.aE (qv 2))))
  (aP (gF QR rfl (fO B.ay (av (d4 B.aE (qv 2)) ak bO)) (bN (i:=6) (show 0<=6 by decide) tK.nd rfl (Or.inl rfl)) (aQ (gF QR rfl (fO B.ay (av (d4 B.aE (qv 2)) ak bO)) (bN (i:=7) (show 0<=7 by decide) tK.nd rfl (Or.inl rfl)) (aQ (UR (ql 5 rfl rfl) (Hg (ql 4 rfl rfl) (Hf (ql 6 rfl rfl))) (Hg (ql 4 rfl rfl) (Hf (ql 7 rfl rfl))) (bu (ql 4 rfl rfl) (iH (bu (qv 2) (aD 6 rfl rfl)) (aD 7 rfl rfl))))))))
  (aQ (bQ (j7 B.aR QH (av (gU (k:=1) (N':=Ek) false rfl ⟨rfl,by decide +kernel,rfl,rfl,rfl⟩ (fH (aD 5 rfl rfl)) (λ_ _ _ _=>bN (i:=8) (show 8<=8 by decide) Ls rfl (Or.inl rfl) (Or.inr rfl)) (λ_ _ _ _=>jv) (λ_ _ _ _=>j7 B.aR QH (av (aX (qv 8)) ak cX))) ak nq))))))))
def Lu:aI:=bJ (dE (dz 1 (cL (ae (cj 0) ah)) (aA 1) (bC (e2 dS (wA (ae (aH 0 (aa 1)) ah)) (oA (ae (cj 0) ah)))) (aa 1) false) (eC (.int 0)))
def tL:=bT 1 (Lu)
theorem y95:ag ["_law_ladder_here"] ["_law_ladder_here"] (bB (top 52)):=cH (by decide +kernel)
abbrev Lv:List Str:=["_law_ladder_here","_law_worth"]
theorem y7f:(Lv).Nodup:=by decide +kernel
theorem z2c(B:Bt mg)(a:At K mg "_law_low" (top 52) ["_law_ladder_here"]):aw P w K mg base 1 "_law_low" 1 (tL):=
 aw.cN a y95 λ_ _ _ _ _ _ _ hr=>
  aQ (bQ (iH (gU (k:=1) (N':=Lv) false rfl ⟨rfl,by decide +kernel,rfl,rfl,rfl⟩ (fO B.ay (av (d4 B.aE (qv 0)) ak bO)) (λ_ _ _ _=>bN (i:=1) (show 1<=1 by decide) y7f rfl (Or.inl rfl) (Or.inr rfl)) (λ_ _ _ _=>mj (mn hr (TR B.hZ Jj (av (bu (qv 0) (aX (qv 1))) ak fR)) (zT rfl B.hZ Jj B.ay (av (d4 B.aE (qv 0)) ak bO)))) (λ_ _ _ _=>aX (qv 1))) aY))
abbrev y7o:aI:=br 2 (dE (aH 0 (aa 2)) (aa 3))
def Lw:aI:=aJ (br 2 (aK tL 1 (ae (aa 0) ah)))
 (aJ (d3 (cz (aa 1)) (aA 3) y7o)
 (bJ (aa 2)))
def vd:=bT 4 (Lw)
theorem AN:ag ["_law_ladder_here","_law_worths","_law_here","_law_worth"] ["_law_ladder_here","_law_worths"] (bB (top 53)):=cH (by decide +kernel)
theorem y90(B:Bt mg)(El:aw P w K mg base 1 "_law_low" 1 tL)(a:At K mg "_law_join" (top 53) ["_law_ladder_here","_law_worths"]):aw P w K mg base 2 "_law_join" 2 (vd):=
 aw.cN a AN λ_ _ _ _ _ _ _ hr=>
  aP (cb (i:=2) AN.nd rfl (Or.inl rfl) (aZ El hr (by decide) (aB 0 rfl rfl ak)))
  (aP (gF QR rfl (fH (aD 1 rfl rfl)) (bN (i:=3) (show 0<=3 by decide) AN.nd rfl (Or.inl rfl)) (aQ (cb (i:=2) AN.nd rfl (Or.inl rfl) (iH (bu (ql 0 rfl rfl) (aD 2 rfl rfl)) (aD 3 rfl rfl)))))
  (aQ (bQ (aD 2 rfl rfl))))
def Lx:aI:=bJ (dz 1 (cL (ae (cj 0) ah)) (aA 2) (bC (e2 dS (dE (aH 0 (aa 2)) (aa 1)) (aa 1))) (aa 2) false)
def tM:=bT 2 (Lx)
theorem y6k:ag ["_law_ladder_here","_law_worth"] ["_law_ladder_here","_law_worth"] (bB (top 54)):=cH (by decide +kernel)
abbrev Ly:List Str:=["_law_ladder_here","_law_worth","_law_one"]
theorem y44:(Ly).Nodup:=by decide +kernel
theorem y7e(B:Bt mg)(a:At K mg "_law_under" (top 54) ["_law_ladder_here","_law_worth"]):aw P w K mg base 1 "_law_under" 2 (tM):=
 aw.cN a y6k λ_ _ _ _ _ _ _ hr=>
  aQ (bQ (gU (k:=1) (N':=Ly) false rfl ⟨rfl,by decide +kernel,rfl,rfl,rfl⟩ (fO B.ay (av (d4 B.aE (qv 0)) ak bO)) (λ_ _ _ _=>bN (i:=2) (show 2<=2 by decide) y44 rfl (Or.inl rfl) (Or.inr rfl)) (λ_ _ _ _=>mj (mn hr (iH (bu (qv 0) (aX (qv 2))) (aX (qv 1))) (aX (qv 1)))) (λ_ _ _ _=>aX (qv 2))))
abbrev Lz:aI:=fy (jI 6 (ae (aK vd 2 (ae (aa 2) (ae (dz 1 (cz (aK tM 2 (ae (aa 2) (ae (aa 5) ah)))) (aA 7) di (aH 4 (aa 7)) false) ah))) ah))
abbrev LA:aI:=fy (jI 4 (ae (dE (dI (ae (aa 3) (ae (aa 5) (ae (aK dP 3 (ae (aa 0) (ae (e2 cU (aa 1) (aa 5)) (ae (cj 2) ah)))) ah)))) (aK dP 3 (ae (aa 0) (ae (e2 cU (e2 cU (aa 1) (eC (.int 8))) (aa 5)) (ae (eC (.int 3)) ah))))) ah))
def LB:aI:=aJ (br 3 (aK tL 1 (ae (aa 2) ah)))
 (aJ (br 4 (dI ah))
 (aJ (d3 (cL (ae (cj 2) ah)) (aA 5) LA)
 (aJ (br 6 (dI ah))
 (aJ (d3 (cL (ae (cj 2) ah)) (aA 5) Lz)
 (bJ (gH (ae (aa 6) ah)))))))
def tN:=bT 7 (LB)
theorem vf:ag ["_law_script","_law_at","_law_ladder_here","_law_low_here","_law_drawn","_law_worth","_law_made"] ["_law_script","_law_at","_law_ladder_here"] (bB (top 55)):=cH (by decide +kernel)
abbrev LC:List Str:=["_law_script","_law_at","_law_ladder_here","_law_low_here","_law_drawn","_law_worth","_law_made","_law_one"]
theorem y6u:(LC).Nodup:=by decide +kernel
theorem y98(B:Bt mg)(El:aw P w K mg base 1 "_law_low" 1 tL)(gM:aw P w K mg base 2 "_law_pick" 3 dP)(c15:aw P w K mg base 2 "_law_join" 2 vd)(c24:aw P w K mg base 1 "_law_under" 2 tM)(a:At K mg "_law_rule" (top 55) ["_law_script","_law_at","_law_ladder_here"]):aw P w K mg base 3 "_law_rule" 3 (tN):=
 aw.cN a vf λ_ _ _ _ _ _ _ hr=>
  aP (cb (i:=3) vf.nd rfl (Or.inl rfl) (aZ El hr (by decide) (aB 2 rfl rfl ak)))
  (aP (cb (i:=4) vf.nd rfl (Or.inr rfl) (eX ak))
  (aP (gF QR rfl (fO B.ay (av (d4 B.aE (ql 2 rfl rfl)) ak bO)) (bN (i:=5) (show 0<=5 by decide) vf.nd rfl (Or.inl rfl)) (aQ (j5 (nj (qv 4) (av (iH (eX (aB 3 rfl rfl (aB 5 rfl rfl (av (aZ gM hr (by decide) (aB 0 rfl rfl (av (dZ (aD 1 rfl rfl) (aD 5 rfl rfl)) (av (d4 B.aE (ql 2 rfl rfl)) ak bO) gp))) ak bO)))) (aZ gM hr (by decide) (aB 0 rfl rfl (av (dZ (dZ (aD 1 rfl rfl) aY) (aD 5 rfl rfl)) (cP ak) gp)))) ak fR)))))
  (aP (cb (i:=6) vf.nd rfl (Or.inl rfl) (eX ak))
  (aP (gF QR rfl (fO B.ay (av (d4 B.aE (ql 2 rfl rfl)) ak bO)) (bN (i:=5) (show 0<=5 by decide) vf.nd rfl (Or.inl rfl)) (aQ (j5 (nj (ql 6 rfl rfl) (av (aZ c15 hr (by decide) (aB 2 rfl rfl (av (gU (k:=1) (N':=LC) false rfl ⟨rfl,by decide +kernel,rfl,rfl,rfl⟩ (fH (aZ c24 hr (by decide) (aB 2 rfl rfl (aB 5 rfl rfl ak)))) (λ_ _ _ _=>bN (i:=7) (show 7<=7 by decide) y6u rfl (Or.inl rfl) (Or.inr rfl)) (λ_ _ _ _=>jv) (λ_ _ _ _=>bu (qv 4) (aX (qv 7)))) ak nq))) ak bO)))))
  (aQ (bQ (j7 B.aR QH (aB 6 rfl rfl ak))))))))
abbrev y2q:aI:=aJ (br 4 (dE (aH 0 (aH 1 (aa 2))) (aH 1 (aa 3))))
 (dy (bC (e2 dk (aH 1 (dE (aH 0 (aa 2)) (aa 3))) (aa 4))) (bJ (eC (.bl false))) d5)
abbrev y3f:aI:=d3 (cL (ae (aa 2) ah)) (aA 3) (y2q)
def LD:aI:=aJ (d3 (cL (ae (cj 0) ah)) (aA 2) y3f)
 (bJ (eC (.bl true)))
def xN:=bT 5 (LD)
theorem AO:ag ["_law_ladder_here","_law_rule_here","_law_one","_law_other","_law_due"] ["_law_ladder_here","_law_rule_here"] (bB (top 56)):=cH (by decide +kernel)
theorem y3z(B:Bt mg)(a:At K mg "_law_spreads" (top 56) ["_law_ladder_here","_law_rule_here"]):aw P w K mg base 1 "_law_spreads" 2 (xN):=
 aw.cN a AO λ_ _ _ _ _ _ _ hr=>
  aP (gF QR rfl (fO B.ay (av (d4 B.aE (ql 0 rfl rfl)) ak bO)) (bN (i:=2) (show 0<=2 by decide) AO.nd rfl (Or.inl rfl)) (aQ (gF QR rfl (fO B.ay (aB 2 rfl rfl ak)) (bN (i:=3) (show 0<=3 by decide) AO.nd rfl (Or.inl rfl)) (aP (cb (i:=4) AO.nd rfl (Or.inl rfl) (iH (bu (ql 0 rfl rfl) (bu (ql 1 rfl rfl) (aD 2 rfl rfl))) (bu (ql 1 rfl rfl) (aD 3 rfl rfl))))
  (aQ (gh (kA hr (bu (ql 1 rfl rfl) (iH (bu (ql 0 rfl rfl) (aD 2 rfl rfl)) (aD 3 rfl rfl))) (aD 4 rfl rfl)) (aQ (bQ kT)) gf))))))
  (aQ (bQ kT))
def LF:aI:=aJ (br 3 (aK tN 3 (ae (aa 0) (ae (aa 1) (ae (aa 2) ah)))))
 (aJ (dy (gT (aK xN 2 (ae (aa 2) (ae (aa 3) ah)))) (bJ (aa 3)) d5)
 (aJ (br 4 (aK dP 3 (ae (aa 0) (ae (e2 cU (aa 1) (eC (.int 17))) (ae (cj 2) ah)))))
 (aJ (br 5 (dI (ae (gH (ae (oA (ae (cj 2) ah)) ah)) (ae (Ag (dF (ae (aa 4) ah)) (cj 2)) ah))))
 (aJ (fy (jI 5 (ae (gH (ae (dz 1 (cL (ae (cj 2) ah)) (aA 6) di (dE (aH 2 (aa 6)) (aa 4)) false) ah)) ah)))
 (bJ (aH 5 (aK dP 3 (ae (aa 0) (ae (e2 cU (aa 1) (eC (.int 16))) (ae (eC (.int 3)) ah))))))))))
def vg:=bT 6 (LF)
theorem AQ:ag ["_law_script","_law_at","_law_ladder_here","_law_rule_here","_law_worth","_law_some"] ["_law_script","_law_at","_law_ladder_here"] (bB (top 57)):=cH (by decide +kernel)
abbrev LG:List Str:=["_law_script","_law_at","_law_ladder_here","_law_rule_here","_law_worth","_law_some","_law_one"]
theorem x87:(LG).Nodup:=by decide +kernel
theorem x91(B:Bt mg)(Em:aw P w K mg base 3 "_law_rule" 3 tN)(c23:aw P w K mg base 1 "_law_spreads" 2 xN)(gM:aw P w K mg base 2 "_law_pick" 3 dP)(a:At K mg "_law_spread_rule" (top 57) ["_law_script","_law_at","_law_ladder_here"]):aw P w K mg base 4 "_law_spread_rule" 3 (vg):=
 aw.cN a AQ λ_ _ _ _ _ _ _ hr=>
  aP (cb (i:=3) AQ.nd rfl (Or.inl rfl) (aZ Em hr (by decide) (aB 0 rfl rfl (aB 1 rfl rfl (av (aX (qv 2)) ak cX)))))
  (aP (gh (mh (aZ c23 hr (by decide) (av (aX (qv 2)) (aB 3 rfl rfl ak) cX))) (aQ (bQ (aD 3 rfl rfl))) gf)
  (aP (cb (i:=4) AQ.nd rfl (Or.inr rfl) (aZ gM hr (by decide) (aB 0 rfl rfl (av (dZ (aD 1 rfl rfl) aY) (av (d4 B.aE (qv 2)) ak bO) gp))))
  (aP (cb (i:=5) AQ.nd rfl (Or.inl rfl) (eX (av (j7 B.aR QH (av (zT rfl B.hZ Jj B.ay (av (d4 B.aE (qv 2)) ak bO)) ak bO)) (av (WA (ir (av (aX (qv 4)) ak cX)) (d4 B.aE (qv 2))) ak gp) bO)))
  (aP (j5 (nj (ql 5 rfl rfl) (av (j7 B.aR QH (av (gU (k:=1) (N':=LG) false rfl ⟨rfl,by decide +kernel,rfl,rfl,rfl⟩ (fO B.ay (av (d4 B.aE (qv 2)) ak bO)) (λ_ _ _ _=>bN (i:=6) (show 6<=6 by decide) x87 rfl (Or.inl rfl) (Or.inr rfl)) (λ_ _ _ _=>jv) (λ_ _ _ _=>iH (bu (qv 2) (aX (qv 6))) (aX (qv 4)))) ak nq)) ak bO)))
  (aQ (bQ (bu (ql 5 rfl rfl) (aZ gM hr (by decide) (aB 0 rfl rfl (av (dZ (aD 1 rfl rfl) aY) (cP ak) gp))))))))))
abbrev En:aI:=aJ (br 10 (aK dP 3 (ae (aa 0) (ae (e2 cU (e2 cU (aa 1) (eC (.int 3))) (e2 ky (eC (.int 2)) (aa 6))) (ae (cj 2) ah)))))
 (fy (jI 9 (ae (dF (ae (aK dP 3 (ae (aa 0) (ae (e2 cU (e2 cU (aa 1) (eC (.int 4))) (e2 ky (eC (.int 2)) (aa 6))) (ae (aa 4) ah)))) (ae (aa 10) ah))) ah)))
abbrev Eo:aI:=aJ (br 7 (e2 cU (e2 cU (aa 1) (eC (.int 10))) (e2 ky (eC (.int 22)) (aa 6))))
 (aJ (br 8 (aK tN 3 (ae (aa 0) (ae (e2 cU (aa 7) (eC (.int 2))) (ae (aa 2) ah)))))
 (aJ (dy (gT (aa 3)) (br 8 (aK vg 3 (ae (aa 0) (ae (e2 cU (aa 7) (eC (.int 2))) (ae (aa 2) ah))))) d5)
 (fy (jI 5 (ae (dF (ae (aK dP 3 (ae (aa 0) (ae (aa 7) (ae (aa 4) ah)))) (ae (aK dP 3 (ae (aa 0) (ae (e2 cU (aa 7) (eC (.int 1))) (ae (aa 4) ah)))) (ae (aa 8) ah)))) ah)))))
def LH:aI:=aJ (br 4 (e2 cU (eC (.int 1)) (aK dP 3 (ae (aa 0) (ae (aa 1) (ae (eC (.int 5)) ah))))))
 (aJ (br 5 (dI ah))
 (aJ (d3 (cL (ae (aK dP 3 (ae (aa 0) (ae (e2 cU (aa 1) (eC (.int 1))) (ae (eC (.int 8)) ah)))) ah)) (aA 6) Eo)
 (aJ (br 9 (dI ah))
 (aJ (d3 (cL (ae (aK dP 3 (ae (aa 0) (ae (e2 cU (aa 1) (eC (.int 2))) (ae (eC (.int 4)) ah)))) ah)) (aA 6) En)
 (bJ (dF (ae (aa 4) (ae (gH (ae (aa 5) ah)) (ae (gH (ae (aa 9) ah)) ah)))))))))
def vh:=bT 11 (LH)
theorem oO:ag ["_law_script","_law_at","_law_ladder_here","_law_spread","_law_places","_law_ways","_law_k","_law_base_here","_law_rule_here","_law_begins","_law_worth"] ["_law_script","_law_at","_law_ladder_here","_law_spread"] (bB (top 58)):=cH (by decide +kernel)
theorem y8e(B:Bt mg)(gM:aw P w K mg base 2 "_law_pick" 3 dP)(Em:aw P w K mg base 3 "_law_rule" 3 tN)(c22:aw P w K mg base 4 "_law_spread_rule" 3 vg)(a:At K mg "_law_chart" (top 58) ["_law_script","_law_at","_law_ladder_here","_law_spread"]):aw P w K mg base 5 "_law_chart" 4 (vh):=
 aw.cN a oO λ_ _ _ _ _ _ _ hr=>
  aP (cb (i:=4) oO.nd rfl (Or.inl rfl) (dZ aY (aZ gM hr (by decide) (aB 0 rfl rfl (aB 1 rfl rfl (cP ak))))))
  (aP (cb (i:=5) oO.nd rfl (Or.inl rfl) (eX ak))
  (aP (gF QR rfl (fO B.ay (av (aZ gM hr (by decide) (aB 0 rfl rfl (av (dZ (aD 1 rfl rfl) aY) (cP ak) gp))) ak bO)) (bN (i:=6) (show 0<=6 by decide) oO.nd rfl (Or.inl rfl)) (aP (cb (i:=7) oO.nd rfl (Or.inl rfl) (dZ (dZ (aD 1 rfl rfl) aY) (mZ aY (aD 6 rfl rfl))))
  (aP (cb (i:=8) oO.nd rfl (Or.inl rfl) (aZ Em hr (by decide) (aB 0 rfl rfl (av (dZ (aD 7 rfl rfl) aY) (aB 2 rfl rfl ak) gp))))
  (aP (gh (mh (aD 3 rfl rfl)) (aQ (cb (i:=8) oO.nd rfl (Or.inl rfl) (aZ c22 hr (by decide) (aB 0 rfl rfl (av (dZ (aD 7 rfl rfl) aY) (aB 2 rfl rfl ak) gp))))) gf)
  (aQ (j5 (nj (ql 5 rfl rfl) (av (ir (av (aZ gM hr (by decide) (aB 0 rfl rfl (aB 7 rfl rfl (aB 4 rfl rfl ak)))) (av (aZ gM hr (by decide) (aB 0 rfl rfl (av (dZ (aD 7 rfl rfl) aY) (aB 4 rfl rfl ak) gp))) (aB 8 rfl rfl ak) bO) bO)) ak Hh))))))))
  (aP (cb (i:=9) oO.nd rfl (Or.inl rfl) (eX ak))
  (aP (gF QR rfl (fO B.ay (av (aZ gM hr (by decide) (aB 0 rfl rfl (av (dZ (aD 1 rfl rfl) aY) (cP ak) gp))) ak bO)) (bN (i:=6) (show 0<=6 by decide) oO.nd rfl (Or.inl rfl)) (aP (cb (i:=10) oO.nd rfl (Or.inl rfl) (aZ gM hr (by decide) (aB 0 rfl rfl (av (dZ (dZ (aD 1 rfl rfl) aY) (mZ aY (aD 6 rfl rfl))) (av (d4 B.aE (ql 2 rfl rfl)) ak bO) gp))))
  (aQ (j5 (nj (ql 9 rfl rfl) (av (ir (av (aZ gM hr (by decide) (aB 0 rfl rfl (av (dZ (dZ (aD 1 rfl rfl) aY) (mZ aY (aD 6 rfl rfl))) (aB 4 rfl rfl ak) gp))) (aB 10 rfl rfl ak) bO)) ak Hh))))))
  (aQ (bQ (ir (aB 4 rfl rfl (av (j7 B.aR QH (aB 5 rfl rfl ak)) (av (j7 B.aR QH (aB 9 rfl rfl ak)) ak bO) bO)))))))))
def LJ:aI:=bJ (gH (ae (dz 2 (z_ (ae (aa 1) (ae (aa 2) ah))) (gX (bU (aA 3) (bU (aA 4) gq))) di (dE (aH 0 (aa 3)) (aa 4)) false) ah))
def tO:=bT 3 (LJ)
theorem y2v:ag ["ladder","one","other"] ["ladder","one","other"] (bB (top 20)):=cH (by decide +kernel)
abbrev LK:List Str:=["ladder","one","other","x","y"]
theorem LL:(LK).Nodup:=by decide +kernel
theorem y3r(B:Bt mg)(a:At K mg "joined_rules" (top 20) ["ladder","one","other"]):aw P w K mg base 1 "joined_rules" 3 (tO):=
 aw.cN a y2v λ_ _ _ _ _ _ _ hr=>
  aQ (bQ (j7 B.aR QH (av (gU (k:=2) (N':=LK) false rfl ⟨rfl,by decide +kernel,rfl,rfl,rfl⟩ (U5 B.xI (aB 1 rfl rfl (aB 2 rfl rfl ak))) (λ_ _ _ _=>oF (n:=2) rfl (gK (bN (i:=3) (show 3<=3 by decide) LL rfl (Or.inl rfl) (Or.inr rfl)) (gK (bN (i:=4) (show 3<=4 by decide) LL rfl (Or.inl rfl) (Or.inr rfl)) oE)) uN) (λ_ _ _ _=>jv) (λ_ _ _ _=>iH (bu (qv 0) (aX (qv 3))) (aX (qv 4)))) ak nq)))
abbrev AR:aI:=u5 2 (dF (ae (aa 3) (ae (aa 4) ah))) (aK tO 3 (ae (aa 0) (ae (u3 2 (dF (ae (aa 3) (ae (aa 4) ah))) (aa 5)) (ae (aa 5) ah))))
def LM:aI:=aJ (br 2 Kt)
 (aJ (d3 (cz (aa 1)) (gX (bU (aA 3) (bU (aA 4) (bU (aA 5) gq)))) AR)
 (bJ (gH (ae (dz 2 (cz (xu 2)) (gX (bU (aA 6) (bU (aA 7) gq))) di (dF (ae (aa 6) (ae (aa 7) (ae (u0 2 (dF (ae (aa 6) (ae (aa 7) ah)))) ah)))) false) ah))))
def xO:=bT 6 (LM)
theorem xP:ag ["ladder","ways","rules","start","goal","rule"] ["ladder","ways"] (bB (top 31)):=cH (by decide +kernel)
abbrev LN:List Str:=["ladder","ways","rules","#3","#4","rule","start","goal"]
theorem LO:(LN).Nodup:=by decide +kernel
theorem y6h(B:Bt mg)(Ep:aw P w K mg base 1 "joined_rules" 3 tO)(a:At K mg "ways_joined" (top 31) ["ladder","ways"]):aw P w K mg base 2 "ways_joined" 2 (xO):=
 aw.cN a xP λ_ _ _ _ _ _ _ hr=>
  aP (cb (i:=2) xP.nd rfl (Or.inr rfl) z80)
  (aP (gF QR rfl (fH (aD 1 rfl rfl)) (oF (n:=3) rfl (gK (bN (i:=3) (show 0<=3 by decide) xP.nd rfl (Or.inl rfl)) (gK (bN (i:=4) (show 0<=4 by decide) xP.nd rfl (Or.inl rfl)) (gK (bN (i:=5) (show 0<=5 by decide) xP.nd rfl (Or.inl rfl)) oE))) Af) (aQ (Kx hr (qv 2) (ir (aB 3 rfl rfl (aB 4 rfl rfl ak))) (aZ Ep hr (by decide) (aB 0 rfl rfl (av (Kw hr (qv 2) (ir (aB 3 rfl rfl (aB 4 rfl rfl ak))) (aD 5 rfl rfl)) (aB 5 rfl rfl ak) bO))))))
  (aQ (bQ (j7 B.aR QH (av (gU (k:=2) (N':=LN) false rfl ⟨rfl,by decide +kernel,rfl,rfl,rfl⟩ (fH (z7l rfl B.fi (qv 2))) (λ_ _ _ _=>oF (n:=2) rfl (gK (bN (i:=6) (show 6<=6 by decide) LO rfl (Or.inl rfl) (Or.inr rfl)) (gK (bN (i:=7) (show 6<=7 by decide) LO rfl (Or.inl rfl) (Or.inr rfl)) oE)) uN) (λ_ _ _ _=>jv) (λ_ _ _ _=>ir (av (aX (qv 6)) (av (aX (qv 7)) (av (j8j hr (qv 2) (ir (av (aX (qv 6)) (av (aX (qv 7)) ak cX) cX))) ak fR) cX) cX))) ak nq)))))
abbrev AS:aI:=u5 2 (aa 3) (dE (aH 0 (u3 2 (aa 3) (aa 4))) (aa 4))
def LP:aI:=aJ (br 2 Ku)
 (aJ (d3 (cz (aa 1)) (gX (bU (aA 3) (bU (aA 4) gq))) AS)
 (bJ (gH (ae (AG 2) ah))))
def xQ:=bT 5 (LP)
theorem AU:ag ["ladder","begins","worths","place","worth"] ["ladder","begins"] (bB (top 32)):=cH (by decide +kernel)
theorem y2s(B:Bt mg)(a:At K mg "begins_joined" (top 32) ["ladder","begins"]):aw P w K mg base 1 "begins_joined" 2 (xQ):=
 aw.cN a AU λ_ _ _ _ _ _ _ hr=>
  aP (cb (i:=2) AU.nd rfl (Or.inl rfl) z7u)
  (aP (gF QR rfl (fH (aD 1 rfl rfl)) (oF (n:=2) rfl (gK (bN (i:=3) (show 0<=3 by decide) AU.nd rfl (Or.inl rfl)) (gK (bN (i:=4) (show 0<=4 by decide) AU.nd rfl (Or.inl rfl)) oE)) uN) (aQ (Kx hr (ql 2 rfl rfl) (aD 3 rfl rfl) (iH (bu (ql 0 rfl rfl) (Kw hr (ql 2 rfl rfl) (aD 3 rfl rfl) (aD 4 rfl rfl))) (aD 4 rfl rfl)))))
  (aQ (bQ (j7 B.aR QH (av (y8g rfl B.fi (ql 2 rfl rfl)) ak bO)))))
def LQ:aI:=bJ (dF (ae (aH 1 (eC (.int 0))) (ae (aK xO 2 (ae (aa 0) (ae (aH 1 (eC (.int 1))) ah))) (ae (aK xQ 2 (ae (aa 0) (ae (aH 1 (eC (.int 2))) ah))) ah))))
def p_:=bT 2 (LQ)
theorem y3s:ag ["ladder","chart"] ["ladder","chart"] (bB (top 30)):=cH (by decide +kernel)
theorem y69(B:Bt mg)(c55:aw P w K mg base 2 "ways_joined" 2 xO)(c28:aw P w K mg base 1 "begins_joined" 2 xQ)(a:At K mg "joined_ways" (top 30) ["ladder","chart"]):aw P w K mg base 3 "joined_ways" 2 (p_):=
 aw.cN a y3s λ_ _ _ _ _ _ _ hr=>
  aQ (bQ (ir (av (bu (ql 1 rfl rfl) aY) (av (aZ c55 hr (by decide) (aB 0 rfl rfl (av (bu (ql 1 rfl rfl) aY) ak fR))) (av (aZ c28 hr (by decide) (aB 0 rfl rfl (av (bu (ql 1 rfl rfl) aY) ak fR))) ak bO) bO) fR)))
def LR:aI:=bJ (sN (sQ .int (aa 0)) (C5 (sQ .bool (aa 0))))
def xR:=bT 1 (LR)
theorem y9q:ag ["thing"] ["thing"] (bB (top 6)):=cH (by decide +kernel)
theorem z2s(B:Bt mg)(a:At K mg "is_whole" (top 6) ["thing"]):aw P w K mg base 1 "is_whole" 1 (xR):=
 aw.cN a y9q λ_ _ _ _ _ _ _ hr=>
  aQ (bQ (C7 (wH .int B.bZ B.xG PyProof.Rows.boot_int (aD 0 rfl rfl)) (C6 (US (wH .bool B.bZ B.tI PyProof.Rows.boot_bool (aD 0 rfl rfl))))))
def LS:aI:=bJ (sN (aK xR 1 (ae (aa 0) ah)) (Aa GI m8 (eC (.int 0)) (aa 0) (aa 1)))
def oP:=bT 2 (LS)
theorem y35:ag ["thing","many"] ["thing","many"] (bB (top 7)):=cH (by decide +kernel)
theorem y3n(B:Bt mg)(c37:aw P w K mg base 1 "is_whole" 1 xR)(a:At K mg "is_number_of" (top 7) ["thing","many"]):aw P w K mg base 2 "is_number_of" 2 (oP):=
 aw.cN a y35 λ_ _ _ _ _ _ _ hr=>
  aQ (bQ (C7 (aZ c37 hr (by decide) (aB 0 rfl rfl ak)) (C6 (Wj aY (aD 0 rfl rfl) (aD 1 rfl rfl)))))
def LU:aI:=dy (i8 (gT (aK oP 2 (ae (aa 1) (ae (aa 0) ah))))) wL (d5)
def xS:=bT 2 (LU)
theorem y01:ag ["places","place"] ["places","place"] (bB (top 26)):=cH (by decide +kernel)
theorem y0t(B:Bt mg)(xT:aw P w K mg base 2 "is_number_of" 2 oP)(a:At K mg "refuse_no_place" (top 26) ["places","place"]):aw P w K mg base 3 "refuse_no_place" 2 (xS):=
 aw.cN a y01 λ_ _ _ _ _ _ _ hr=>
  aQ (gh (pF (mh (aZ xT hr (by decide) (aB 1 rfl rfl (aB 0 rfl rfl ak))))) (aQ De) gf)
def LV:aI:=bJ (gH (ae (pM (dI (ae (aa 1) ah)) (cj 0)) ah))
def xU:=bT 2 (LV)
theorem z3l:ag ["ladder","worth"] ["ladder","worth"] (bB (top 18)):=cH (by decide +kernel)
theorem z8a(B:Bt mg)(a:At K mg "steady" (top 18) ["ladder","worth"]):aw P w K mg base 1 "steady" 2 (xU):=
 aw.cN a z3l λ_ _ _ _ _ _ _ hr=>
  aQ (bQ (j7 B.aR QH (av (CZ (eX (aB 1 rfl rfl ak)) (d4 B.aE (ql 0 rfl rfl))) ak gp)))
def Er:aI:=aJ (dy (lM (i8 (gT (sQ .tuple (aa 0)))) (bC (e2 dk (cj 0) (aa 1)))) (bJ (eC (.bl false))) d5)
 (bJ (eB qQ (ae (dz 1 (cz (aa 0)) (aA 3) di (aK oP 2 (ae (aa 3) (ae (aa 2) ah))) false) ah)))
def tP:=bT 3 (Er)
theorem y7v:ag ["thing","length","many"] ["thing","length","many"] (bB (top 8)):=cH (by decide +kernel)
abbrev LW:List Str:=["thing","length","many","part"]
theorem y6v:(LW).Nodup:=by decide +kernel
theorem y9i(B:Bt mg)(xT:aw P w K mg base 2 "is_number_of" 2 oP)(a:At K mg "is_row_of" (top 8) ["thing","length","many"]):aw P w K mg base 3 "is_row_of" 3 (tP):=
 aw.cN a y7v λ_ _ _ _ _ _ _ hr=>
  aP (gh (pZ (sD (pF (mh (wH .tuple B.bZ B.aR QH (aD 0 rfl rfl)))) (uF (kA hr (d4 B.aE (ql 0 rfl rfl)) (aD 1 rfl rfl))))) (aQ (bQ kT)) gf)
  (aQ (bQ (Hs rfl B.rn (av (gU (k:=1) (N':=LW) false rfl ⟨rfl,by decide +kernel,rfl,rfl,rfl⟩ (fH (aD 0 rfl rfl)) (λ_ _ _ _=>bN (i:=3) (show 3<=3 by decide) y6v rfl (Or.inl rfl) (Or.inr rfl)) (λ_ _ _ _=>jv) (λ_ _ _ _=>aZ xT hr (by decide) (av (aX (qv 3)) (av (aX (qv 2)) ak cX) cX))) ak nq))))
def LX:aI:=bJ (aK tP 3 (ae (aa 1) (ae (cj 0) (ae (cj 0) ah))))
def xV:=bT 2 (LX)
theorem z2u:ag ["ladder","thing"] ["ladder","thing"] (bB (top 16)):=cH (by decide +kernel)
theorem z4v(B:Bt mg)(c34:aw P w K mg base 3 "is_row_of" 3 tP)(a:At K mg "is_rule" (top 16) ["ladder","thing"]):aw P w K mg base 4 "is_rule" 2 (xV):=
 aw.cN a z2u λ_ _ _ _ _ _ _ hr=>
  aQ (bQ (aZ c34 hr (by decide) (aB 1 rfl rfl (av (d4 B.aE (ql 0 rfl rfl)) (av (d4 B.aE (ql 0 rfl rfl)) ak bO) bO))))
def LY:aI:=bJ (e2 dS (dE (aH 0 (aa 1)) (aa 2)) (aa 2))
def mC:=bT 3 (LY)
theorem y9u:ag ["ladder","one","other"] ["ladder","one","other"] (bB (top 13)):=cH (by decide +kernel)
theorem z39(B:Bt mg)(a:At K mg "is_below" (top 13) ["ladder","one","other"]):aw P w K mg base 1 "is_below" 3 (mC):=
 aw.cN a y9u λ_ _ _ _ _ _ _ hr=>
  aQ (bQ (G2 hr (iH (bu (ql 0 rfl rfl) (aD 1 rfl rfl)) (aD 2 rfl rfl)) (aD 2 rfl rfl)))
def LZ:aI:=bJ (dz 1 (cL (ae (cj 0) ah)) (aA 2) (gT (aK mC 3 (ae (aa 0) (ae (aa 2) (ae (aa 1) ah))))) (aa 2) false)
def rA:=bT 2 (LZ)
theorem z70:ag ["ladder","worth"] ["ladder","worth"] (bB (top 14)):=cH (by decide +kernel)
abbrev L4:List Str:=["ladder","worth","x"]
theorem z5g:(L4).Nodup:=by decide +kernel
theorem j39(B:Bt mg)(xW:aw P w K mg base 1 "is_below" 3 mC)(a:At K mg "below" (top 14) ["ladder","worth"]):aw P w K mg base 2 "below" 2 (rA):=
 aw.cN a z70 λ_ _ _ _ _ _ _ hr=>
  aQ (bQ (gU (k:=1) (N':=L4) false rfl ⟨rfl,by decide +kernel,rfl,rfl,rfl⟩ (fO B.ay (av (d4 B.aE (qv 0)) ak bO)) (λ_ _ _ _=>bN (i:=2) (show 2<=2 by decide) z5g rfl (Or.inl rfl) (Or.inr rfl)) (λ_ _ _ _=>mj (mh (aZ xW hr (by decide) (av (aX (qv 0)) (av (aX (qv 2)) (av (aX (qv 1)) ak cX) cX) cX)))) (λ_ _ _ _=>aX (qv 2))))
abbrev z91:aI:=dy (i8 (gT (aK mC 3 (ae (aa 0) (ae (aH 1 (aa 3)) (ae (aH 1 (aa 2)) ah)))))) (bJ (eC (.bl false))) (d5)
abbrev z88:aI:=d3 (cz (aK rA 2 (ae (aa 0) (ae (aa 2) ah)))) (aA 3) (z91)
def L5:aI:=aJ (d3 (cL (ae (cj 0) ah)) (aA 2) z88)
 (bJ (eC (.bl true)))
def xX:=bT 4 (L5)
theorem Es:ag ["ladder","rule","y","x"] ["ladder","rule"] (bB (top 17)):=cH (by decide +kernel)
theorem j4f(B:Bt mg)(c29:aw P w K mg base 2 "below" 2 rA)(xW:aw P w K mg base 1 "is_below" 3 mC)(a:At K mg "rises" (top 17) ["ladder","rule"]):aw P w K mg base 3 "rises" 2 (xX):=
 aw.cN a Es λ_ _ _ _ _ _ _ hr=>
  aP (gF QR rfl (fO B.ay (av (d4 B.aE (ql 0 rfl rfl)) ak bO)) (bN (i:=2) (show 0<=2 by decide) Es.nd rfl (Or.inl rfl)) (aQ (gF QR rfl (fH (aZ c29 hr (by decide) (aB 0 rfl rfl (aB 2 rfl rfl ak)))) (bN (i:=3) (show 0<=3 by decide) Es.nd rfl (Or.inl rfl)) (aQ (gh (pF (mh (aZ xW hr (by decide) (aB 0 rfl rfl (av (bu (ql 1 rfl rfl) (aD 3 rfl rfl)) (av (bu (ql 1 rfl rfl) (aD 2 rfl rfl)) ak fR) fR))))) (aQ (bQ kT)) gf)))))
  (aQ (bQ kT))
def L6:aI:=bJ (sN (aK xV 2 (ae (aa 0) (ae (aa 1) ah))) (aK xX 2 (ae (aa 0) (ae (aa 1) ah))))
def xY:=bT 2 (L6)
theorem y0r:ag ["ladder","thing"] ["ladder","thing"] (bB (top 21)):=cH (by decide +kernel)
theorem y1n(B:Bt mg)(c35:aw P w K mg base 4 "is_rule" 2 xV)(c52:aw P w K mg base 3 "rises" 2 xX)(a:At K mg "is_rising_rule" (top 21) ["ladder","thing"]):aw P w K mg base 5 "is_rising_rule" 2 (xY):=
 aw.cN a y0r λ_ _ _ _ _ _ _ hr=>
  aQ (bQ (C7 (aZ c35 hr (by decide) (aB 0 rfl rfl (aB 1 rfl rfl ak))) (C6 (aZ c52 hr (by decide) (aB 0 rfl rfl (aB 1 rfl rfl ak))))))
def L7:aI:=dy (i8 (gT (aK xY 2 (ae (aa 0) (ae (aa 1) ah))))) wL (d5)
def xZ:=bT 2 (L7)
theorem x9d:ag ["ladder","thing"] ["ladder","thing"] (bB (top 22)):=cH (by decide +kernel)
theorem y04(B:Bt mg)(c33:aw P w K mg base 5 "is_rising_rule" 2 xY)(a:At K mg "refuse_unrising" (top 22) ["ladder","thing"]):aw P w K mg base 6 "refuse_unrising" 2 (xZ):=
 aw.cN a x9d λ_ _ _ _ _ _ _ hr=>
  aQ (gh (pF (mh (aZ c33 hr (by decide) (aB 0 rfl rfl (aB 1 rfl rfl ak))))) (aQ De) gf)
abbrev L8:aI:=br 3 (dE (aH 0 (aa 3)) (aH 1 (aa 3)))
def L9:aI:=aJ (br 3 (aa 2))
 (aJ (Ah (i8 (gT (aK mC 3 (ae (aa 0) (ae (aH 1 (aa 3)) (ae (aa 3) ah)))))) L8)
 (bJ (aa 3)))
def vi:=bT 4 (L9)
theorem Et:ag ["ladder","rule","worth","kept"] ["ladder","rule","worth"] (bB (top 24)):=cH (by decide +kernel)
theorem y7z(B:Bt mg)(xW:aw P w K mg base 1 "is_below" 3 mC)(a:At K mg "least_kept" (top 24) ["ladder","rule","worth"]):aw P w K mg base 2 "least_kept" 3 (vi):=
 aw.cN a Et λ_ _ _ _ _ _ _ hr=>
  aP (cb (i:=3) Et.nd rfl (Or.inl rfl) (aD 2 rfl rfl))
  (aP (HB QR (pF (mh (aZ xW hr (by decide) (aB 0 rfl rfl (av (bu (ql 1 rfl rfl) (aD 3 rfl rfl)) (aB 3 rfl rfl ak) fR))))) (aQ (cb (i:=3) Et.nd rfl (Or.inl rfl) (iH (bu (ql 0 rfl rfl) (aD 3 rfl rfl)) (bu (ql 1 rfl rfl) (aD 3 rfl rfl))))))
  (aQ (bQ (aD 3 rfl rfl))))
def L_:aI:=aJ (fy (aK xZ 2 (ae (aa 0) (ae (aa 1) ah))))
 (bJ (gH (ae (dz 1 (cL (ae (cj 0) ah)) (aA 2) di (aK vi 3 (ae (aa 0) (ae (aa 1) (ae (aa 2) ah)))) false) ah)))
def x_:=bT 2 (L_)
theorem x9h:ag ["ladder","rule"] ["ladder","rule"] (bB (top 23)):=cH (by decide +kernel)
abbrev Ma:List Str:=["ladder","rule","x"]
theorem x8j:(Ma).Nodup:=by decide +kernel
theorem y0o(B:Bt mg)(c50:aw P w K mg base 6 "refuse_unrising" 2 xZ)(c42:aw P w K mg base 2 "least_kept" 3 vi)(a:At K mg "again_and_again" (top 23) ["ladder","rule"]):aw P w K mg base 7 "again_and_again" 2 (x_):=
 aw.cN a x9h λ_ _ _ _ _ _ _ hr=>
  aP (j5 (aZ c50 hr (by decide) (av (aX (qv 0)) (av (aX (qv 1)) ak cX) cX)))
  (aQ (bQ (j7 B.aR QH (av (gU (k:=1) (N':=Ma) false rfl ⟨rfl,by decide +kernel,rfl,rfl,rfl⟩ (fO B.ay (av (d4 B.aE (qv 0)) ak bO)) (λ_ _ _ _=>bN (i:=2) (show 2<=2 by decide) x8j rfl (Or.inl rfl) (Or.inr rfl)) (λ_ _ _ _=>jv) (λ_ _ _ _=>aZ c42 hr (by decide) (av (aX (qv 0)) (av (aX (qv 1)) (av (aX (qv 2)) ak cX) cX) cX))) ak nq))))
def Mb:aI:=bJ (G_ (ae (aa 0) ah))
def ya:=bT 1 (Mb)
theorem y34:ag ["many"] ["many"] (bB (top 11)):=cH (by decide +kernel)
theorem y41(B:Bt mg)(a:At K mg "row_of_least" (top 11) ["many"]):aw P w K mg base 1 "row_of_least" 1 (ya):=
 aw.cN a y34 λ_ _ _ _ _ _ _ hr=>
  aQ (bQ (T4 rfl B.aR QH B.ay (aB 0 rfl rfl ak)))
def Mc:aI:=bJ (CW (aa 0) (ae (aK ya 1 (ae (cj 0) ah)) ah))
def oQ:=bT 1 (Mc)
theorem y9p:ag ["ladder"] ["ladder"] (bB (top 12)):=cH (by decide +kernel)
theorem z2f(B:Bt mg)(c53:aw P w K mg base 1 "row_of_least" 1 ya)(a:At K mg "least_of" (top 12) ["ladder"]):aw P w K mg base 2 "least_of" 1 (oQ):=
 aw.cN a y9p λ_ _ _ _ _ _ _ hr=>
  aQ (bQ (UK hr (aD 0 rfl rfl) (av (aZ c53 hr (by decide) (av (d4 B.aE (ql 0 rfl rfl)) ak bO)) ak bO)))
abbrev Md:aI:=dy (ot (bC (e2 dS (aa 4) (aa 2))) (bC (e2 dS (aa 5) (aa 2)))) (br 3 (aK tO 3 (ae (aa 0) (ae (aa 3) (ae (aa 6) ah))))) (d5)
def Me:aI:=aJ (br 3 (aK xU 2 (ae (aa 0) (ae (aK oQ 1 (ae (aa 0) ah)) ah))))
 (aJ (d3 (cz (aH 1 (eC (.int 1)))) (gX (bU (aA 4) (bU (aA 5) (bU (aA 6) gq)))) Md)
 (bJ (aK x_ 2 (ae (aa 0) (ae (aa 3) ah)))))
def yb:=bT 7 (Me)
theorem vj:ag ["ladder","chart","place","joined","start","goal","rule"] ["ladder","chart","place"] (bB (top 29)):=cH (by decide +kernel)
theorem z4k(B:Bt mg)(c54:aw P w K mg base 1 "steady" 2 xU)(yc:aw P w K mg base 2 "least_of" 1 oQ)(Ep:aw P w K mg base 1 "joined_rules" 3 tO)(c26:aw P w K mg base 7 "again_and_again" 2 x_)(a:At K mg "loop_at" (top 29) ["ladder","chart","place"]):aw P w K mg base 8 "loop_at" 3 (yb):=
 aw.cN a vj λ_ _ _ _ _ _ _ hr=>
  aP (cb (i:=3) vj.nd rfl (Or.inl rfl) (aZ c54 hr (by decide) (aB 0 rfl rfl (av (aZ yc hr (by decide) (aB 0 rfl rfl ak)) ak bO))))
  (aP (gF QR rfl (fH (bu (ql 1 rfl rfl) aY)) (oF (n:=3) rfl (gK (bN (i:=4) (show 0<=4 by decide) vj.nd rfl (Or.inl rfl)) (gK (bN (i:=5) (show 0<=5 by decide) vj.nd rfl (Or.inl rfl)) (gK (bN (i:=6) (show 0<=6 by decide) vj.nd rfl (Or.inl rfl)) oE))) Af) (aQ (gh (pZ (CJ (mn hr (aD 4 rfl rfl) (aD 2 rfl rfl)) (CI (mn hr (aD 5 rfl rfl) (aD 2 rfl rfl))))) (aQ (cb (i:=3) vj.nd rfl (Or.inl rfl) (aZ Ep hr (by decide) (aB 0 rfl rfl (aB 3 rfl rfl (aB 6 rfl rfl ak)))))) gf)))
  (aQ (bQ (aZ c26 hr (by decide) (aB 0 rfl rfl (aB 3 rfl rfl ak))))))
def Mf:aI:=bJ (gH (ae (dz 1 (cz (aa 0)) (aA 2) di (aH 1 (aa 2)) false) ah))
def rB:=bT 2 (Mf)
theorem z85:ag ["first","then"] ["first","then"] (bB (top 19)):=cH (by decide +kernel)
abbrev Mg:List Str:=["first","then","worth"]
theorem z5d:(Mg).Nodup:=by decide +kernel
theorem j1k(B:Bt mg)(a:At K mg "after" (top 19) ["first","then"]):aw P w K mg base 1 "after" 2 (rB):=
 aw.cN a z85 λ_ _ _ _ _ _ _ hr=>
  aQ (bQ (j7 B.aR QH (av (gU (k:=1) (N':=Mg) false rfl ⟨rfl,by decide +kernel,rfl,rfl,rfl⟩ (fH (aD 0 rfl rfl)) (λ_ _ _ _=>bN (i:=2) (show 2<=2 by decide) z5d rfl (Or.inl rfl) (Or.inr rfl)) (λ_ _ _ _=>jv) (λ_ _ _ _=>bu (qv 1) (aX (qv 2)))) ak nq)))
abbrev Mh:aI:=aJ (fy (uQ 7 (dz 2 (cz (aa 4)) (gX (bU (aA 11) (bU (aA 12) gq))) di (dF (ae (aa 11) (ae (aa 9) (ae (aK rB 2 (ae (aa 12) (ae (aa 10) ah))) ah)))) false)))
 (fy (uQ 8 (dz 1 (cz (aa 6)) (aA 11) di (dF (ae (aa 9) (ae (aH 10 (aa 11)) ah))) false)))
def Mi:aI:=aJ (fy (aK xS 2 (ae (aH 1 (eC (.int 0))) (ae (aa 2) ah))))
 (aJ (br 3 (aK yb 3 (ae (aa 0) (ae (aa 1) (ae (aa 2) ah)))))
 (aJ (br 4 (dz 3 (cz (aH 1 (eC (.int 1)))) (gX (bU (aA 11) (bU (aA 12) (bU (aA 13) gq)))) (ot (bC (e2 dS (aa 12) (aa 2))) (bC (e2 dk (aa 11) (aa 2)))) (dF (ae (aa 11) (ae (aa 13) ah))) false))
 (aJ (br 5 (dz 3 (cz (aH 1 (eC (.int 1)))) (gX (bU (aA 11) (bU (aA 12) (bU (aA 13) gq)))) (ot (bC (e2 dS (aa 11) (aa 2))) (bC (e2 dk (aa 12) (aa 2)))) (dF (ae (aa 12) (ae (aK rB 2 (ae (aa 3) (ae (aa 13) ah))) ah))) false))
 (aJ (br 6 (sT (dI (ae (aK oQ 1 (ae (aa 0) ah)) ah)) (dz 2 (cz (aH 1 (eC (.int 2)))) (gX (bU (aA 11) (bU (aA 12) gq))) (bC (e2 dS (aa 11) (aa 2))) (aa 12) false)))
 (aJ (br 7 (dz 1 (cz (aH 1 (eC (.int 1)))) (aA 11) (bC (e2 sJ (aa 2) (uP (aa 11) wK (uO (eC (.int 2)))))) (aa 11) false))
 (aJ (br 8 (dz 1 (cz (aH 1 (eC (.int 2)))) (aA 11) (bC (e2 dk (aH 11 (eC (.int 0))) (aa 2))) (aa 11) false))
 (aJ (d3 (cz (aa 5)) (gX (bU (aA 9) (bU (aA 10) gq))) Mh)
 (bJ (dF (ae (aH 1 (eC (.int 0))) (ae (gH (ae (tw (aa 7)) ah)) (ae (gH (ae (tw (aa 8)) ah)) ah))))))))))))
def vm:=bT 11 (Mi)
theorem qc:ag ["ladder","chart","place","loop","coming","going","begun","ways","begins","goal","onward"] ["ladder","chart","place"] (bB (top 28)):=cH (by decide +kernel)
abbrev Eu:List Str:=["ladder","chart","place","loop","coming","going","begun","ways","begins","#9","onward","start","goal","rule"]
theorem vn:(Eu).Nodup:=by decide +kernel
abbrev Mj:List Str:=["ladder","chart","place","loop","coming","going","begun","ways","begins","goal","onward","begin","worth"]
theorem Ml:(Mj).Nodup:=by decide +kernel
abbrev Mm:List Str:=["ladder","chart","place","loop","coming","going","begun","ways","begins","goal","onward","way"]
theorem y0i:(Mm).Nodup:=by decide +kernel
abbrev Mn:List Str:=["ladder","chart","place","loop","coming","going","begun","ways","begins","goal","onward","begin"]
theorem y09:(Mn).Nodup:=by decide +kernel
abbrev Mp:List Str:=["ladder","chart","place","loop","coming","going","begun","ways","begins","goal","onward","start","rule"]
theorem Mq:(Mp).Nodup:=by decide +kernel
abbrev Mr:List Str:=["ladder","chart","place","loop","coming","going","begun","ways","begins","goal","onward","worth"]
theorem y0x:(Mr).Nodup:=by decide +kernel
theorem y2r(B:Bt mg)(c47:aw P w K mg base 3 "refuse_no_place" 2 xS)(c44:aw P w K mg base 8 "loop_at" 3 yb)(Ms:aw P w K mg base 1 "after" 2 rB)(yc:aw P w K mg base 2 "least_of" 1 oQ)(a:At K mg "without_place" (top 28) ["ladder","chart","place"]):aw P w K mg base 9 "without_place" 3 (vm):=
 aw.cN a qc λ_ _ _ _ _ _ _ hr=>
  aP (j5 (aZ c47 hr (by decide) (av (bu (ql 1 rfl rfl) aY) (av (aX (qv 2)) ak cX) fR)))
  (aP (cb (i:=3) qc.nd rfl (Or.inr rfl) (aZ c44 hr (by decide) (aB 0 rfl rfl (aB 1 rfl rfl (av (aX (qv 2)) ak cX)))))
  (aP (sH (i:=4) (k:=3) (N':=Eu) false qc.nd rfl (Or.inl rfl) rfl rfl ⟨rfl,by decide +kernel,rfl,rfl,rfl⟩ (fH (bu (ql 1 rfl rfl) aY)) (λ_ _ _ _=>oF (n:=3) rfl (gK (bN (i:=11) (show 11<=11 by decide) vn rfl (Or.inl rfl) (Or.inr rfl)) (gK (bN (i:=12) (show 11<=12 by decide) vn rfl (Or.inl rfl) (Or.inr rfl)) (gK (bN (i:=13) (show 11<=13 by decide) vn rfl (Or.inl rfl) (Or.inr rfl)) oE))) Af) (λ_ _ _ _=>mj (pZ (CJ (mn hr (aX (qv 12)) (aX (qv 2))) (CI (kA hr (aX (qv 11)) (aX (qv 2))))))) (λ_ _ _ _=>ir (av (aX (qv 11)) (av (aX (qv 13)) ak cX) cX)))
  (aP (sH (i:=5) (k:=3) (N':=Eu) false qc.nd rfl (Or.inl rfl) rfl rfl ⟨rfl,by decide +kernel,rfl,rfl,rfl⟩ (fH (bu (ql 1 rfl rfl) aY)) (λ_ _ _ _=>oF (n:=3) rfl (gK (bN (i:=11) (show 11<=11 by decide) vn rfl (Or.inl rfl) (Or.inr rfl)) (gK (bN (i:=12) (show 11<=12 by decide) vn rfl (Or.inl rfl) (Or.inr rfl)) (gK (bN (i:=13) (show 11<=13 by decide) vn rfl (Or.inl rfl) (Or.inr rfl)) oE))) Af) (λ_ _ _ _=>mj (pZ (CJ (mn hr (aX (qv 11)) (aX (qv 2))) (CI (kA hr (aX (qv 12)) (aX (qv 2))))))) (λ_ _ _ _=>ir (av (aX (qv 12)) (av (aZ Ms hr (by decide) (av (aX (qv 3)) (av (aX (qv 13)) ak cX) cX)) ak bO) cX)))
  (aP (cb (i:=6) qc.nd rfl (Or.inl rfl) (HC (eX (av (aZ yc hr (by decide) (aB 0 rfl rfl ak)) ak bO)) (gU (k:=2) (N':=Mj) false rfl ⟨rfl,by decide +kernel,rfl,rfl,rfl⟩ (fH (bu (ql 1 rfl rfl) aY)) (λ_ _ _ _=>oF (n:=2) rfl (gK (bN (i:=11) (show 11<=11 by decide) Ml rfl (Or.inl rfl) (Or.inr rfl)) (gK (bN (i:=12) (show 11<=12 by decide) Ml rfl (Or.inl rfl) (Or.inr rfl)) oE)) uN) (λ_ _ _ _=>mj (mn hr (aX (qv 11)) (aX (qv 2)))) (λ_ _ _ _=>aX (qv 12)))))
  (aP (sH (i:=7) (k:=1) (N':=Mm) false qc.nd rfl (Or.inl rfl) rfl rfl ⟨rfl,by decide +kernel,rfl,rfl,rfl⟩ (fH (bu (ql 1 rfl rfl) aY)) (λ_ _ _ _=>bN (i:=11) (show 11<=11 by decide) y0i rfl (Or.inl rfl) (Or.inr rfl)) (λ_ _ _ _=>mj (TQ hr (aX (qv 2)) (Dd (aX (qv 11)) C_ (Dc aY)))) (λ_ _ _ _=>aX (qv 11)))
  (aP (sH (i:=8) (k:=1) (N':=Mn) false qc.nd rfl (Or.inl rfl) rfl rfl ⟨rfl,by decide +kernel,rfl,rfl,rfl⟩ (fH (bu (ql 1 rfl rfl) aY)) (λ_ _ _ _=>bN (i:=11) (show 11<=11 by decide) y09 rfl (Or.inl rfl) (Or.inr rfl)) (λ_ _ _ _=>mj (kA hr (bu (qv 11) aY) (aX (qv 2)))) (λ_ _ _ _=>aX (qv 11)))
  (aP (gF QR rfl (fH (aD 5 rfl rfl)) (oF (n:=2) rfl (gK (bN (i:=9) (show 0<=9 by decide) qc.nd rfl (Or.inr rfl)) (gK (bN (i:=10) (show 0<=10 by decide) qc.nd rfl (Or.inr rfl)) oE)) uN) (aP (j5 (Hz (ql 7 rfl rfl) (gU (k:=2) (N':=Mp) false rfl ⟨rfl,by decide +kernel,rfl,rfl,rfl⟩ (fH (aD 4 rfl rfl)) (λ_ _ _ _=>oF (n:=2) rfl (gK (bN (i:=11) (show 11<=11 by decide) Mq rfl (Or.inl rfl) (Or.inr rfl)) (gK (bN (i:=12) (show 11<=12 by decide) Mq rfl (Or.inl rfl) (Or.inr rfl)) oE)) uN) (λ_ _ _ _=>jv) (λ_ _ _ _=>ir (av (aX (qv 11)) (av (aX (qv 9)) (av (aZ Ms hr (by decide) (av (aX (qv 12)) (av (aX (qv 10)) ak cX) cX)) ak bO) cX) cX)))))
  (aQ (j5 (Hz (ql 8 rfl rfl) (gU (k:=1) (N':=Mr) false rfl ⟨rfl,by decide +kernel,rfl,rfl,rfl⟩ (fH (aD 6 rfl rfl)) (λ_ _ _ _=>bN (i:=11) (show 11<=11 by decide) y0x rfl (Or.inl rfl) (Or.inr rfl)) (λ_ _ _ _=>jv) (λ_ _ _ _=>ir (av (aX (qv 9)) (av (bu (qv 10) (aX (qv 11))) ak fR) cX))))))))
  (aQ (bQ (ir (av (bu (ql 1 rfl rfl) aY) (av (j7 B.aR QH (av (Kl rfl hr B.fi B.rq (aD 7 rfl rfl)) ak bO)) (av (j7 B.aR QH (av (Kl rfl hr B.fi B.rq (aD 8 rfl rfl)) ak bO)) ak bO) bO) fR)))))))))))
abbrev Mt:aI:=br 3 (aK p_ 2 (ae (aa 0) (ae (aK vm 3 (ae (aa 0) (ae (aa 3) (ae (aa 4) ah)))) ah)))
def Mu:aI:=aJ (br 3 (aK p_ 2 (ae (aa 0) (ae (aa 1) ah))))
 (aJ (d3 (cz (aa 2)) (aA 4) Mt)
 (bJ (aa 3)))
def rC:=bT 5 (Mu)
theorem AV:ag ["ladder","chart","places","shortened","place"] ["ladder","chart","places"] (bB (top 33)):=cH (by decide +kernel)
theorem y1m(B:Bt mg)(AW:aw P w K mg base 3 "joined_ways" 2 p_)(c56:aw P w K mg base 9 "without_place" 3 vm)(a:At K mg "without_places" (top 33) ["ladder","chart","places"]):aw P w K mg base 10 "without_places" 3 (rC):=
 aw.cN a AV λ_ _ _ _ _ _ _ hr=>
  aP (cb (i:=3) AV.nd rfl (Or.inl rfl) (aZ AW hr (by decide) (aB 0 rfl rfl (aB 1 rfl rfl ak))))
  (aP (gF QR rfl (fH (aD 2 rfl rfl)) (bN (i:=4) (show 0<=4 by decide) AV.nd rfl (Or.inl rfl)) (aQ (cb (i:=3) AV.nd rfl (Or.inl rfl) (aZ AW hr (by decide) (aB 0 rfl rfl (av (aZ c56 hr (by decide) (aB 0 rfl rfl (aB 3 rfl rfl (aB 4 rfl rfl ak)))) ak bO))))))
  (aQ (bQ (aD 3 rfl rfl))))
def Mv:aI:=aJ (dy (lM (i8 (gT (sQ .tuple (aa 0)))) (lM (bC (e2 dk (cj 0) (eC (.int 2)))) (i8 (gT (sQ .str (aH 0 (eC (.int 0)))))))) (bJ (eC (.bl false))) d5)
 (bJ (aK oP 2 (ae (aH 0 (eC (.int 1))) (ae (Dh (aa 1) (aH 0 (eC (.int 0))) (eC (.int 0))) ah))))
def yd:=bT 2 (Mv)
theorem x92:ag ["thing","many_by_name"] ["thing","many_by_name"] (bB (top 9)):=cH (by decide +kernel)
theorem y0p(B:Bt mg)(xT:aw P w K mg base 2 "is_number_of" 2 oP)(a:At K mg "is_named_number" (top 9) ["thing","many_by_name"]):aw P w K mg base 3 "is_named_number" 2 (yd):=
 aw.cN a x92 λ_ _ _ _ _ _ _ hr=>
  aP (gh (pZ (sD (pF (mh (wH .tuple B.bZ B.aR QH (aD 0 rfl rfl)))) (sD (kA hr (d4 B.aE (ql 0 rfl rfl)) aY) (uF (pF (mh (wH .str B.bZ B.xH PyProof.Rows.boot_str (bu (ql 0 rfl rfl) aY)))))))) (aQ (bQ kT)) gf)
  (aQ (bQ (aZ xT hr (by decide) (av (bu (ql 0 rfl rfl) aY) (av (WH hr (aD 1 rfl rfl) (bu (ql 0 rfl rfl) aY) aY) ak bO) fR))))
def Mw:aI:=bJ (aK yd 2 (ae (aa 1) (ae (wM "begin" "way" (qU 0 2) (qU 0 1)) ah)))
def rD:=bT 2 (Mw)
theorem z25:ag ["chart","thing"] ["chart","thing"] (bB (top 38)):=cH (by decide +kernel)
theorem z60(B:Bt mg)(c31:aw P w K mg base 3 "is_named_number" 2 yd)(a:At K mg "is_step" (top 38) ["chart","thing"]):aw P w K mg base 4 "is_step" 2 (rD):=
 aw.cN a z25 λ_ _ _ _ _ _ _ hr=>
  aQ (bQ (aZ c31 hr (by decide) (aB 1 rfl rfl (av (WE (by decide) (HD B.aE (ql 0 rfl rfl)) (HD B.aE (ql 0 rfl rfl))) ak WM))))
def Mx:aI:=dy (i8 (gT (eB qQ (ae (dz 1 (cz (aa 1)) (aA 2) di (aK rD 2 (ae (aa 0) (ae (aa 2) ah))) false) ah)))) wL (d5)
def vo:=bT 2 (Mx)
theorem y0b:ag ["chart","steps"] ["chart","steps"] (bB (top 39)):=cH (by decide +kernel)
abbrev Mz:List Str:=["chart","steps","step"]
theorem x9t:(Mz).Nodup:=by decide +kernel
theorem y1p(B:Bt mg)(c36:aw P w K mg base 4 "is_step" 2 rD)(a:At K mg "refuse_no_step" (top 39) ["chart","steps"]):aw P w K mg base 5 "refuse_no_step" 2 (vo):=
 aw.cN a y0b λ_ _ _ _ _ _ _ hr=>
  aQ (gh (pF (mh (Hs rfl B.rn (av (gU (k:=1) (N':=Mz) false rfl ⟨rfl,by decide +kernel,rfl,rfl,rfl⟩ (fH (aD 1 rfl rfl)) (λ_ _ _ _=>bN (i:=2) (show 2<=2 by decide) x9t rfl (Or.inl rfl) (Or.inr rfl)) (λ_ _ _ _=>jv) (λ_ _ _ _=>aZ c36 hr (by decide) (av (aX (qv 0)) (av (aX (qv 2)) ak cX) cX))) ak nq)))) (aQ De) gf)
def MA:aI:=aJ (dy (bC (e2 dS (aH 2 (eC (.int 0))) (eC (.str "begin")))) (bJ (dE (aH 0 (eC (.int 2))) (aH 2 (eC (.int 1))))) d5)
 (aJ (br 3 (dE (aH 0 (eC (.int 1))) (aH 2 (eC (.int 1)))))
 (bJ (dF (ae (aH 3 (eC (.int 1))) (ae (dE (aH 3 (eC (.int 2))) (aH 1 (aH 3 (eC (.int 0))))) ah)))))
def ye:=bT 4 (MA)
theorem MB:ag ["chart","worths","step","way"] ["chart","worths","step"] (bB (top 40)):=cH (by decide +kernel)
theorem y0k(B:Bt mg)(a:At K mg "place_and_worth" (top 40) ["chart","worths","step"]):aw P w K mg base 1 "place_and_worth" 3 (ye):=
 aw.cN a MB λ_ _ _ _ _ _ _ hr=>
  aP (gh (mn hr (bu (ql 2 rfl rfl) aY) CC) (aQ (bQ (iH (bu (ql 0 rfl rfl) aY) (bu (ql 2 rfl rfl) aY)))) gf)
  (aP (cb (i:=3) MB.nd rfl (Or.inl rfl) (iH (bu (ql 0 rfl rfl) aY) (bu (ql 2 rfl rfl) aY)))
  (aQ (bQ (ir (av (bu (ql 3 rfl rfl) aY) (av (iH (bu (ql 3 rfl rfl) aY) (bu (ql 1 rfl rfl) (bu (ql 3 rfl rfl) aY))) ak fR) fR)))))
def MC:aI:=aJ (br 4 (aK ye 3 (ae (aa 1) (ae (aa 2) (ae (aa 3) ah)))))
 (aJ (br 5 (aH 4 (eC (.int 0))))
 (aJ (br 6 (dE (aH 0 (aH 2 (aa 5))) (aH 4 (eC (.int 1)))))
 (bJ (Ab (Ab (uP (aa 2) wK (uO (aa 5))) (dF (ae (aa 6) ah))) (uP (aa 2) (uO (e2 cU (aa 5) (eC (.int 1)))) wK)))))
def yf:=bT 7 (MC)
theorem AX:ag ["ladder","chart","worths","step","coming","place","joined"] ["ladder","chart","worths","step"] (bB (top 41)):=cH (by decide +kernel)
theorem y2j(B:Bt mg)(c46:aw P w K mg base 1 "place_and_worth" 3 ye)(a:At K mg "worths_behind" (top 41) ["ladder","chart","worths","step"]):aw P w K mg base 2 "worths_behind" 4 (yf):=
 aw.cN a AX λ_ _ _ _ _ _ _ hr=>
  aP (cb (i:=4) AX.nd rfl (Or.inl rfl) (aZ c46 hr (by decide) (aB 1 rfl rfl (aB 2 rfl rfl (aB 3 rfl rfl ak)))))
  (aP (cb (i:=5) AX.nd rfl (Or.inl rfl) (bu (ql 4 rfl rfl) aY))
  (aP (cb (i:=6) AX.nd rfl (Or.inl rfl) (iH (bu (ql 0 rfl rfl) (bu (ql 2 rfl rfl) (aD 5 rfl rfl))) (bu (ql 4 rfl rfl) aY)))
  (aQ (bQ (Hx (Hx (Dd (aD 2 rfl rfl) C_ (Dc (aD 5 rfl rfl))) (ir (aB 6 rfl rfl ak))) (Dd (aD 2 rfl rfl) (Dc (dZ (aD 5 rfl rfl) aY)) C_))))))
abbrev Ew:aI:=aJ (br 7 (aK yf 4 (ae (aa 0) (ae (aa 1) (ae (aa 3) (ae (aa 6) ah))))))
 (aJ (dy (bC (e2 dk (aa 7) (aa 3))) (fy (jI 4 (ae (aa 6) ah))) d5)
 (br 3 (aa 7)))
abbrev Ex:aI:=aJ (br 5 (aa 3))
 (d3 (cz (aa 2)) (aA 6) Ew)
def MD:aI:=aJ (br 4 (dI ah))
 (aJ (br 5 (eC .bK))
 (aJ (Ah (bC (e2 dk (aa 3) (aa 5))) Ex)
 (bJ (dF (ae (aa 3) (ae (aa 4) ah))))))
def yg:=bT 8 (MD)
theorem tR:ag ["ladder","chart","order","worths","raising","ahead","step","behind"] ["ladder","chart","order","worths"] (bB (top 42)):=cH (by decide +kernel)
theorem j4e(B:Bt mg)(c58:aw P w K mg base 2 "worths_behind" 4 yf)(a:At K mg "risen" (top 42) ["ladder","chart","order","worths"]):aw P w K mg base 3 "risen" 4 (yg):=
 aw.cN a tR λ_ _ _ _ _ _ _ hr=>
  aP (cb (i:=4) tR.nd rfl (Or.inl rfl) (eX ak))
  (aP (cb (i:=5) tR.nd rfl (Or.inl rfl) S0)
  (aP (HB QR (kA hr (aD 3 rfl rfl) (aD 5 rfl rfl)) (aP (cb (i:=5) tR.nd rfl (Or.inl rfl) (aD 3 rfl rfl))
  (aQ (gF QR rfl (fH (aD 2 rfl rfl)) (bN (i:=6) (show 0<=6 by decide) tR.nd rfl (Or.inl rfl)) (aP (cb (i:=7) tR.nd rfl (Or.inl rfl) (aZ c58 hr (by decide) (aB 0 rfl rfl (aB 1 rfl rfl (aB 3 rfl rfl (aB 6 rfl rfl ak))))))
  (aP (gh (kA hr (aD 7 rfl rfl) (aD 3 rfl rfl)) (aQ (j5 (nj (ql 4 rfl rfl) (aB 6 rfl rfl ak)))) gf)
  (aQ (cb (i:=3) tR.nd rfl (Or.inl rfl) (aD 7 rfl rfl)))))))))
  (aQ (bQ (ir (aB 3 rfl rfl (aB 4 rfl rfl ak)))))))
def ME:aI:=bJ (gH (ae (pM (dI (ae (aK oQ 1 (ae (aa 0) ah)) ah)) (aH 1 (eC (.int 0)))) ah))
def yh:=bT 2 (ME)
theorem z3t:ag ["ladder","chart"] ["ladder","chart"] (bB (top 35)):=cH (by decide +kernel)
theorem z8o(B:Bt mg)(yc:aw P w K mg base 2 "least_of" 1 oQ)(a:At K mg "lowest" (top 35) ["ladder","chart"]):aw P w K mg base 3 "lowest" 2 (yh):=
 aw.cN a z3t λ_ _ _ _ _ _ _ hr=>
  aQ (bQ (j7 B.aR QH (av (CZ (eX (av (aZ yc hr (by decide) (aB 0 rfl rfl ak)) ak bO)) (bu (ql 1 rfl rfl) aY)) ak gp)))
def MF:aI:=aJ (fy (aK vo 2 (ae (aa 1) (ae (aa 2) ah))))
 (aJ (br 3 (aK yg 4 (ae (aa 0) (ae (aa 1) (ae (aa 2) (ae (aK yh 2 (ae (aa 0) (ae (aa 1) ah))) ah))))))
 (bJ (dF (ae (aH 3 (eC (.int 0))) (ae (eB mq (ae (aH 3 (eC (.int 1))) ah)) ah)))))
def yi:=bT 4 (MF)
theorem MG:ag ["ladder","chart","order","ended"] ["ladder","chart","order"] (bB (top 43)):=cH (by decide +kernel)
theorem z3a(B:Bt mg)(c48:aw P w K mg base 5 "refuse_no_step" 2 vo)(c51:aw P w K mg base 3 "risen" 4 yg)(c45:aw P w K mg base 3 "lowest" 2 yh)(a:At K mg "least_by" (top 43) ["ladder","chart","order"]):aw P w K mg base 6 "least_by" 3 (yi):=
 aw.cN a MG λ_ _ _ _ _ _ _ hr=>
  aP (j5 (aZ c48 hr (by decide) (aB 1 rfl rfl (aB 2 rfl rfl ak))))
  (aP (cb (i:=3) MG.nd rfl (Or.inl rfl) (aZ c51 hr (by decide) (aB 0 rfl rfl (aB 1 rfl rfl (aB 2 rfl rfl (av (aZ c45 hr (by decide) (aB 0 rfl rfl (aB 1 rfl rfl ak))) ak bO))))))
  (aQ (bQ (ir (av (bu (ql 3 rfl rfl) aY) (av (wz B.aE (av (bu (ql 3 rfl rfl) aY) ak fR)) ak bO) fR)))))
def MH:aI:=aJ (br 1 (dz 1 (cL (ae (eB mq (ae (aH 0 (eC (.int 2))) ah)) ah)) (aA 2) di (dF (ae (eC (.str "begin")) (ae (aa 2) ah))) false))
 (bJ (sT (aa 1) (dz 1 (cL (ae (eB mq (ae (aH 0 (eC (.int 1))) ah)) ah)) (aA 2) di (dF (ae (eC (.str "way")) (ae (aa 2) ah))) false)))
def yj:=bT 2 (MH)
theorem MI:ag ["chart","begins"] ["chart"] (bB (top 37)):=cH (by decide +kernel)
abbrev Ey:List Str:=["chart","begins","number"]
theorem MJ:(Ey).Nodup:=by decide +kernel
theorem y9f(B:Bt mg)(a:At K mg "all_steps" (top 37) ["chart"]):aw P w K mg base 1 "all_steps" 1 (yj):=
 aw.cN a MI λ_ _ _ _ _ _ _ hr=>
  aP (sH (i:=1) (k:=1) (N':=Ey) false MI.nd rfl (Or.inl rfl) rfl rfl ⟨rfl,by decide +kernel,rfl,rfl,rfl⟩ (fO B.ay (av (wz B.aE (av (bu (ql 0 rfl rfl) aY) ak fR)) ak bO)) (λ_ _ _ _=>bN (i:=2) (show 2<=2 by decide) MJ rfl (Or.inl rfl) (Or.inr rfl)) (λ_ _ _ _=>jv) (λ_ _ _ _=>ir (av CC (av (aX (qv 2)) ak cX) zV)))
  (aQ (bQ (HC (aD 1 rfl rfl) (gU (k:=1) (N':=Ey) false rfl ⟨rfl,by decide +kernel,rfl,rfl,rfl⟩ (fO B.ay (av (wz B.aE (av (bu (ql 0 rfl rfl) aY) ak fR)) ak bO)) (λ_ _ _ _=>bN (i:=2) (show 2<=2 by decide) MJ rfl (Or.inl rfl) (Or.inr rfl)) (λ_ _ _ _=>jv) (λ_ _ _ _=>ir (av CC (av (aX (qv 2)) ak cX) zV))))))
def ML:aI:=bJ (dE (aK yi 3 (ae (aa 0) (ae (aa 1) (ae (aK yj 1 (ae (aa 1) ah)) ah)))) (eC (.int 0)))
def tS:=bT 2 (ML)
theorem z8k:ag ["ladder","chart"] ["ladder","chart"] (bB (top 36)):=cH (by decide +kernel)
theorem j15(B:Bt mg)(c41:aw P w K mg base 6 "least_by" 3 yi)(c27:aw P w K mg base 1 "all_steps" 1 yj)(a:At K mg "least" (top 36) ["ladder","chart"]):aw P w K mg base 7 "least" 2 (tS):=
 aw.cN a z8k λ_ _ _ _ _ _ _ hr=>
  aQ (bQ (iH (aZ c41 hr (by decide) (aB 0 rfl rfl (aB 1 rfl rfl (av (aZ c27 hr (by decide) (aB 1 rfl rfl ak)) ak bO)))) aY))
abbrev AY:aI:=aJ (dy (bC (e2 dk (dz 1 (cz (aH 9 (eC (.int 1)))) (aA 13) (lM (bC (e2 ml (aH 13 (eC (.int 0))) (aa 4))) (bC (e2 ml (aH 13 (eC (.int 1))) (aa 4)))) (aa 13) false) (dI ah))) (bJ (eC (.bl false))) d5)
 (aJ (dy (lM (bC (e2 dk (dz 1 (cz (aH 9 (eC (.int 2)))) (aA 13) (bC (e2 ml (aH 13 (eC (.int 0))) (aa 4))) (aa 13) false) (dI ah))) (bC (e2 dk (aH 9 (eC (.int 0))) (aH 2 (eC (.int 0)))))) (bJ (eC (.bl false))) d5)
 (aJ (br 10 (aK tS 2 (ae (aa 1) (ae (aa 9) ah))))
 (dy (bC (e2 dk (dz 1 (cz (aa 3)) (aA 13) (bC (e2 dk (aH 10 (aa 13)) (aH 8 (aa 13)))) (aa 13) false) (dI ah))) (bJ (eC (.bl false))) d5)))
abbrev Ez:aI:=fy (jI 4 (ae (qO 3 (ae (aK dP 3 (ae (aa 0) (ae (e2 cU (eC (.int 201)) (aa 5)) (ae (cj 3) ah)))) ah)) ah))
def MM:aI:=aJ (br 1 (aK vc 2 (ae (aa 0) (ae (eC (.int 0)) ah))))
 (aJ (br 2 (aK vh 4 (ae (aa 0) (ae (eC (.int 20)) (ae (aa 1) (ae (eC (.bl true)) ah))))))
 (aJ (br 3 (oA (ae (aH 2 (eC (.int 0))) ah)))
 (aJ (br 4 (dI ah))
 (aJ (d3 (cL (ae (aK dP 3 (ae (aa 0) (ae (eC (.int 200)) (ae (aH 2 (eC (.int 0))) ah)))) ah)) (aA 5) Ez)
 (aJ (br 6 (aK rC 3 (ae (aa 1) (ae (aa 2) (ae (aa 4) ah)))))
 (aJ (br 7 (aK rC 3 (ae (aa 1) (ae (aa 2) (ae (C0 (aa 4)) ah)))))
 (aJ (br 8 (aK tS 2 (ae (aa 1) (ae (aa 2) ah))))
 (aJ (d3 (cz (dF (ae (aa 6) (ae (aa 7) ah)))) (aA 9) AY)
 (aJ (dy (bC (e2 dk (aK rC 3 (ae (aa 1) (ae (aa 2) (ae (dI ah) ah)))) (aK p_ 2 (ae (aa 1) (ae (aa 2) ah))))) (bJ (eC (.bl false))) d5)
 (aJ (br 11 (aH 3 (aK dP 3 (ae (aa 0) (ae (eC (.int 210)) (ae (cj 3) ah))))))
 (aJ (br 12 (aK rC 3 (ae (aa 1) (ae (aa 2) (ae (dz 1 (cL (ae (aH 2 (eC (.int 0))) ah)) (aA 13) (bC (e2 dk (aa 13) (aa 11))) (aa 13) false) ah)))))
 (aJ (dy (lM (bC (e2 sC (eB mq (ae (aH 12 (eC (.int 1))) ah)) (eC (.int 1)))) (bC (e2 sC (eB mq (ae (aH 12 (eC (.int 2))) ah)) (eC (.int 1))))) (bJ (eC (.bl false))) d5)
 (bJ (e2 dS (dE (aK tS 2 (ae (aa 1) (ae (aa 12) ah))) (aa 11)) (aH 8 (aa 11))))))))))))))))
def tT:=bT 13 (MM)
theorem lY:ag ["_law_script","_law_ladder_here","_law_chart_here","_law_left","_law_order","_law_k","_law_one","_law_other","_law_whole","_law_told","_law_answer","_law_place","_law_alone"] ["_law_script"] (bB (top 59)):=cH (by decide +kernel)
abbrev MN:List Str:=["_law_script","_law_ladder_here","_law_chart_here","_law_left","_law_order","_law_k","_law_one","_law_other","_law_whole","_law_told","_law_answer","_law_place","_law_alone","_law_way"]
theorem y5s:(MN).Nodup:=by decide +kernel
abbrev MO:List Str:=["_law_script","_law_ladder_here","_law_chart_here","_law_left","_law_order","_law_k","_law_one","_law_other","_law_whole","_law_told","_law_answer","_law_place","_law_alone","_law_begin"]
theorem y5u:(MO).Nodup:=by decide +kernel
abbrev MP:List Str:=["_law_script","_law_ladder_here","_law_chart_here","_law_left","_law_order","_law_k","_law_one","_law_other","_law_whole","_law_told","_law_answer","#11","_law_alone","_law_place"]
theorem y65:(MP).Nodup:=by decide +kernel
abbrev MQ:List Str:=["_law_script","_law_ladder_here","_law_chart_here","_law_left","_law_order","#5","_law_one","_law_other","_law_whole","_law_told","_law_answer","_law_place","_law_alone","_law_k"]
theorem y6e:(MQ).Nodup:=by decide +kernel
theorem y9o(B:Bt mg)(c16:aw P w K mg base 4 "_law_ladder" 2 vc)(c13:aw P w K mg base 5 "_law_chart" 4 vh)(gM:aw P w K mg base 2 "_law_pick" 3 dP)(AZ:aw P w K mg base 10 "without_places" 3 rC)(EA:aw P w K mg base 7 "least" 2 tS)(AW:aw P w K mg base 3 "joined_ways" 2 p_)(a:At K mg "_law_once" (top 59) ["_law_script"]):aw P w K mg base 11 "_law_once" 1 (tT):=
 aw.cN a lY λ_ _ _ _ _ _ _ hr=>
  aP (cb (i:=1) lY.nd rfl (Or.inl rfl) (aZ c16 hr (by decide) (aB 0 rfl rfl (cP ak))))
  (aP (cb (i:=2) lY.nd rfl (Or.inl rfl) (aZ c13 hr (by decide) (aB 0 rfl rfl (cP (aB 1 rfl rfl (av kT ak zV))))))
  (aP (cb (i:=3) lY.nd rfl (Or.inl rfl) (zT rfl B.hZ Jj B.ay (av (bu (ql 2 rfl rfl) aY) ak fR)))
  (aP (cb (i:=4) lY.nd rfl (Or.inr rfl) (eX ak))
  (aP (gF QR rfl (fO B.ay (av (aZ gM hr (by decide) (aB 0 rfl rfl (cP (av (bu (ql 2 rfl rfl) aY) ak fR)))) ak bO)) (bN (i:=5) (show 0<=5 by decide) lY.nd rfl (Or.inl rfl)) (aQ (j5 (nj (qv 4) (av (Hc (ql 3 rfl rfl) (av (aZ gM hr (by decide) (aB 0 rfl rfl (av (dZ aY (aD 5 rfl rfl)) (av (d4 B.aE (ql 3 rfl rfl)) ak bO) gp))) ak bO)) ak bO)))))
  (aP (cb (i:=6) lY.nd rfl (Or.inl rfl) (aZ AZ hr (by decide) (aB 1 rfl rfl (aB 2 rfl rfl (av (aX (qv 4)) ak cX)))))
  (aP (cb (i:=7) lY.nd rfl (Or.inl rfl) (aZ AZ hr (by decide) (aB 1 rfl rfl (aB 2 rfl rfl (av (UQ (aX (qv 4))) ak fR)))))
  (aP (cb (i:=8) lY.nd rfl (Or.inr rfl) (aZ EA hr (by decide) (aB 1 rfl rfl (aB 2 rfl rfl ak))))
  (aP (gF QR rfl (fH (ir (aB 6 rfl rfl (aB 7 rfl rfl ak)))) (bN (i:=9) (show 0<=9 by decide) lY.nd rfl (Or.inl rfl)) (aP (gh (kA hr (gU (k:=1) (N':=MN) false rfl ⟨rfl,by decide +kernel,rfl,rfl,rfl⟩ (fH (bu (ql 9 rfl rfl) aY)) (λ_ _ _ _=>bN (i:=13) (show 13<=13 by decide) y5s rfl (Or.inl rfl) (Or.inr rfl)) (λ_ _ _ _=>mj (pZ (sD (zR hr (bu (qv 13) aY) (aX (qv 4))) (uF (zR hr (bu (qv 13) aY) (aX (qv 4))))))) (λ_ _ _ _=>aX (qv 13))) (eX ak)) (aQ (bQ kT)) gf)
  (aP (gh (pZ (sD (kA hr (gU (k:=1) (N':=MO) false rfl ⟨rfl,by decide +kernel,rfl,rfl,rfl⟩ (fH (bu (ql 9 rfl rfl) aY)) (λ_ _ _ _=>bN (i:=13) (show 13<=13 by decide) y5u rfl (Or.inl rfl) (Or.inr rfl)) (λ_ _ _ _=>mj (zR hr (bu (qv 13) aY) (aX (qv 4)))) (λ_ _ _ _=>aX (qv 13))) (eX ak)) (uF (kA hr (bu (ql 9 rfl rfl) aY) (bu (ql 2 rfl rfl) aY))))) (aQ (bQ kT)) gf)
  (aP (cb (i:=10) lY.nd rfl (Or.inr rfl) (aZ EA hr (by decide) (aB 1 rfl rfl (aB 9 rfl rfl ak))))
  (aQ (gh (kA hr (gU (k:=1) (N':=MP) false rfl ⟨rfl,by decide +kernel,rfl,rfl,rfl⟩ (fH (aD 3 rfl rfl)) (λ_ _ _ _=>bN (i:=13) (show 13<=13 by decide) y65 rfl (Or.inl rfl) (Or.inr rfl)) (λ_ _ _ _=>mj (kA hr (bu (qv 10) (aX (qv 13))) (bu (qv 8) (aX (qv 13))))) (λ_ _ _ _=>aX (qv 13))) (eX ak)) (aQ (bQ kT)) gf))))))
  (aP (gh (kA hr (aZ AZ hr (by decide) (aB 1 rfl rfl (aB 2 rfl rfl (av (eX ak) ak uM)))) (aZ AW hr (by decide) (aB 1 rfl rfl (aB 2 rfl rfl ak)))) (aQ (bQ kT)) gf)
  (aP (cb (i:=11) lY.nd rfl (Or.inr rfl) (bu (ql 3 rfl rfl) (aZ gM hr (by decide) (aB 0 rfl rfl (cP (av (d4 B.aE (ql 3 rfl rfl)) ak bO))))))
  (aP (cb (i:=12) lY.nd rfl (Or.inl rfl) (aZ AZ hr (by decide) (aB 1 rfl rfl (aB 2 rfl rfl (av (gU (k:=1) (N':=MQ) false rfl ⟨rfl,by decide +kernel,rfl,rfl,rfl⟩ (fO B.ay (av (bu (ql 2 rfl rfl) aY) ak fR)) (λ_ _ _ _=>bN (i:=13) (show 13<=13 by decide) y6e rfl (Or.inl rfl) (Or.inr rfl)) (λ_ _ _ _=>mj (kA hr (aX (qv 13)) (aX (qv 11)))) (λ_ _ _ _=>aX (qv 13))) ak nq)))))
  (aP (gh (pZ (sD (GJ (wz B.aE (av (bu (ql 12 rfl rfl) aY) ak fR)) aY) (uF (GJ (wz B.aE (av (bu (ql 12 rfl rfl) aY) ak fR)) aY)))) (aQ (bQ kT)) gf)
  (aQ (bQ (G2 hr (iH (aZ EA hr (by decide) (aB 1 rfl rfl (aB 12 rfl rfl ak))) (aX (qv 11))) (bu (qv 8) (aX (qv 11))))))))))))))))))
abbrev yk:aI:=aJ (dy (i8 (gT (aK tT 1 (ae (dz 1 (cz (aa 0)) (aA 2) di (e2 cU (aa 2) (e2 ky (eC (.int 7919)) (aa 1))) false) ah)))) (bJ (eC (.bl false))) d5)
 (dy (bC (e2 dS (aa 0) (dI ah))) GK d5)
def MR:aI:=aJ (d3 (cL (ae (eC (.int 4)) ah)) (aA 1) yk)
 (bJ (eC (.bl true)))
def vp:=bT 2 (MR)
theorem MS:ag ["_law_script","_law_turn"] ["_law_script"] (bB (top 60)):=cH (by decide +kernel)
abbrev MT:List Str:=["_law_script","_law_turn","_law_cell_here"]
theorem j4t:(MT).Nodup:=by decide +kernel
theorem j4q(B:Bt mg)(c18:aw P w K mg base 11 "_law_once" 1 tT){f:Addr}{fd:FuncData}(F:mV K "law" "law" (top 60) f fd):eU P w K mg base jZ 12 f fd ["_law_script"] (lL K 1 vp):=
 j1x (k:=11) F MS λ_ _ _ _ _ _ _ hr=>
  aP (gF QR rfl (fO B.ay (cP ak)) (bN (i:=1) (show 0<=1 by decide) MS.nd rfl (Or.inr rfl)) (aP (gh (pF (mh (aZ c18 hr (by decide) (av (gU (k:=1) (N':=MT) false rfl ⟨rfl,by decide +kernel,rfl,rfl,rfl⟩ (fH (aD 0 rfl rfl)) (λ_ _ _ _=>bN (i:=2) (show 2<=2 by decide) j4t rfl (Or.inl rfl) (Or.inr rfl)) (λ_ _ _ _=>jv) (λ_ _ _ _=>dZ (aX (qv 2)) (mZ aY (aX (qv 1))))) ak nq)))) (aQ (bQ kT)) gf)
  (aQ (gh (mn hr (aD 0 rfl rfl) (eX ak)) (aQ Td) gf))))
  (aQ (bQ kT))
end
abbrev bX (ns:List Int):D:=.lst (ns.map D.int)
abbrev n0 (l:List Int):OD:=some (bX l,0)
def A_ (ns:List Int)(k:Int):Int:=if k<ns.length then ns.getD k.toNat 0 else if ns=[]then 0 else ns.getD (k % ns.length).toNat 0*31+k
theorem MU{k:Int}(h0:0<=k)(h:k<ns.length):L2.eR (ns.map D.int) k=some (.int (ns.getD k.toNat 0)):=by
 obtain⟨m,rfl⟩:∃ m:Nat,k=Int.ofNat m:=⟨k.toNat,by show k=(k.toNat:Int);omega⟩;have hk:m<ns.length:=by have:(m:Int)<ns.length:=h;omega
 apply xy;rw[Qm,Qb hk];simp[hk]
theorem j5y(ns:List Int):Sh 1 (bX ns):=.lst λd m=>by obtain⟨x,_,rfl⟩:=Qk.mp m;exact .int _
theorem EB(ns:List Int):dS (bX ns) (.lst [])=some (.bl (decide (ns=[]))):=by unfold dS;rw[Qi ⟨(j5y ns).ok,(u7 []).ok⟩];cases ns<;>rfl
theorem j2v(ns:List Int)(k:Int)(h0:0<=k):xJ [bX ns,.int k]=some (.int (A_ ns k),9):=by
 unfold xJ Li A_;by_cases h:k<ns.length
 ·simp[h,MU h0 h,gm,da]
 ·by_cases hn:ns=[]
  ·subst hn;have h':¬ k<0:=by omega
   simp[h',gm,EB]
  ·have hp:(0:Int)<ns.length:=by have:=YZ.mpr hn;omega
   have h1:=V8 k (Int.ne_of_gt hp);have h2:=Vl k hp;have h3:=MU h1 h2;have mf:=YZ.mpr hn;simp[h,gm,da,EB,hn,mf,h3]
def rE (ns:List Int)(k:Int):Int:=(A_ ns k+6151*(k+1))*40692 % 2147483399
def oR (ns:List Int)(k m:Int):Int:=(rE ns k*rE ns k+rE ns k / 31) % 2147483629 % m
theorem yl(ns:List Int)(k m:Int)(h0:0<=k)(hm:0<m):dP [bX ns,.int k,.int m]=some (.int (oR ns k m),9):=by
 have d0:0<=rE ns k:=V8 _ (by decide);have d1:rE ns k<2147483399:=Vl _ (by decide);have g1:-18446744073709551616<rE ns k:=by omega
 have g2:rE ns k<18446744073709551616:=by omega
 have hd:(A_ ns k+6151*(k+1))*40692 % 2147483399=rE ns k:=rfl;unfold dP Lj oR;simp[j2v ns k h0,hm,hd,g1,g2]
theorem vq(ns:List Int)(k:Int){m:Int}(hm:0<m):0<=oR ns k m:=V8 _ (Int.ne_of_gt hm)
theorem ym(ns:List Int)(k:Int){m:Int}(hm:0<m):oR ns k m<m:=Vl _ hm
def tf (rows:List (List Nat))(i j:Nat):Nat:=(rows.getD i []).getD j 0
def eS (rows:List (List Nat)):D:=cf rows.length (tf rows)
def ch (n:Nat):List (List Nat):=(range n).map λi=>(range n).map λj=>max i j
def cp (a b:List (List Nat)):List (List Nat):=(range (a.length*b.length)).map λi=>(range (a.length*b.length)).map λj=>tf a (i / b.length) (j / b.length)*b.length+tf b (i % b.length) (j % b.length)
def sb (n:Nat):List (List Nat):=(range (n+2)).map λi=>(range (n+2)).map λj=>if i=0\/j=0\/i=j then max i j else n+1
def n5:List (List Nat):=[[0,1,2,3,4],[1,1,2,4,4],[2,2,2,4,4],[3,4,4,3,4],[4,4,4,4,4]]
def qd:List (List (List Nat)):=[ch 1,ch 2,ch 3,ch 4,ch 5,cp (ch 2) (ch 2),cp (ch 2) (ch 3),cp (ch 2) (ch 4),sb 0,sb 1,sb 2,sb 3,sb 4,cp (ch 2) (cp (ch 2) (ch 2)),n5]
theorem ch1:kG [.int 1]=some (eS (ch 1),1):=by rfl
theorem vt:kG [.int 2]=some (eS (ch 2),1):=by rfl
theorem MV:kG [.int 3]=some (eS (ch 3),1):=by rfl
theorem MW:kG [.int 4]=some (eS (ch 4),1):=by rfl
theorem ch5:kG [.int 5]=some (eS (ch 5),1):=by rfl
theorem sb0:p9 [.int 0]=some (eS (sb 0),0):=by rfl
theorem sb1:p9 [.int 1]=some (eS (sb 1),0):=by rfl
theorem sb2:p9 [.int 2]=some (eS (sb 2),0):=by rfl
theorem sb3:p9 [.int 3]=some (eS (sb 3),0):=by rfl
theorem sb4:p9 [.int 4]=some (eS (sb 4),0):=by rfl
theorem MX:oN [eS (ch 2),eS (ch 2)]=some (eS (cp (ch 2) (ch 2)),0):=by rfl
theorem k1r:oN [eS (ch 2),eS (ch 3)]=some (eS (cp (ch 2) (ch 3)),0):=by rfl
theorem k1k:oN [eS (ch 2),eS (ch 4)]=some (eS (cp (ch 2) (ch 4)),0):=by rfl
theorem j9w:oN [eS (ch 2),eS (cp (ch 2) (ch 2))]=some (eS (cp (ch 2) (cp (ch 2) (ch 2))),0):=by rfl
theorem j2a(ns:List Int)(t:Int)(h0:0<=t):∃ rows∈qd,∃ q,xM [bX ns,.int t]=some (eS rows,q):=by
 have k0:=vq ns t (m:=9) (by decide);have k1:=ym ns t (m:=9) (by decide);have p0:=vq ns (t+1) (m:=5) (by decide);have p1:=ym ns (t+1) (m:=5) (by decide);have r0:=vq ns (t+1) (m:=3) (by decide);have r1:=ym ns (t+1) (m:=3) (by decide);have e9:=yl ns t 9 h0 (by decide);have e5:=yl ns (t+1) 5 (by omega) (by decide);have e3:=yl ns (t+1) 3 (by omega) (by decide);have mem:∀ i:Nat,i<15->qd.getD i []∈qd:=λi hi=>by rw[Qg,Qb (show i<qd.length from hi)];exact QW _
 have hc:∀ p:Int,0<=p->p<5->∃ rows∈qd,kG [.int (1+p)]=some (eS rows,1):=λp a b=>by
  have:p=0\/p=1\/p=2\/p=3\/p=4:=by omega
  rcases this with rfl|rfl|rfl|rfl|rfl
  ·exact⟨_,mem 0 (by decide),ch1⟩
  ·exact⟨_,mem 1 (by decide),vt⟩
  ·exact⟨_,mem 2 (by decide),MV⟩
  ·exact⟨_,mem 3 (by decide),MW⟩
  ·exact⟨_,mem 4 (by decide),ch5⟩
 have hs:∀ p:Int,0<=p->p<5->∃ rows∈qd,p9 [.int p]=some (eS rows,0):=λp a b=>by
  have:p=0\/p=1\/p=2\/p=3\/p=4:=by omega
  rcases this with rfl|rfl|rfl|rfl|rfl
  ·exact⟨_,mem 8 (by decide),sb0⟩
  ·exact⟨_,mem 9 (by decide),sb1⟩
  ·exact⟨_,mem 10 (by decide),sb2⟩
  ·exact⟨_,mem 11 (by decide),sb3⟩
  ·exact⟨_,mem 12 (by decide),sb4⟩
 have hp:∀ r:Int,0<=r->r<3->∃ x nT rows,da (.lst [.int 2,.int 3,.int 4]) r=some (.int x)/\kG [.int x]=some (eS nT,1)/\rows∈qd/\oN [eS (ch 2),eS nT]=some (eS rows,0):=λr a b=>by
  have:r=0\/r=1\/r=2:=by omega
  rcases this with rfl|rfl|rfl
  ·exact⟨2,_,_,rfl,vt,mem 5 (by decide),MX⟩
  ·exact⟨3,_,_,rfl,MV,mem 6 (by decide),k1r⟩
  ·exact⟨4,_,_,rfl,MW,mem 7 (by decide),k1k⟩
 unfold xM Ln;generalize oR ns t 9=k at *
 generalize oR ns (t+1) 5=p at *
 generalize oR ns (t+1) 3=r at *
 have lt:∀ c:Int,bC (e2 m8 (aa 2) (eC (.int c))) [n0 ns,some (.int t,9),some (.int k,9),none]=some (decide (k<c),[n0 ns,some (.int t,9),some (.int k,9),none]):=λc=>fg (dN (q:=9) (q':=9) rfl rfl rfl);have f:∀ {c:Int} {x:aI},¬ k<c->dy (bC (e2 m8 (aa 2) (eC (.int c)))) x d5 [n0 ns,some (.int t,9),some (.int k,9),none]=some (.nx [n0 ns,some (.int t,9),some (.int k,9),none]):=λ{c x} h=>(lS ((lt c).trans (by rw[Qy h]))).trans rfl;have s2:∀ {k:Int},dP [bX ns,.int t,.int 9]=some (.int k,9)->br 2 (aK dP 3 (ae (aa 0) (ae (aa 1) (ae (eC (.int 9)) ah)))) [n0 ns,some (.int t,9),none,none]=some (.nx [n0 ns,some (.int t,9),some (.int k,9),none]):=λe=>dM (bq (ds:=[bX ns,.int t,.int 9]) rfl rfl e) rfl;have tt:∀ {c:Int},k<c->bC (e2 m8 (aa 2) (eC (.int c))) [n0 ns,some (.int t,9),some (.int k,9),none]=some (true,[n0 ns,some (.int t,9),some (.int k,9),none]):=λ{c} h=>(lt c).trans (by rw[Qr h]);by_cases h3:k<3
 ·obtain⟨rows,hm,e⟩:=hc p p0 p1;exact⟨rows,hm,1,dG ((aU (s2 e9)).trans (p7 ((rh (tt h3)).trans (fC (bq (ds:=[.int (1+p)]) (bV (dN (q:=9) rfl (bq (ds:=[bX ns,.int (t+1),.int 5]) rfl rfl e5) rfl)) rfl e)))))⟩
 by_cases h5:k<5
 ·obtain⟨x,nT,rows,ea,e1,hm,pP⟩:=hp r r0 r1;have ei:dE (dI (ae (eC (.int 2)) (ae (eC (.int 3)) (ae (eC (.int 4)) ah)))) (aK dP 3 (ae (aa 0) (ae (e2 cU (aa 1) (eC (.int 1))) (ae (eC (.int 3)) ah)))) [n0 ns,some (.int t,9),some (.int k,9),none]=some (.int x,9,[n0 ns,some (.int t,9),some (.int k,9),none]):=by have ek:=bq (F:=dP) (n:=3) (g:=ae (aa 0) (ae (e2 cU (aa 1) (eC (.int 1))) (ae (eC (.int 3)) ah))) (ρ:=[n0 ns,some (.int t,9),some (.int k,9),none]) (ds:=[bX ns,.int (t+1),.int 3]) rfl rfl e3;unfold dE;rw[show dI (ae (eC (.int 2)) (ae (eC (.int 3)) (ae (eC (.int 4)) ah))) [n0 ns,some (.int t,9),some (.int k,9),none]=some (.lst [.int 2,.int 3,.int 4],1,[n0 ns,some (.int t,9),some (.int k,9),none])from rfl];simp only[ek,ea];rfl
  exact⟨rows,hm,0,dG ((aU (s2 e9)).trans ((aU (f h3)).trans (p7 ((rh (tt h5)).trans (fC (bq (cu (bq (ds:=[.int 2]) rfl rfl vt) (bV (bq (bV ei) rfl e1))) rfl pP))))))⟩
 by_cases h7:k<7
 ·obtain⟨rows,hm,e⟩:=hs p p0 p1;exact⟨rows,hm,0,dG ((aU (s2 e9)).trans ((aU (f h3)).trans ((aU (f h5)).trans (p7 ((rh (tt h7)).trans (fC (bq (bV (bq (ds:=[bX ns,.int (t+1),.int 5]) rfl rfl e5)) rfl e)))))))⟩
 have:k=7\/k=8:=by omega
 rcases this with rfl|rfl
 ·exact⟨_,mem 13 (by decide),0,dG ((aU (s2 e9)).trans ((aU (f h3)).trans ((aU (f h5)).trans ((aU (f h7)).trans (p7 ((rh ((fg (dN (q:=9) (q':=9) rfl rfl (KU 7 7))).trans rfl)).trans (fC (bq (cu (bq (ds:=[.int 2]) rfl rfl vt) (bV (bq (cu (bq (ds:=[.int 2]) rfl rfl vt) (bV (bq (ds:=[.int 2]) rfl rfl vt))) rfl MX))) rfl j9w))))))))⟩
 ·exact⟨_,mem 14 (by decide),0,dG ((aU (s2 e9)).trans ((aU (f h3)).trans ((aU (f h5)).trans ((aU (f h7)).trans ((aU ((lS ((fg (dN (q:=9) (q':=9) rfl rfl (KU 8 7))).trans rfl)).trans rfl)).trans rfl)))))⟩
theorem z86:∀ rows∈qd,Ee rows.length (tf rows)=true:=by decide +kernel
def pk (ns:List Int)(t:Int)(k m:Nat):Nat:=(oR ns (t+2+Int.ofNat k) (Int.ofNat m)).toNat
theorem EC(ns:List Int)(t:Int)(k m:Nat)(h:0<m):pk ns t k m<m:=by have h1:=vq ns (t+2+Int.ofNat k) (m:=Int.ofNat m) (by show(0:Int)<m;omega);have h2:=ym ns (t+2+Int.ofNat k) (m:=Int.ofNat m) (by show(0:Int)<m;omega);have h3:(Int.ofNat m)=(m:Int):=rfl;unfold pk;omega
theorem k0l(ns:List Int)(t:Int)(k m:Nat)(h:0<m):oR ns (t+2+Int.ofNat k) (Int.ofNat m)=Int.ofNat (pk ns t k m):=by have h1:=vq ns (t+2+Int.ofNat k) (m:=Int.ofNat m) (by show(0:Int)<m;omega);unfold pk;show _=((oR ns (t+2+Int.ofNat k) (Int.ofNat m)).toNat:Int);omega
section
variable (ns:List Int)(t:Int)(n:Nat)(B:Nat->Nat->Nat)(q:Nat)
theorem z7w(h0:0<=t)(hn:n<=16):jH 1 (aA 8) di (qO 3 (ae (aK dP 3 (ae (aa 0) (ae (e2 cU (e2 cU (aa 1) (eC (.int 2))) (aa 8)) (ae (cj 3) ah)))) ah)) false (cE n)
  [n0 ns,some (.int t,9),some (cf n B,q),some (.lst (cE n),1),none,none,none,none] =
  some (ai ((range n).map (drawn (pk ns t) n)),[n0 ns,some (.int t,9),some (cf n B,q),some (.lst [],1),none,none,none,none]):=by
 have hp:=EC ns t;have h:=p6 (k:=1) (pt:=aA 8) (tt:=di) (te:=qO 3 (ae (aK dP 3 (ae (aa 0) (ae (e2 cU (e2 cU (aa 1) (eC (.int 2))) (aa 8)) (ae (cj 3) ah)))) ah)) (deep:=false) (cE n)
  (λk=>[n0 ns,some (.int t,9),some (cf n B,q),uL (bR (pk ns t) n k),none,none,none,none]) (λ_=>true) (λk=>(iD (drawn (pk ns t) n k))) (λk hk=>?_)
 ·rw[eY]at h;have hl:bR (pk ns t) n n=[]:=ZO.mp (by rw[xB hp n (Qj n)];omega);rw[hl]at h;have e1:(range n).filter (λ_=>true)=range n:=by simp
  rw[e1]at h;simp only[ai,QV,J1];exact h
 ·rw[eY]at hk;have hl:=xB hp k (Z6 hk);have MY:0<(bR (pk ns t) n k).length:=by rw[hl];omega
  have e:=k0l ns t k _ MY;have hj:=EC ns t k _ MY;have MZ:=yl ns (t+2+Int.ofNat k) (Int.ofNat (bR (pk ns t) n k).length) (by show 0<=t+2+(k:Int);omega) (by show(0:Int)<((bR (pk ns t) n k).length:Int);omega);have hs:seqIndex? (Int.ofNat (pk ns t k (bR (pk ns t) n k).length)) (ai (bR (pk ns t) n k)).length=some (pk ns t k (bR (pk ns t) n k).length):=(y8 (xx (by rw[d7];exact hj))).1;have hg:(ai (bR (pk ns t) n k))[pk ns t k (bR (pk ns t) n k).length]? = some (iD (drawn (pk ns t) n k)):=by rw[AI];unfold drawn;rw[Qg,Qb hj];rfl
  have hb:pk ns t k (bR (pk ns t) n k).length<=16:=by omega
  have he:(ai (bR (pk ns t) n k)).eraseIdx (pk ns t k (bR (pk ns t) n k).length)=ai (bR (pk ns t) n (k+1)):=by rw[bR,KY]
  refine⟨[n0 ns,some (.int t,9),some (cf n B,q),uL (bR (pk ns t) n k),none,none,none,none,i9 k],_,by simp[cE],rfl,?_⟩;rw[Qi rfl];refine⟨9,[n0 ns,some (.int t,9),some (cf n B,q),uL (bR (pk ns t) n (k+1)),none,none,none,none,i9 k],?_,by simp,by simp⟩;have b1:(-1000:Int)<=Int.ofNat (pk ns t k (bR (pk ns t) n k).length):=by show(-1000:Int)<=(pk ns t k (bR (pk ns t) n k).length:Int);omega
  have b2:Int.ofNat (pk ns t k (bR (pk ns t) n k).length)<=1000:=by show(pk ns t k (bR (pk ns t) n k).length:Int)<=1000;omega
  have kK:gm (.lst (ai (bR (pk ns t) n k)))=some (bR (pk ns t) n k).length:=by simp[gm,d7]
  rw[e]at MZ;simp[-ofNat_eq_natCast,kK,MZ,hs,hg,he,b1,b2]
theorem j1j(hn:n<=16)(x:OD):jH 1 (aA 8) di (pM (dI (ae (eC (.int 0)) ah)) (cj 2)) true ((range n).map λi=>e_ n B i)
  [n0 ns,some (.int t,9),some (cf n B,0),some (.lst [],1),x,none,none,none] =
  some ((range n).map λi=>e_ n (λ_ _=>0) i,[n0 ns,some (.int t,9),some (cf n B,0),some (.lst [],1),x,none,none,none]):=by
 have h:=p6 (k:=1) (pt:=aA 8) (tt:=di) (te:=pM (dI (ae (eC (.int 0)) ah)) (cj 2)) (deep:=true) ((range n).map λi=>e_ n B i)
  (λ_=>[n0 ns,some (.int t,9),some (cf n B,0),some (.lst [],1),x,none,none,none]) (λ_=>true) (λi=>e_ n (λ_ _=>0) i) (λk hk=>?_)
 ·rw[Qc,QI,show(range n).filter (λ_=>true)=range n by simp]at h;exact h
 ·refine⟨[n0 ns,some (.int t,9),some (cf n B,0),some (.lst [],1),x,none,none,none,some (e_ n B k,0)],_,by simp[e_],rfl,?_⟩;rw[Qi rfl];refine⟨1,[n0 ns,some (.int t,9),some (cf n B,0),some (.lst [],1),x,none,none,none,some (e_ n B k,0)],?_,by simp,by simp⟩;have z:e_ n (λ_ _=>0) k=D.lst (replicate n [D.int 0]).flatten:=(k0e n).symm;have b1:(-1000:Int)<=n:=by omega
  have b2:(n:Int)<=1000:=by omega
  have b3:n<=1000:=by omega
  rw[z];simp[xA,b1,b2,b3]
def iu (π ι:Nat->Nat)(i j a b:Nat):Nat:=if ι a<i\/(ι a=i/\ι b<j)then π (B (ι a) (ι b))else 0
abbrev tU:aI:=wG 5 (sM 4 (sL 6)) (sM 4 (sL 7)) (aH 4 (dE (aH 2 (aa 6)) (aa 7)))
section
variable {n B}{π ι:Nat->Nat}(cl:∀ i j,i<n->j<n->B i j<n)(h1:∀ i,i<n->π i<n)(h2:∀ i,i<n->ι i<n)(h3:∀ i,i<n->ι (π i)=i)(h4:∀ i,i<n->π (ι i)=i)
include cl h1 h2 h3 h4
theorem z3x(hi:i<n)(hj:j<n){y:OD} :
  tU [n0 ns,some (.int t,9),some (cf n B,0),some (.lst [],1),uL ((range n).map π),some (cf n f,2),i9 i,i9 j] =
  some (.nx [n0 ns,some (.int t,9),some (cf n B,0),some (.lst [],1),uL ((range n).map π),some (cf n (λa b=>if a=π i/\b=π j then π (B i j)else f a b),2),i9 i,i9 j]):=by
 have a1:=j3g (f:=B) hi;have a2:=j47 (f:=B) (i:=i) hj;have a3:da (.lst (ai ((range n).map π))) (Int.ofNat (B i j))=some (iD (π (B i j))):=u6 (cl i j hi hj);have a4:da (.lst (ai ((range n).map π))) (Int.ofNat i)=some (iD (π i)):=u6 hi;have a5:da (.lst (ai ((range n).map π))) (Int.ofNat j)=some (iD (π j)):=u6 hj;have a6:kr ((range n).map λa=>e_ n f a).length (Int.ofNat (π i))=some (π i):=xx (by simpa using h1 i hi);have a7:((range n).map λa=>e_ n f a)[π i]? = some (.lst (ai ((range n).map λb=>f (π i) b))):=by rw[Qm,Q9 (h1 i hi)];rfl
 have a8:kr (ai ((range n).map λb=>f (π i) b)).length (Int.ofNat (π j))=some (π j):=xx (by simpa [d7]using h1 j hj);have a9:=z7c (n:=n) (f:=f) (a:=π i) (b:=π j) (v:=π (B i j));rw[<- a9];show tU [n0 ns,some (.int t,9),some (cf n B,0),some (.lst [],1),uL ((range n).map π),some (.lst ((range n).map λa=>e_ n f a),2),i9 i,i9 j]=_;unfold tU;simp only[wG,aH,dE,aa,sM,sL,Zl,List.getElem?_cons_zero,D.cR,ZC,a1,a2,a3,a4,a5,a6,a7,a8,ne_eq,not_true_eq_false,false_and,and_false,Zf,Qt,reduceCtorEq,Zk,QT,c_,List.set_cons_succ,List.set_cons_zero]
abbrev ls (f:Nat->Nat->Nat)(x y:OD):aW:=[n0 ns,some (.int t,9),some (cf n B,0),some (.lst [],1),uL ((range n).map π),some (cf n f,2),x,y]
omit cl h1 h2 h3 h4
theorem rF(h:i<(cE n).length):(cE n)[i]=(iD i):=by simp[cE]
include cl h1 h2 h3 h4
theorem z99(hi:i<n)(hj:j<n):cf n (λa b=>if a=π i/\b=π j then π (B i j)else iu B π ι i j a b)=cf n (iu B π ι i (j+1)):=by
 refine AK λa b ha hb=>?_;unfold iu;by_cases h:a=π i/\b=π j
 ·obtain⟨rfl,rfl⟩:=h;rw[Qi ⟨rfl,rfl⟩,h3 i hi,h3 j hj,Qi (.inr ⟨rfl,ZG _⟩)]
 ·rw[Ql h];have:¬ (ι a=i/\ι b=j):=λ⟨e1,e2⟩=>h ⟨by rw[<- e1,h4 a ha],by rw[<- e2,h4 b hb]⟩;by_cases c:ι a<i\/ι a=i/\ι b<j
  ·rw[Qi c,Qi (by omega)]
  ·rw[Ql c,Ql (by omega)]
theorem j4h:cf n (iu B π ι i n)=cf n (iu B π ι (i+1) 0):=by
 refine AK λa b ha hb=>?_;have:=h2 b hb;unfold iu;by_cases c:ι a<i\/ι a=i/\ι b<n
 ·rw[Qi c,Qi (by omega)]
 ·rw[Ql c,Ql (by omega)]
theorem z9f(hn:n<=16)(hi:i<n)(y:OD):∃ y',fP (aA 7) tU (cE n) (ls ns t (n:=n) (B:=B) (π:=π) (iu B π ι i 0) ((i9 i)) y) =
  some (.nx (ls ns t (n:=n) (B:=B) (π:=π) (iu B π ι (i+1) 0) ((i9 i)) y')):=by
 obtain⟨ρ',e,y',rfl⟩:=kh (pt:=aA 7) (body:=tU) (cE n) (λj ρ=>∃ y,ρ=ls ns t (n:=n) (B:=B) (π:=π) (iu B π ι i j) ((i9 i)) y) (ls ns t (n:=n) (B:=B) (π:=π) (iu B π ι i 0) ((i9 i)) y) (λj hj ρ aj=>by obtain⟨y,hy⟩:=aj;subst hy;rw[eY]at hj;refine⟨ls ns t (n:=n) (B:=B) (π:=π) (iu B π ι i j) ((i9 i)) ((i9 j)),_,by rw[rF];simp,.inl (z3x ns t cl h1 h2 h3 h4 hi hj (y:=none)),?_⟩;rw[z99 cl h1 h2 h3 h4 hi hj];exact⟨_,rfl⟩) ⟨y,rfl⟩
 refine⟨y',?_⟩;rw[e,eY];show some (Out.nx [_,_,_,_,_,some (cf n (iu B π ι i n),2),_,_])=_;rw[j4h cl h1 h2 h3 h4]
theorem z94(hn:n<=16)(x y:OD):∃ x' y',fP (aA 6) (d3 (cL (ae (cj 2) ah)) (aA 7) tU) (cE n) (ls ns t (n:=n) (B:=B) (π:=π) (λ_ _=>0) x y) =
  some (.nx (ls ns t (n:=n) (B:=B) (π:=π) (λa b=>π (B (ι a) (ι b))) x' y')):=by
 have z:cf n (λ_ _=>0)=cf n (iu B π ι 0 0):=AK λa b _ _=>by unfold iu;rw[Ql (by omega)]
 have z':cf n (iu B π ι n 0)=cf n (λa b=>π (B (ι a) (ι b))):=AK λa b ha _=>by unfold iu;rw[Qi (.inl (h2 a ha))]
 obtain⟨ρ',e,x',y',rfl⟩:=kh (pt:=aA 6) (body:=d3 (cL (ae (cj 2) ah)) (aA 7) tU) (cE n) (λi ρ=>∃ x y,ρ=ls ns t (n:=n) (B:=B) (π:=π) (iu B π ι i 0) x y) (ls ns t (n:=n) (B:=B) (π:=π) (iu B π ι 0 0) x y) (λi hi ρ aj=>by
  obtain⟨x,y,hy⟩:=aj;subst hy;rw[eY]at hi;obtain⟨y',gu⟩:=z9f ns t cl h1 h2 h3 h4 hn hi y;refine⟨ls ns t (n:=n) (B:=B) (π:=π) (iu B π ι i 0) ((i9 i)) y,_,by rw[rF];simp,.inl (show _=some (Out.nx (ls ns t (n:=n) (B:=B) (π:=π) (iu B π ι (i+1) 0) ((i9 i)) y'))from ?_),⟨_,_,rfl⟩⟩;have b1:(-1000:Int)<=Int.ofNat n:=by show(-1000:Int)<=n;omega
  have b2:Int.ofNat n<=1000:=by show(n:Int)<=1000;omega
  have e:cL (ae (cj 2) ah) (ls ns t (n:=n) (B:=B) (π:=π) (iu B π ι i 0) ((i9 i)) y)=some (cE n,ls ns t (n:=n) (B:=B) (π:=π) (iu B π ι i 0) ((i9 i)) y):=by simp[-ofNat_eq_natCast,xA,b1,b2];rfl
  unfold d3;rw[e];exact gu) ⟨x,y,rfl⟩
 refine⟨x',y',?_⟩;show fP _ _ _ [_,_,_,_,_,some (cf n (λ_ _=>0),2),_,_]=some (.nx [_,_,_,_,_,some (cf n (λa b=>π (B (ι a) (ι b))),2),_,_]);rw[z,<- z'];rw[eY]at e;exact e
end
end
theorem z7v{a b c d e:OD}{x y:OD}:jH 1 (aA 8) di (gH (ae (aa 8) ah)) false ((range n).map λi=>e_ n f i) [a,b,c,d,e,some (cf n f,0),x,y] =
  some ((range n).map λi=>lT n f i,[a,b,c,d,e,some (cf n f,0),x,y]):=by
 have h:=p6 (k:=1) (pt:=aA 8) (tt:=di) (te:=gH (ae (aa 8) ah)) (deep:=false) ((range n).map λi=>e_ n f i)
  (λ_=>[a,b,c,d,e,some (cf n f,0),x,y]) (λ_=>true) (λi=>lT n f i) (λk hk=>?_)
 ·rw[Qc,QI,show(range n).filter (λ_=>true)=range n by simp]at h;exact h
 ·refine⟨[a,b,c,d,e,some (cf n f,0),x,y,some (e_ n f k,0)],_,by simp[e_],rfl,?_⟩;rw[Qi rfl];exact⟨9,[a,b,c,d,e,some (cf n f,0),x,y,some (e_ n f k,0)],by simp[e_,lT],by simp,by simp⟩
theorem ki(hn:n<=1000)(h:ρ[i]? = some (some (d,q)))(hl:gm d=some n):cL (ae (cj i) ah) ρ=some (cE n,ρ):=by
 have b1:(-1000:Int)<=Int.ofNat n:=by show(-1000:Int)<=n;omega
 have b2:Int.ofNat n<=1000:=by show(n:Int)<=1000;omega
 simp only[cL,ae,cj,ah,h,hl];rw[Qi ⟨b1,b2⟩];rfl
theorem j27:∀ rows∈qd,rows.length<=8:=by decide +kernel
theorem j1n(ns:List Int)(t:Int)(h0:0<=t):∃ n f,ba n f/\n<=8/\vc [bX ns,.int t]=(t9 n f):=by
 obtain⟨rows,hm,q,hb⟩:=j2a ns t h0;have L:=j3x (z86 rows hm);have h8:=j27 rows hm;unfold eS at hb;revert hb L h8;generalize rows.length=n;generalize tf rows=B;intro hb L h8;have hp:=EC ns t;have hn:n<=1000:=QJ L.hi (by decide);refine⟨n,λa b=>drawn (pk ns t) n (B (lg (pk ns t) n a) (lg (pk ns t) n b)),L.ren (λi hi=>K1 hp hi) (λi hi=>K2 hp hi) (λi hi=>K4 hp hi) (λi hi=>K3 hp hi),h8,?_⟩;unfold vc Lq;refine dG ?_;have s0:m_ 8 [bX ns,.int t]=[n0 ns,some (.int t,9),none,none,none,none,none,none]:=rfl;rw[s0];refine(aU (ρ1:=[n0 ns,some (.int t,9),some (cf n B,q),none,none,none,none,none]) ?_).trans ?_
 ·simp[hb]
 refine(aU (ρ1:=[n0 ns,some (.int t,9),some (cf n B,q),some (.lst (cE n),1),none,none,none,none]) ?_).trans ?_
 ·exact dM (AH (ki hn rfl xA)) rfl
 refine(aU (ρ1:=[n0 ns,some (.int t,9),some (cf n B,q),some (.lst [],1),uL ((range n).map (drawn (pk ns t) n)),none,none,none]) ?_).trans ?_
 ·exact dM (fB (ki hn rfl xA) (z7w ns t n B q h0 L.hi)) rfl
 refine(aU (ρ1:=[n0 ns,some (.int t,9),some (cf n B,0),some (.lst [],1),uL ((range n).map (drawn (pk ns t) n)),some (cf n (λ_ _=>0),2),none,none]) ?_).trans ?_
 ·have e:cz (aa 2) [n0 ns,some (.int t,9),some (cf n B,q),some (.lst [],1),uL ((range n).map (drawn (pk ns t) n)),none,none,none]=some ((range n).map λi=>e_ n B i,[n0 ns,some (.int t,9),some (cf n B,0),some (.lst [],1),uL ((range n).map (drawn (pk ns t) n)),none,none,none]):=by
   by_cases hq:q=0
   ·subst hq;simp[cf,hn]
   ·simp[cf,hn,hq]
  exact dM (fB e (j1j ns t n B L.hi _)) rfl
 obtain⟨x',y',hf⟩:=z94 ns t (n:=n) (B:=B) (π:=drawn (pk ns t) n) (ι:=lg (pk ns t) n) L.cl (λi hi=>K1 hp hi) (λi hi=>K2 hp hi) (λi hi=>K4 hp hi) (λi hi=>K3 hp hi) L.hi none none;refine(aU ((gZ (ki hn rfl xA)).trans hf)).trans ?_;refine fC (ρ1:=[n0 ns,some (.int t,9),some (cf n B,0),some (.lst [],1),uL ((range n).map (drawn (pk ns t) n)),some (cf n (λa b=>drawn (pk ns t) n (B (lg (pk ns t) n a) (lg (pk ns t) n b))),0),x',y']) ?_;have e:cz (aa 5) (ls ns t (n:=n) (B:=B) (π:=drawn (pk ns t) n) (λa b=>drawn (pk ns t) n (B (lg (pk ns t) n a) (lg (pk ns t) n b))) x' y')=some ((range n).map λi=>e_ n (λa b=>drawn (pk ns t) n (B (lg (pk ns t) n a) (lg (pk ns t) n b))) i,[n0 ns,some (.int t,9),some (cf n B,0),some (.lst [],1),uL ((range n).map (drawn (pk ns t) n)),some (cf n (λa b=>drawn (pk ns t) n (B (lg (pk ns t) n a) (lg (pk ns t) n b))),0),x',y']):=by simp[cf,hn]
 have e2:=fB (k:=1) (pt:=aA 8) (tt:=di) (te:=gH (ae (aa 8) ah)) (deep:=false) e z7v;exact k9 (bV e2)
theorem j70(ns:List Int)(t:Int)(h0:0<=t):∃ n f,ba n f/\vc [bX ns,.int t]=(t9 n f):=by obtain⟨n,f,L,_,e⟩:=j1n ns t h0;exact⟨n,f,L,e⟩
theorem M0(v:Nat)(l:List Nat):inD (iD v) (.lst (ai l))=some (decide (v∈l)):=by
 show some ((eJ (ai l)).any λy=>PyData.eqv y (cn (iD v)))=_;congr 1;induction l with
 | nil=>rfl
 | cons a l ih=>
  have h1:(eJ (ai (a::l)))=cn (iD a)::eJ (ai l):=rfl;rw[h1,YI,ih];have h2:PyData.eqv (cn (iD a)) (cn (iD v))=decide (a=v):=Ed a v;rw[h2];by_cases h:a=v
  ·simp[h]
  ·have h':¬ v=a:=λq=>h q.symm;simp[h,h']
theorem ED(v:Nat)(l:List Nat):ml (iD v) (.lst (ai l))=some (.bl (decide (v∈l))):=by unfold ml;rw[Qi ⟨(Sh.int (k:=0) _).ok,(u7 l).ok⟩,M0];rfl
theorem z9c{x:D×Nat}(h:ρ[i]? = some (some x)):ρ.set i (some x)=ρ:=by
 apply Zo;intro k;by_cases hk:i=k
 ·subst hk;rw[h,QZ (QN.mp h).1]
 ·rw[Q3 hk]
theorem lz(h:ρ[i]? = some (some (.lst ds,q))):aa i ρ=some (.lst ds,0,ρ.set i (some (.lst ds,0))):=by
 unfold aa;rw[h];by_cases hq:q=0
 ·subst hq;rw[z9c h];rfl
 ·simp[hq]
theorem EE{g:cS}(e:g ρ=some (false,ρ1)):lM g h ρ=h ρ1:=by unfold lM;rw[e];rfl
theorem j1m{g:cS}{b:Bool}(e:g ρ=some (b,ρ1)):i8 g ρ=some (!b,ρ1):=by unfold i8;rw[e]
theorem yn{f:aF}{b:Bool}(h:f ρ=some (.bl b,q,ρ1)):gT f ρ=some (b,ρ1):=by unfold gT;rw[h];cases b<;>rfl
theorem yo(h:ρ[i]? = some (some (d,q)))(hl:gm d=some n):cj i ρ=some ((iD n),9,ρ):=by unfold cj;rw[h];simp only[hl]
theorem rG{x:D}{b:aF}{k:Int}(hb:b ρ=some (.int k,q',ρ))(h:ρ[i]? = some (some (x,q)))(ha:da x k=some d)(hd:d.cR=false):aH i b ρ=some (d,9,ρ):=by unfold aH;rw[h];simp only[hb,h,ha,hd,c_];simp
theorem Ba{x:D}{a b:aF}{k:Int}(h:a ρ=some (x,q,ρ1))(hb:b ρ1=some (.int k,q',ρ2))(ha:da x k=some d)(hx:x.cR=false)(hd:d.cR=false):dE a b ρ=some (d,9,ρ2):=by unfold dE;rw[h];simp only[hb,ha,hd,hx,c_];simp
theorem lA(ns:List Int){c:Int}(hc:0<=c)(hn:0<n):∃ v,v<n/\dP [bX ns,.int c,iD n]=(i9 v):=by
 have EF:(0:Int)<Int.ofNat n:=by show(0:Int)<(n:Int);omega
 have h1:=vq ns c EF;have h2:=ym ns c EF;have h3:Int.ofNat n=(n:Int):=rfl;obtain⟨v,hv⟩:=Int.eq_ofNat_of_zero_le h1;refine⟨v,by rw[hv,h3]at h2;omega,?_⟩;rw[yl ns c _ hc EF,hv];rfl
section
variable {n:Nat}{f:Nat->Nat->Nat}
theorem Bb{x w:Nat}(hx:x<n)(hw:w<n):mC [aN n f,iD x,iD w]=(b9 (decide (f x w=w))):=by unfold mC LY;simp[-ofNat_eq_natCast,k_ hx,lU hw,rj]
theorem sU(hn:n<=1000){w:Nat}(hw:w<n):rA [aN n f,iD w]=(uL ((range n).filter λx=>decide (f x w=w))):=by
 unfold rA LZ;refine dG (fC (fB (deep:=false) (ρ2:=[t9 n f,i9 w]) (ki hn rfl iS) ?_));refine tG (i:=2) (ρ:=[t9 n f,i9 w]) (deep:=false) rfl (λx=>decide (f x w=w)) (λx=>(iD x)) (λ_=>9) (λj hj=>?_) (λj hj _=>?_)
 ·simp[-ofNat_eq_natCast,Bb hj hw]
 ·simp[-ofNat_eq_natCast]
theorem z9q(hn:n<=1000){w:Nat}(hw:w<n):tM [aN n f,iD w]=(uL ((range n).filter λx=>decide (f x w=w))):=by
 unfold tM Lx;refine dG (fC (fB (deep:=false) (ρ2:=[t9 n f,i9 w]) (ki hn rfl iS) ?_));refine tG (i:=2) (ρ:=[t9 n f,i9 w]) (deep:=false) rfl (λx=>decide (f x w=w)) (λx=>(iD x)) (λ_=>9) (λj hj=>?_) (λj hj _=>?_)
 ·simp[-ofNat_eq_natCast,k_ hj,lU hw,rj]
 ·simp[-ofNat_eq_natCast]
variable (L:ba n f){z:Nat}(hz:z<n)(bz:∀ j,j<n->f z j=j)
include L hz bz
theorem M1{w:Nat}(hw:w<n):decide ((range n).map (λj=>f w j)=range n)=decide (w=z):=by rw[ZP,y79];exact⟨λh=>L.nK hz bz hw h,λh=>by subst h;exact bz⟩
theorem M3(hn:n<=1000):tL [aN n f]=(i9 z):=by
 unfold tL Lu;refine dG (fC (ρ1:=[t9 n f]) ?_);have hc:dz 1 (cL (ae (cj 0) ah)) (aA 1) (bC (e2 dS (wA (ae (aH 0 (aa 1)) ah)) (oA (ae (cj 0) ah)))) (aa 1) false (m_ 1 [aN n f])=some (.lst (ai [z]),1,[t9 n f]):=by
  refine(fB (deep:=false) (ρ2:=[t9 n f]) (ki hn rfl iS) (tG rfl (λx=>decide (x=z)) (λx=>(iD x)) (λ_=>9) (λj hj=>?_) (λj hj _=>?_))).trans ?_
  ·have e1:wA (ae (aH 0 (aa 1)) ah) ([t9 n f]++[i9 j])=some (.lst (ai ((range n).map λk=>f j k)),1,[t9 n f,i9 j]):=by simp[-ofNat_eq_natCast,k_ hj,lT]
   have pP:oA (ae (cj 0) ah) [t9 n f,i9 j]=some (.lst (ai (range n)),1,[t9 n f,i9 j]):=AH (ki hn rfl iS);unfold bC e2;rw[e1];simp only[pP,k0k,M1 L hz bz hj];rfl
  ·simp[-ofNat_eq_natCast]
  ·rw[K5,Qi hz];rfl
 unfold dE;rw[hc];simp[-ofNat_eq_natCast,da,ai,L2.eR,kr]
theorem j4n(hn:n<=1000)(hl:l.length<=1000)(hm:∀ x∈l,x<n):vd [aN n f,.lst (ai l)]=(i9 (l.foldl f z)):=by
 unfold vd Lw;refine dG ?_;refine(aU (ρ1:=[t9 n f,some (.lst (ai l),0),i9 z,none]) ?_).trans ?_
 ·simp[-ofNat_eq_natCast,M3 L hz bz hn]
 obtain⟨ρ',e,y,rfl⟩:=kh (pt:=aA 3) (body:=br 2 (dE (aH 0 (aa 2)) (aa 3))) (ai l) (λi ρ=>∃ y,ρ=[t9 n f,some (.lst (ai l),0),i9 ((l.take i).foldl f z),y]) [t9 n f,some (.lst (ai l),0),i9 z,none] (λi hi ρ aj=>by
  obtain⟨y,hy⟩:=aj;subst hy;have bS:i<l.length:=by rw[d7]at hi;exact hi
  have hg:(ai l)[i]=.int (Int.ofNat l[i]):=by simp[ai]
  have hx:l[i]<n:=hm _ (QW bS);have ha:(l.take i).foldl f z<n:=L.fold_lt hz λx m=>hm x (J6 m);refine⟨[t9 n f,some (.lst (ai l),0),i9 ((l.take i).foldl f z),some (.int (Int.ofNat l[i]),9)],[t9 n f,some (.lst (ai l),0),i9 ((l.take (i+1)).foldl f z),some (.int (Int.ofNat l[i]),9)],?_,.inl ?_,⟨_,rfl⟩⟩
  ·rw[hg];simp
  ·rw[List.take_succ_eq_append_getElem bS,VA];simp[-ofNat_eq_natCast,k_ ha,lU hx]) ⟨none,rfl⟩
 rw[d7,Jl]at e;refine(aU ((gZ (ds:=ai l) (ρ1:=[t9 n f,some (.lst (ai l),0),i9 z,none]) ?_).trans e)).trans ?_
 ·simp[d7,hl]
 ·simp[-ofNat_eq_natCast]
end
section
variable {n:Nat}{f:Nat->Nat->Nat}
variable (L:ba n f){z:Nat}(hz:z<n)(bz:∀ j,j<n->f z j=j)
include L hz bz
theorem EG(hn:n<=1000):oQ [aN n f]=(i9 z):=by
 have b1:(-1000:Int)<=Int.ofNat n:=by show(-1000:Int)<=n;omega
 have b2:Int.ofNat n<=1000:=by show(n:Int)<=1000;omega
 have hr:ya [iD n]=(v9 (range n)):=by unfold ya Mb;simp[-ofNat_eq_natCast,b1,b2];rfl
 have hi:zU (.tup (ai (range n))) ((range n).map λi=>lT n f i)=some z:=by
  unfold zU;rw[KN,QV];have ev:∀ i,i<n->PyData.eqv (cn (lT n f i)) (cn (.tup (ai (range n))))=decide (i=z):=λi hi=>(KS _ _).trans (M1 L hz bz hi);refine KW (x:=cn (lT n f z)) ?_ ?_ ?_
  ·rw[Qm,Q9 hz];rfl
  ·rw[ev z hz];simp
  ·intro i y hi hy;have bS:i<n:=JJ hi hz;rw[Qm,Q9 bS]at hy;cases hy;refine(ev i bS).trans ?_;simp;omega
 have h1:fQ (.tup ((range n).map λi=>lT n f i))=true:=(j3i n f).ok;have h2:fQ (.tup (ai (range n)))=true:=(u9 _).ok;have hl:gm (.tup ((range n).map λi=>lT n f i))=some n:=iS (f:=f);unfold oQ Mc aN;simp[-ofNat_eq_natCast,hr,hl,h1,h2,hi]
end
section
variable {n:Nat}{f:Nat->Nat->Nat}
def qe (n:Nat)(f:Nat->Nat->Nat)(r:Nat->Nat):Bool:=(range n).all λy=>(ba.low n f y).all λx=>decide (f (r x) (r y)=r y)
theorem EH:qe n f r=true ↔ ∀ y x,y<n->x<n->f x y=y->f (r x) (r y)=r y:=by unfold qe;rw[L3.range_all];simp only[Z3,ba.dH,ZB];exact⟨λh y x hy hx e=>h y hy x ⟨hx,e⟩,λh y hy x e=>h y x hy e.1 e.2⟩
theorem z7b(hn:n<=1000)(hr:∀ i,i<n->r i<n):xX [aN n f,aL n r]=(b9 (qe n f r)):=by
 unfold xX L5;refine dG ?_;have hs:m_ 4 [aN n f,aL n r]=[t9 n f,r9 n r,none,none]:=rfl;rw[hs];obtain⟨h1,h2⟩:=xC (pt:=aA 2) (body:=d3 (cz (aK rA 2 (ae (aa 0) (ae (aa 2) ah)))) (aA 3) (dy (i8 (gT (aK mC 3 (ae (aa 0) (ae (aH 1 (aa 3)) (ae (aH 1 (aa 2)) ah)))))) (bJ (eC (.bl false))) d5)) (d:=.bl false) (q:=9) (cE n) (λρ=>∃ x y,ρ=[t9 n f,r9 n r,x,y]) (λy=>(ba.low n f y).all λx=>decide (f (r x) (r y)=r y)) [t9 n f,r9 n r,none,none] (λy hy ρ ⟨a,b,e⟩=>by
  subst e;have gu:y<n:=by rw[eY]at hy;exact hy
  refine⟨[t9 n f,r9 n r,i9 y,b],by rw[show(cE n)[y]=(iD y)by simp[cE]];simp,?_⟩;have hl:(ai (ba.low n f y)).length<=1000:=by rw[d7];have:=Q7 (λx=>decide (f x y=y)) (range n);rw[QI]at this;exact QJ this hn
  have hi:cz (aK rA 2 (ae (aa 0) (ae (aa 2) ah))) [t9 n f,r9 n r,i9 y,b]=some (ai (ba.low n f y),[t9 n f,r9 n r,i9 y,b]):=by have hb:rA [aN n f,iD y]=(uL (ba.low n f y)):=sU hn gu;simp[-ofNat_eq_natCast,hb,hl]
  obtain⟨i1,i2⟩:=xC (pt:=aA 3) (body:=dy (i8 (gT (aK mC 3 (ae (aa 0) (ae (aH 1 (aa 3)) (ae (aH 1 (aa 2)) ah)))))) (bJ (eC (.bl false))) d5) (d:=.bl false) (q:=9) (ai (ba.low n f y)) (λρ=>∃ b,ρ=[t9 n f,r9 n r,i9 y,b]) (λi=>decide (f (r ((ba.low n f y).getD i 0)) (r y)=r y)) [t9 n f,r9 n r,i9 y,b] (λi bS ρ ⟨b,e⟩=>by
   subst e;have hm:=Ef (l:=ba.low n f y) (i:=i) (by rw[d7]at bS;exact bS);have hx:=(ba.dH.mp hm).1;rw[K8 bS];refine⟨[t9 n f,r9 n r,i9 y,i9 ((ba.low n f y).getD i 0)],by simp,λok=>⟨[t9 n f,r9 n r,i9 y,i9 ((ba.low n f y).getD i 0)],?_,⟨_,rfl⟩⟩,λno=>?_⟩
   ·have EI:=QM ok;simp[-ofNat_eq_natCast,-List.getD_eq_getElem?_getD,lh hx,lh gu,Bb (f:=f) (hr _ hx) (hr _ gu),EI]
   ·have EJ:=JO no;simp[-ofNat_eq_natCast,-List.getD_eq_getElem?_getD,lh hx,lh gu,Bb (f:=f) (hr _ hx) (hr _ gu),EJ]) ⟨b,rfl⟩
  rw[d7,K7 (λx=>decide (f (r x) (r y)=r y))]at i1 i2;refine⟨λok=>?_,λno=>(gZ hi).trans (i2 no)⟩;obtain⟨ρ2,e,b',rfl⟩:=i1 ok;exact⟨_,(gZ hi).trans e,_,_,rfl⟩) ⟨none,none,rfl⟩
 rw[eY]at h1 h2;cases h:qe n f r with
 | true=>
  obtain⟨ρ',e,x,y,rfl⟩:=h1 h;exact(aU ((gZ (ki hn rfl iS)).trans e)).trans rfl
 | false=>exact p7 ((gZ (ki hn rfl iS)).trans (h2 h))
theorem EK(hn:n<=1000)(hr:∀ i,i<n->r i<n)(hs:∀ i,i<n->s i<n):tO [aN n f,aL n r,aL n s]=(r9 n (λi=>f (r i) (s i))):=by
 unfold tO LJ;refine dG (fC (ρ1:=[t9 n f,r9 n r,r9 n s]) ?_);have hz:z_ (ae (aa 1) (ae (aa 2) ah)) [t9 n f,r9 n r,r9 n s]=some ((range n).map λj=>.tup [iD (r j),iD (s j)],[t9 n f,r9 n r,r9 n s]):=by have:=z68 n r s;simp[-ofNat_eq_natCast,aL,d7,hn,this]
 have hc:=fB (k:=2) (tt:=di) (te:=dE (aH 0 (aa 3)) (aa 4)) (deep:=false) hz (k0u (i:=3) rfl r s (λ_=>true) (λj=>(iD (f (r j) (s j)))) (λ_=>9) (λj hj=>rfl) (λj hj _=>by simp[-ofNat_eq_natCast,k_ (f:=f) (hr j hj),lU (f:=f) (i:=r j) (hs j hj)]))
 rw[show(range n).filter (λ_=>true)=range n by simp]at hc;refine(k9 (bV hc)).trans ?_;exact ZD (λd=>some (d,9,_)) (Lb _)
end
theorem vw(h:g ρ=some (.lst ds,q,ρ1))(hl:ds.length<=1000):cz g ρ=some (ds,ρ1):=by unfold cz;rw[h];exact Qi hl
theorem vx(h:g ρ=some (.tup ds,q,ρ1))(hl:ds.length<=1000):cz g ρ=some (ds,ρ1):=by unfold cz;rw[h];exact Qi hl
theorem k25{a b:aF}{k:Int}(ha:a ρ=some (.lst ds,q,ρ1))(hb:b ρ1=some (.int k,q',ρ2))(h:da (.lst ds) k=some d):dE a b ρ=some (d,c_ d,ρ2):=by unfold dE;rw[ha];simp only[hb,h]
theorem M4(l:List Nat)(x:Nat):ai l++[iD x]=ai (l++[x]):=by unfold ai;rw[QU];rfl
theorem Bc{g:cK}(h:g ρ=some (ds,ρ1))(hl:ds.length<=1000):dI g ρ=some (.lst ds,1,ρ1):=by unfold dI;rw[h];exact Qi hl
abbrev R7 (ns:List Int)(t:Int)(n:Nat)(f:Nat->Nat->Nat)(z:Nat)(a b c:OD):aW:=[n0 ns,some (.int t,9),t9 n f,i9 z,a,b,c]
section
variable {n:Nat}{f:Nat->Nat->Nat}
variable (L:ba n f){z:Nat}(hz:z<n)(bz:∀ j,j<n->f z j=j)
include L hz bz
theorem M5(ns:List Int)(t:Int)(h0:0<=t):∃ d:Nat->Nat,(∀ i,i<n->d i<n)/\tN [bX ns,.int t,aN n f]=some (aL n (ba.lr n f z d),9):=by
 have hn:n<=1000:=QJ L.hi (by decide);have hn0:0<n:=L.lo;obtain⟨ρ',e,l,y,hl,hm,rfl⟩:=kh (pt:=aA 5) (body:=LA) (cE n) (λi ρ=>∃ l y,l.length=i/\(∀ x∈l,x<n)/\ρ=R7 ns t n f z (some (.lst (ai l),1)) y none) (R7 ns t n f z (some (.lst [],1)) none none) (λi hi ρ aj=>by
  obtain⟨l,y,hl,hm,rfl⟩:=aj;have bS:i<n:=by rw[eY]at hi;exact hi
  have hii:Int.ofNat i=(i:Int):=rfl;obtain⟨v,hv,ev⟩:=lA ns (show 0<=t+Int.ofNat i by omega) hn0;obtain⟨k,hk,ek⟩:=lA ns (show 0<=t+8+Int.ofNat i by omega) (show 0<3 by decide);have hx:∃ x,x<n/\da (.lst [.int (Int.ofNat z),.int (Int.ofNat i),.int (Int.ofNat v)]) (Int.ofNat k)=some (.int (Int.ofNat x)):=by
   match k,hk with
   | 0,_=>exact⟨z,hz,rfl⟩
   | 1,_=>exact⟨i,bS,rfl⟩
   | 2,_=>exact⟨v,hv,rfl⟩
  obtain⟨x,hx,ex⟩:=hx;refine⟨R7 ns t n f z (some (.lst (ai l),1)) (some (.int (Int.ofNat i),9)) none,R7 ns t n f z (some (.lst (ai (l++[x])),1)) (some (.int (Int.ofNat i),9)) none,by rw[rF];rfl,.inl ?_,l++[x],_,by rw[Qn,hl];rfl,λw hw=>?_,rfl⟩
  ·rw[<- M4];exact u_ rfl (bV (k25 (Bc (cu (q:=9) rfl (cu (q:=9) rfl (bV (bq (ds:=[bX ns,.int (t+Int.ofNat i),.int (Int.ofNat n)]) (cu (q:=0) rfl (cu (q:=9) rfl (bV (yo rfl iS)))) rfl ev)))) (by show 3<=1000;decide)) (bq (ds:=[bX ns,.int (t+8+Int.ofNat i),.int (Int.ofNat 3)]) rfl rfl ek) ex)) rfl (by rw[d7];omega) rfl
  ·rcases QO.mp hw with h|h
   ·exact hm w h
   ·rw[QF.mp h];exact hx) ⟨[],none,rfl,(λ_ h=>nomatch h),rfl⟩
 rw[eY]at hl;have hg:∀ i,i<n->gv l i<n:=λi hi=>hm _ (Lf (by omega));refine⟨gv l,hg,?_⟩;obtain⟨ρ',e2,y',rfl⟩:=kh (pt:=aA 5) (body:=Lz) (cE n) (λi ρ=>∃ y,ρ=R7 ns t n f z (some (.lst (ai l),1)) y (some (.lst (ai ((range i).map (ba.lr n f z (gv l)))),1))) (R7 ns t n f z (some (.lst (ai l),1)) y (some (.lst [],1))) (λi hi ρ aj=>by
  obtain⟨y,rfl⟩:=aj;have bS:i<n:=by rw[eY]at hi;exact hi
  have yp:(ba.low n f i).length<=1000:=by have:=Q7 (λy=>decide (f y i=i)) (range n);rw[QI]at this;exact QJ this hn
  have hb:tM [aN n f,.int (Int.ofNat i)]=some (.lst (ai (ba.low n f i)),1):=z9q hn bS;have hc:=fB (k:=1) (te:=aH 4 (aa 7)) (deep:=false) (ρ:=R7 ns t n f z (some (.lst (ai l),1)) (some (.int (Int.ofNat i),9)) (some (.lst (ai ((range i).map (ba.lr n f z (gv l)))),1))) (it:=cz (aK tM 2 (ae (aa 2) (ae (aa 5) ah)))) (ds:=ai (ba.low n f i)) (ρ1:=R7 ns t n f z (some (.lst (ai l),1)) (some (.int (Int.ofNat i),9)) (some (.lst (ai ((range i).map (ba.lr n f z (gv l)))),1))) (vw (bq (ds:=[aN n f,.int (Int.ofNat i)]) rfl rfl hb) (by rw[d7];exact yp)) (K9 (i:=7) (ba.low n f i) rfl (λy=>.int (Int.ofNat (gv l y))) (λ_=>9) (λy hy=>by have hyn:=(ba.dH.mp hy).1;have uJ:da (.lst (ai l)) (Int.ofNat y)=some (.int (Int.ofNat (gv l y))):=k2b (by omega);simp[-ofNat_eq_natCast,uJ]))
  rw[show((ba.low n f i).map λy=>D.int (Int.ofNat (gv l y)))=ai ((ba.low n f i).map (gv l))by simp[ai]]at hc;have hj:vd [aN n f,.lst (ai ((ba.low n f i).map (gv l)))]=some (.int (Int.ofNat (ba.lr n f z (gv l) i)),9):=j4n L hz bz hn (by rw[Qc];exact yp) (ba.jc L hz bz hg);refine⟨R7 ns t n f z (some (.lst (ai l),1)) (some (.int (Int.ofNat i),9)) (some (.lst (ai ((range i).map (ba.lr n f z (gv l)))),1)),R7 ns t n f z (some (.lst (ai l),1)) (some (.int (Int.ofNat i),9)) (some (.lst (ai ((range (i+1)).map (ba.lr n f z (gv l)))),1)),by rw[rF];rfl,.inl ?_,_,rfl⟩;rw[V7,QU,List.map_singleton,<- M4];exact u_ rfl (bV (bq (cu (q:=9) rfl (bV hc)) rfl hj)) rfl (by rw[d7,Qc,QI];omega) rfl) ⟨y,rfl⟩
 rw[eY]at e2;unfold tN LB;refine dG ?_;show aJ _ _ [some (bX ns,0),some (.int t,9),some (aN n f,9),none,none,none,none]=_;refine(aU (dM (bq (ds:=[aN n f]) rfl rfl (M3 L hz bz hn)) rfl)).trans ?_;refine(aU (ρ1:=R7 ns t n f z (some (.lst [],1)) none none) rfl).trans ?_;refine(aU ((gZ (ki hn (i:=2) rfl iS)).trans e)).trans ?_;refine(aU (ρ1:=R7 ns t n f z (some (.lst (ai l),1)) y (some (.lst [],1))) rfl).trans ?_;refine(aU ((gZ (ki hn (i:=2) rfl iS)).trans e2)).trans ?_;exact fC (k9 (bV (q:=0) (ρ1:=R7 ns t n f z (some (.lst (ai l),1)) y' (some (.lst (ai ((range n).map (ba.lr n f z (gv l)))),0))) rfl))
end
def iU (n:Nat):D->Bool
 | .int i=>decide (0<=i)&&decide (i<(n:Int))
 | _=>false
def fX (m n:Nat):D->Bool
 | .tup ds=>decide (ds.length=m)&&ds.all (iU n)
 | _=>false
theorem oS(d:D):xR [d]=(b9 (match d with|.int _=>true|_=>false)):=by unfold xR LR;cases d<;>simp[gY]
theorem EL(n:Nat)(d:D):oP [d,iD n]=(b9 (iU n d)):=by
 unfold oP LS;cases d with
 | int i=>
  have h:=oS (.int i);by_cases h0:0<=i
  ·by_cases h1:i<(n:Int)
   ·simp[h,iU,h0,h1]
   ·simp[h,iU,h0,h1]
  ·simp[h,iU,h0]
 | bK=>simp[oS,iU]
 | bl b=>simp[oS,iU]
 | str x=>simp[oS,iU]
 | tup ds=>simp[oS,iU]
 | lst ds=>simp[oS,iU]
 | gS ks ds=>simp[oS,iU]
 | exc nm=>simp[oS,iU]
 | ob f fo vs ds=>simp[oS,iU]
 | mp k ds=>simp[oS,iU]
theorem z59(m n:Nat)(d:D)(hl:∀ ds,d=.tup ds->ds.length<=1000):tP [d,iD m,iD n]=(b9 (fX m n d)):=by
 unfold tP Er;cases d with
 | tup ds=>
  have hl:=hl ds rfl;refine dG ?_;have hs:m_ 3 [.tup ds,iD m,iD n]=[some (.tup ds,9),i9 m,i9 n]:=rfl;rw[hs];by_cases hm:ds.length=m
  ·refine(aU (ρ1:=[some (.tup ds,9),i9 m,i9 n]) ?_).trans ?_
   ·simp[-ofNat_eq_natCast,gY,gm,hm,nJ]
   ·have hi:cz (aa 0) [some (.tup ds,9),i9 m,i9 n]=some (ds,[some (.tup ds,9),i9 m,i9 n]):=by simp[hl]
    have hc:=p6 (k:=1) (pt:=aA 3) (tt:=di) (te:=aK oP 2 (ae (aa 3) (ae (aa 2) ah))) (deep:=false) ds (λ_=>[some (.tup ds,9),i9 m,i9 n]) (λ_=>true) (λi=>.bl (iU n (ds.getD i .bK))) (λi hi=>by
     have hg:ds.getD i .bK=ds[i]:=by simp[hi]
     refine⟨[some (.tup ds,9),i9 m,i9 n,some (ds[i],c_ ds[i])],[some (.tup ds,9),i9 m,i9 n,some (ds[i],c_ ds[i])],by simp[-c_],rfl,?_⟩;rw[Qi rfl];refine⟨9,[some (.tup ds,9),i9 m,i9 n,some (ds[i],c_ ds[i])],?_,by simp,by simp⟩;have hv:∃ q,aa 3 [some (.tup ds,9),i9 m,i9 n,some (ds[i],c_ ds[i])]=some (ds[i],q,[some (.tup ds,9),i9 m,i9 n,some (ds[i],c_ ds[i])]):=by
      cases hL:(ds[i]).cR with
      | false=>exact⟨9,by simp[-c_,hL]⟩
      | true=>exact⟨0,by simp[hL]⟩
     obtain⟨q,hv⟩:=hv;rw[hg];exact bq (cu hv (bV (q:=9) rfl)) rfl (EL n _))
    rw[show(range ds.length).filter (λ_=>true)=range ds.length by simp]at hc;have e:(range ds.length).map (λi=>D.bl (iU n (ds.getD i .bK)))=ds.map λd=>.bl (iU n d):=by
     apply Zo;intro k;by_cases hk:k<ds.length
     ·simp[hk]
     ·rw[QG (by simp;omega),QG (by simp;omega)]
    rw[e]at hc;refine fC (K_ (bV (fB (deep:=false) hi hc)) ?_);simp only[qQ,Ht,ZZ,fX,hm];simp[V2,J1]
  ·have e:fX m n (.tup ds)=false:=by simp[fX,hm]
   rw[e];refine p7 ?_;simp[-ofNat_eq_natCast,gY,gm,nJ,hm]
 | bK=>simp[gY,fX]
 | bl b=>simp[gY,fX]
 | int i=>simp[gY,fX]
 | str x=>simp[gY,fX]
 | lst ds=>simp[gY,fX]
 | gS ks ds=>simp[gY,fX]
 | exc nm=>simp[gY,fX]
 | ob f fo vs ds=>simp[gY,fX]
 | mp k ds=>simp[gY,fX]
theorem z2w(m n:Nat)(hm:m<=1000)(d:D):tP [d,iD m,iD n]=(b9 (fX m n d)):=by
 by_cases h:∀ ds,d=.tup ds->ds.length<=1000
 ·exact z59 m n d h
 ·cases d with
  | tup ds=>
   have il:ds.length≠m:=λe=>h λeG e'=>by cases e';omega
   have e:fX m n (.tup ds)=false:=by simp[fX,il]
   unfold tP Er;refine dG ?_;rw[e];refine p7 ?_;simp[-ofNat_eq_natCast,gY,gm,nJ,il]
  | _=>exact absurd (λds e=>nomatch e) h
theorem z2l(hr:∀ i,i<n->r i<n):fX n n (aL n r)=true:=by unfold fX aL;simp only[d7,Qc,QI,decide_true,JW];rw[Z3];intro d m;obtain⟨x,hx,rfl⟩:=Qk.mp m;obtain⟨i,hi,rfl⟩:=Qk.mp hx;have:=hr i (Qv.mp hi);show(decide ((0:Int)<=(r i:Int))&&decide ((r i:Int)<(n:Int)))=true;simp;omega
theorem y9m(hn:n<=1000)(d:D):xV [aN n f,d]=(b9 (fX n n d)):=by
 unfold xV LX;have hv:∃ q ρ',aa 1 [t9 n f,some (d,c_ d)]=some (d,q,ρ')/\ρ'[0]? = some ((t9 n f)):=by
  cases hL:d.cR with
  | false=>exact⟨9,[t9 n f,some (d,c_ d)],by simp[-c_,hL],rfl⟩
  | true=>exact⟨0,[t9 n f,some (d,0)],by simp[hL],rfl⟩
 obtain⟨q,ρ',hv,h0⟩:=hv;have M6:cj 0 ρ'=some ((iD n),9,ρ'):=by unfold cj;simp only[h0,iS]
 exact dG (fC (bq (cu (ρ:=[t9 n f,some (d,c_ d)]) hv (cu M6 (bV M6))) rfl (z2w n n hn d)))
theorem M7(hn:n<=1000)(h:ρ[i]? = some (some ((iD n),q))):cL (ae (aa i) ah) ρ=some (cE n,ρ):=by
 have b1:(-1000:Int)<=Int.ofNat n:=by show(-1000:Int)<=n;omega
 have b2:Int.ofNat n<=1000:=by show(n:Int)<=1000;omega
 simp only[cL,ae,aa,ah,h,D.pB,ZC];rw[Qi ⟨b1,b2⟩];rfl
section
variable {n:Nat}{f:Nat->Nat->Nat}
def d9 (n:Nat)(f:Nat->Nat->Nat)(r:Nat->Nat):Bool:=(range n).all λx=>(range n).all λy=>decide (r (f x y)=f (r x) (r y))
theorem jA:d9 n f r=true ↔ ∀ x y,x<n->y<n->r (f x y)=f (r x) (r y):=by unfold d9;rw[L3.range_all];exact⟨λh x y hx hy=>QM (L3.range_all.mp (h x hx) y hy),λh x hx=>L3.range_all.mpr λy hy=>Qr (h x y hx hy)⟩
variable (L:ba n f)
include L
end
section
variable {n:Nat}{f:Nat->Nat->Nat}(L:ba n f)
include L
theorem y46(hr:∀ i,i<n->r i<n):xN [aN n f,aL n r]=(b9 (d9 n f r)):=by
 have hn:n<=1000:=QJ L.hi (by decide);have eB:d9 n f r=((range n).all λx=>(range x).all λy=>decide (r (f x y)=f (r x) (r y))):=by
  rw[Bool.eq_iff_iff,jA,L3.range_all];constructor
  ·intro h x hx;exact L3.range_all.mpr λy hy=>Qr (h x y hx (JJ hy hx))
  ·intro h x y hx hy;rcases Nat.lt_trichotomy x y with c|c|c
   ·have:=QM (L3.range_all.mp (h y hy) x c);rw[L.comm x y hx hy,this,L.comm _ _ (hr y hy) (hr x hx)]
   ·subst c;rw[L.idem x hx,L.idem _ (hr x hx)]
   ·exact QM (L3.range_all.mp (h x hx) y c)
 unfold xN LD;refine dG ?_;have hs:m_ 5 [aN n f,aL n r]=[t9 n f,r9 n r,none,none,none]:=rfl;rw[hs,eB];obtain⟨h1,h2⟩:=xC (pt:=aA 2) (body:=d3 (cL (ae (aa 2) ah)) (aA 3) (aJ (br 4 (dE (aH 0 (aH 1 (aa 2))) (aH 1 (aa 3)))) (dy (bC (e2 dk (aH 1 (dE (aH 0 (aa 2)) (aa 3))) (aa 4))) (bJ (eC (.bl false))) d5))) (d:=.bl false) (q:=9) (cE n) (λρ=>∃ x y z,ρ=[t9 n f,r9 n r,x,y,z]) (λx=>(range x).all λy=>decide (r (f x y)=f (r x) (r y))) [t9 n f,r9 n r,none,none,none] (λx hx ρ ⟨a,b,c,e⟩=>by
  subst e;have fG:x<n:=by rw[eY]at hx;exact hx
  have M8:x<=1000:=by omega
  refine⟨[t9 n f,r9 n r,i9 x,b,c],by rw[show(cE n)[x]=(iD x)by simp[cE]];simp,?_⟩;obtain⟨i1,i2⟩:=xC (pt:=aA 3) (body:=aJ (br 4 (dE (aH 0 (aH 1 (aa 2))) (aH 1 (aa 3)))) (dy (bC (e2 dk (aH 1 (dE (aH 0 (aa 2)) (aa 3))) (aa 4))) (bJ (eC (.bl false))) d5)) (d:=.bl false) (q:=9) (cE x) (λρ=>∃ y z,ρ=[t9 n f,r9 n r,i9 x,y,z]) (λy=>decide (r (f x y)=f (r x) (r y))) [t9 n f,r9 n r,i9 x,b,c] (λy hy ρ ⟨b,c,e⟩=>by
   subst e;have ny:y<x:=by rw[eY]at hy;exact hy
   have gu:y<n:=JJ ny fG;refine⟨[t9 n f,r9 n r,i9 x,i9 y,c],by rw[show(cE x)[y]=(iD y)by simp[cE]];simp,λok=>⟨[t9 n f,r9 n r,i9 x,i9 y,i9 (f (r x) (r y))],?_,⟨_,_,rfl⟩⟩,λno=>?_⟩
   ·have EI:=QM ok;simp[-ofNat_eq_natCast,k_ fG,lU gu,lh (L.cl x y fG gu),lh fG,lh gu,k_ (hr x fG),lU (hr y gu),nJ,EI]
   ·have EJ:=JO no;simp[-ofNat_eq_natCast,k_ fG,lU gu,lh (L.cl x y fG gu),lh fG,lh gu,k_ (hr x fG),lU (hr y gu),nJ,EJ]) ⟨b,c,rfl⟩
  rw[eY]at i1 i2;refine⟨λok=>?_,λno=>(gZ (M7 M8 (i:=2) (q:=9) rfl)).trans (i2 no)⟩;obtain⟨ρ2,e,b',c',rfl⟩:=i1 ok;exact⟨_,(gZ (M7 M8 (i:=2) (q:=9) rfl)).trans e,_,_,_,rfl⟩) ⟨none,none,none,rfl⟩
 rw[eY]at h1 h2;cases h:((range n).all λx=>(range x).all λy=>decide (r (f x y)=f (r x) (r y)))with
 | true=>
  obtain⟨ρ',e,x,y,z,rfl⟩:=h1 h;exact(aU ((gZ (ki hn rfl iS)).trans e)).trans rfl
 | false=>exact p7 ((gZ (ki hn rfl iS)).trans (h2 h))
end
section
variable {n:Nat}{f:Nat->Nat->Nat}(L:ba n f){z:Nat}(hz:z<n)(bz:∀ j,j<n->f z j=j)
include L
theorem j7n:d9 n f (λi=>i)=true:=jA.mpr λ_ _ _ _=>rfl
theorem z4c{v:Nat}(hv:v<n):d9 n f (λ_=>v)=true:=jA.mpr λ_ _ _ _=>(L.idem v hv).symm
theorem j2e{c d:Nat}(ha:a<n)(hb:b<n)(hc:c<n)(hd:d<n):f (f a b) (f c d)=f (f a c) (f b d):=by rw[L.assoc a b _ ha hb (L.cl c d hc hd),<- L.assoc b c d hb hc hd,L.comm b c hb hc,L.assoc c b d hc hb hd,<- L.assoc a c _ ha hc (L.cl b d hb hd)]
theorem z8y{v:Nat}(hv:v<n):d9 n f (λi=>f i v)=true:=jA.mpr λx y hx hy=>by show f (f x y) v=f (f x v) (f y v);rw[j2e L hx hv hy hv,L.idem v hv]
include hz bz
theorem y3m(ns:List Int)(t:Int)(h0:0<=t):∃ g:Nat->Nat,(∀ i,i<n->g i<n)/\d9 n f g=true/\vg [bX ns,.int t,aN n f]=some (aL n g,9):=by
 have hn:n<=1000:=QJ L.hi (by decide);obtain⟨d,hd,hR⟩:=M5 L hz bz ns t h0;have hr:∀ i,i<n->ba.lr n f z d i<n:=λi _=>L.nN hz bz hd i;generalize ba.lr n f z d=r at *
 have hS:=y46 L hr;unfold vg LF;cases hB:d9 n f r with
 | true=>
  rw[hB]at hS;exact⟨r,hr,hB,dG ((aU (dM (bq (ds:=[bX ns,.int t,aN n f]) rfl rfl hR) rfl)).trans (p7 ((rh (yn (bq (ds:=[aN n f,aL n r]) rfl rfl hS))).trans rfl)))⟩
 | false=>
  rw[hB]at hS;obtain⟨v,hv,ev⟩:=lA ns (show 0<=t+17 by omega) L.lo;obtain⟨k,hk,ek⟩:=lA ns (show 0<=t+16 by omega) (show 0<3 by decide);have fin:∃ g:Nat->Nat,(∀ i,i<n->g i<n)/\d9 n f g=true/\da (.lst [aL n (λi=>i),aL n (λ_=>v),aL n (λi=>f i v)]) (Int.ofNat k)=some (aL n g):=by
   match k,hk with
   | 0,_=>exact⟨_,λi hi=>hi,j7n L,rfl⟩
   | 1,_=>exact⟨_,λ_ _=>hv,z4c L hv,rfl⟩
   | 2,_=>exact⟨_,λi hi=>L.cl i v hi hv,z8y L hv,rfl⟩
  obtain⟨g,hg,hgs,uJ⟩:=fin;refine⟨g,hg,hgs,dG ?_⟩;refine(aU (ρ1:=[some (bX ns,0),some (.int t,9),some (aN n f,9),some (aL n r,9),none,none]) (dM (bq (ds:=[bX ns,.int t,aN n f]) rfl rfl hR) rfl)).trans ?_;refine(aU (ρ1:=[some (bX ns,0),some (.int t,9),some (aN n f,9),some (aL n r,9),none,none]) ((lS (yn (bq (ds:=[aN n f,aL n r]) rfl rfl hS))).trans rfl)).trans ?_;refine(aU (ρ1:=[some (bX ns,0),some (.int t,9),some (aN n f,9),some (aL n r,9),some (.int (Int.ofNat v),9),none]) (dM (bq (ds:=[bX ns,.int (t+17),.int (Int.ofNat n)]) (cu (q:=0) rfl (cu (q:=9) rfl (bV (yo rfl iS)))) rfl ev) rfl)).trans ?_;have e1:gH (ae (oA (ae (cj 2) ah)) ah) [some (bX ns,0),some (.int t,9),some (aN n f,9),some (aL n r,9),some (.int (Int.ofNat v),9),none]=some (aL n (λi=>i),9,[some (bX ns,0),some (.int t,9),some (aN n f,9),some (aL n r,9),some (.int (Int.ofNat v),9),none]):=(k9 (bV (AH (ki hn (i:=2) rfl iS)))).trans (by rw[z03];show some (D.tup (ai (range n)),9,_)=some (D.tup (ai ((range n).map λi=>i)),9,_);rw[List.map_id']);have pP:Ag (dF (ae (aa 4) ah)) (cj 2) [some (bX ns,0),some (.int t,9),some (aN n f,9),some (aL n r,9),some (.int (Int.ofNat v),9),none]=some (aL n (λ_=>v),9,[some (bX ns,0),some (.int t,9),some (aN n f,9),some (aL n r,9),some (.int (Int.ofNat v),9),none]):=by
   have b1:(1:Int)<=n:=by have:=L.lo;omega
   have e':(replicate n [D.int (v:Int)]).flatten=ai ((range n).map λ_=>v):=by show(replicate n [D.int (Int.ofNat v)]).flatten=_;simp[ai,ZU,V6]
   simp[iS,b1,hn,aL,e']
  refine(aU (ρ1:=[some (bX ns,0),some (.int t,9),some (aN n f,9),some (aL n r,9),some (.int (Int.ofNat v),9),some (.lst [aL n (λi=>i),aL n (λ_=>v)],1)]) (dM (Bc (cu e1 (bV pP)) (by show 2<=1000;decide)) rfl)).trans ?_;have hc:=fB (k:=1) (tt:=di) (te:=dE (aH 2 (aa 6)) (aa 4)) (deep:=false) (ki hn (i:=2) (ρ:=[some (bX ns,0),some (.int t,9),some (aN n f,9),some (aL n r,9),some (.int (Int.ofNat v),9),some (.lst [aL n (λi=>i),aL n (λ_=>v)],1)]) rfl iS) (tG (i:=6) rfl (λ_=>true) (λw=>.int (Int.ofNat (f w v))) (λ_=>9) (λj hj=>rfl) (λj hj _=>by simp[-ofNat_eq_natCast,k_ (f:=f) hj,lU (f:=f) (i:=j) hv]))
  rw[show(range n).filter (λ_=>true)=range n by simp,<- tF]at hc;refine(aU (ρ1:=[some (bX ns,0),some (.int t,9),some (aN n f,9),some (aL n r,9),some (.int (Int.ofNat v),9),some (.lst [aL n (λi=>i),aL n (λ_=>v),aL n (λi=>f i v)],1)]) (u_ (ds:=[aL n (λi=>i),aL n (λ_=>v)]) rfl (bV (k9 (bV hc))) rfl (by show 2<=1000;decide) rfl)).trans ?_;exact fC (rG (bq (ds:=[bX ns,.int (t+16),.int (Int.ofNat 3)]) rfl rfl ek) rfl uJ rfl)
end
theorem z96(h:ρ[i]? = some (some (d,c_ d))):aa i ρ=some (d,c_ d,ρ):=by
 unfold aa;rw[h];cases hL:d.cR with
 | false=>simp[hL]
 | true=>simp[hL]
theorem M9(ds:List D)(hi:ρ.length=i)(v:D->D)(q:D->Nat)
  (he:∀ d,d∈ds->te (ρ++[some (d,c_ d)])=some (v d,q d,ρ++[some (d,c_ d)])) :
  jH 1 (aA i) di te false ds ρ=some (ds.map v,ρ):=by
 have h:=p6 (k:=1) (pt:=aA i) (tt:=di) (te:=te) (deep:=false) ds (λ_=>ρ) (λ_=>true) (λj=>v (ds.getD j .bK)) (λj hj=>?_)
 ·rw[show(range ds.length).filter (λ_=>true)=range ds.length by simp]at h;rw[h];have e:(range ds.length).map (λj=>v (ds.getD j .bK))=ds.map v:=by
   apply Zo;intro k;by_cases hk:k<ds.length
   ·simp[hk]
   ·rw[QG (by simp;omega),QG (by simp;omega)]
  rw[e]
 ·have hg:ds.getD j .bK=ds[j]:=by simp[hj]
  refine⟨ρ++[some (ds[j],c_ ds[j])],_,?_,rfl,?_⟩
  ·unfold aA;rw[Qi (by simp[hi])];subst hi;simp[-c_,YX]
  ·rw[Qi rfl,hg];exact⟨q _,_,he _ (QW hj),by simp,by simp⟩
theorem z7z{it:kU}(hi:ρ.length=i)(hit:it ρ=some (ds,ρ))(b:D->Bool)(q:D->Nat)
  (he:∀ d,d∈ds->te (ρ++[some (d,c_ d)])=some (.bl (b d),q d,ρ++[some (d,c_ d)])) :
  eB qQ (ae (dz 1 it (aA i) di te false) ah) ρ=some (.bl (ds.all b),9,ρ):=by refine K_ (bV (fB (deep:=false) hit (M9 ds hi (λd=>.bl (b d)) q he))) ?_;simp only[qQ,Ht,ZZ];simp[V2,J1]
def oT (ds:List D)(i:Nat):Nat:=match ds[i]? with
 | some (.int k)=>k.toNat
 | _=>0
theorem M_(h:fX m n (.tup ds)=true):ds.length=m/\∀ i,i<m->ds[i]? = some (iD (oT ds i))/\oT ds i<n:=by
 unfold fX at h;simp only[ZF,ZB,Z3]at h;obtain⟨hl,ha⟩:=h;refine⟨hl,λi hi=>?_⟩;have bS:i<ds.length:=by omega
 have hm:=ha ds[i] (QW bS);have hg:ds[i]? = some ds[i]:=Qb bS;unfold oT;rw[hg];cases e:ds[i]with
 | int k=>
  rw[e]at hm;unfold iU at hm;simp only[ZF,ZB]at hm;refine⟨?_,?_⟩
  ·show some (D.int k)=some (D.int ((k.toNat:Nat):Int));rw[Jg hm.1]
  ·show k.toNat<n;omega
 | _=>rw[e]at hm;cases hm
theorem j73(h:fX m n (.tup ds)=true):D.tup ds=aL m (oT ds):=by
 obtain⟨hl,key⟩:=M_ h;unfold aL;congr 1;apply Zo;intro i;by_cases hi:i<m
 ·rw[(key i hi).1,AI,Qm,Q9 hi];rfl
 ·rw[QG (by omega),QG (by simp[d7];omega)]
theorem z8r(h:fX n n (.tup ds)=true):D.tup ds=aL n (oT ds)/\∀ i,i<n->oT ds i<n:=⟨j73 h,λi hi=>((M_ h).2 i hi).2⟩
theorem z2j(hi:i<n):oT (ai ((range n).map r)) i=r i:=by unfold oT;rw[AI,Qm,Q9 hi];rfl
def rr (n:Nat)(f:Nat->Nat->Nat)(d:D):Bool:=match d with
 | .tup ds=>fX n n (.tup ds)&&qe n f (oT ds)
 | _=>false
theorem y89(h:∀ i,i<n->r i=s i):qe n f r=qe n f s:=by
 rw[Bool.eq_iff_iff,EH,EH];constructor
 ·intro k y x hy hx e;rw[<- h x hx,<- h y hy];exact k y x hy hx e
 ·intro k y x hy hx e;rw[h x hx,h y hy];exact k y x hy hx e
theorem j2h(hr:∀ i,i<n->r i<n):rr n f (aL n r)=qe n f r:=by have h:=z2l hr;show(fX n n (aL n r)&&qe n f (oT (ai ((range n).map r))))=_;rw[h,JW];exact y89 λi hi=>z2j hi
theorem y8i(hn:n<=1000)(d:D):xY [aN n f,d]=(b9 (rr n f d)):=by
 have h1:=y9m (n:=n) (f:=f) hn d;have v1:aa 1 [t9 n f,some (d,c_ d)]=some (d,c_ d,[t9 n f,some (d,c_ d)]):=z96 rfl;have v0:aa 0 [t9 n f,some (d,c_ d)]=some (aN n f,9,[t9 n f,some (d,c_ d)]):=rfl;have c1:=bq (n:=2) (cu v0 (bV v1)) rfl h1;unfold xY L6;refine dG (fC (ρ1:=[t9 n f,some (d,c_ d)]) ?_);show sN _ _ [t9 n f,some (d,c_ d)]=_;unfold sN;rw[c1];cases hR:fX n n d with
 | false=>
  have:rr n f d=false:=by cases d<;>simp_all [rr]
  simp[this]
 | true=>
  cases d with
  | tup ds=>
   obtain⟨e,hb⟩:=z8r hR;have r:=z7b (f:=f) hn hb;rw[<- e]at r;have c2:=bq (n:=2) (cu v0 (bV v1)) rfl r;simp only[ZC,c2];simp[rr,hR]
  | _=>cases hR
structure ck where
 p:Nat
 W:List (Nat×Nat×(Nat->Nat))
 B:List (Nat×Nat)
def bw (n:Nat)(w:Nat×Nat×(Nat->Nat)):D:=.tup [iD w.1,iD w.2.1,aL n w.2.2]
def cm (b:Nat×Nat):D:=.tup [iD b.1,iD b.2]
def bF (n:Nat)(C:ck):D:=.tup [iD C.p,.tup (C.W.map (bw n)),.tup (C.B.map cm)]
abbrev c9 (n:Nat)(C:ck):OD:=some (bF n C,9)
def Bd (n:Nat)(f:Nat->Nat->Nat)(p:Nat)(w:Nat×Nat×(Nat->Nat)):Prop:=w.1<p/\w.2.1<p/\(∀ i,i<n->w.2.2 i<n)/\∀ x y,x<n->y<n->f x y=y->f (w.2.2 x) (w.2.2 y)=w.2.2 y
def EM (n:Nat)(p:Nat)(b:Nat×Nat):Prop:=b.1<p/\b.2<n
structure ck.Ok (n:Nat) (f:Nat->Nat->Nat) (C:ck):Prop where
 p1:1<=C.p
 p8:C.p<=8
 tV:C.W.length<=60
 yq:C.B.length<=60
 ws:∀ w∈C.W,Bd n f C.p w
 bs:∀ b∈C.B,EM n C.p b
@[simp] theorem j53{C:ck}:(bF n C).cR=false:=rfl
@[simp] theorem j8y{w:Nat×Nat×(Nat->Nat)}:(bw n w).cR=false:=rfl
@[simp] theorem j93{b:Nat×Nat}:(cm b).cR=false:=rfl
theorem tW(hm:m<=1000){fe:aF}{ρ':aW}(h:fe ρ=some ((iD m),q,ρ')):cL (ae fe ah) ρ=some (cE m,ρ'):=by
 have b1:(-1000:Int)<=Int.ofNat m:=by show(-1000:Int)<=m;omega
 have b2:Int.ofNat m<=1000:=by show(m:Int)<=1000;omega
 simp only[cL,ae,ah,h];rw[Qi ⟨b1,b2⟩];rfl
theorem EN{g:cK}(h:g ρ=some (ds,ρ1))(hl:ds.length<=1000):dF g ρ=some (.tup ds,9,ρ1):=by unfold dF;rw[h];exact Qi hl
theorem EO{k:Int}(hk:k=2\/k=22\/k=50)(v:Nat):ky (.int k) (iD v)=some (.int (k*Int.ofNat v)):=by rcases hk with rfl|rfl|rfl<;>simp[-ofNat_eq_natCast]
abbrev jg (ns:List Int)(t:Int)(n:Nat)(f:Nat->Nat->Nat)(b:Bool)(w p a x c g h:OD):aW:=[n0 ns,some (.int t,9),t9 n f,b9 b,p,w,a,x,c,g,h]
section
variable {n:Nat}{f:Nat->Nat->Nat}(L:ba n f){z:Nat}(hz:z<n)(bz:∀ j,j<n->f z j=j)(ns:List Int){t:Int}(h0:0<=t){b:Bool}{p:Nat}(hp:1<=p)
include L hz bz h0 hp
theorem z33(m:Nat)(hm:m<=7) :
  ∃ W:List (Nat×Nat×(Nat->Nat)),W.length=m/\(∀ w∈W,Bd n f p w/\(b=true->d9 n f w.2.2=true))/\∃ a x c,fP (aA 6) Eo (cE m) (jg ns t n f b (some (.lst [],1)) ((i9 p)) none none none none none)=some (.nx (jg ns t n f b (some (.lst (W.map (bw n)),1)) ((i9 p)) a x c none none)):=by
 obtain⟨ρ',e,W,hl,aG,a,x,c,rfl⟩:=kh (pt:=aA 6) (body:=Eo) (cE m) (λi ρ=>∃ W:List (Nat×Nat×(Nat->Nat)),W.length=i/\(∀ w∈W,Bd n f p w/\(b=true->d9 n f w.2.2=true))/\∃ a x c,ρ=jg ns t n f b (some (.lst (W.map (bw n)),1)) ((i9 p)) a x c none none) (jg ns t n f b (some (.lst [],1)) ((i9 p)) none none none none none) (λi hi ρ aj=>by
  obtain⟨W,hl,aG,a,x,c,rfl⟩:=aj;have bS:i<m:=by rw[eY]at hi;exact hi
  obtain⟨y,hy⟩:∃ y:Int,y=t+10+22*Int.ofNat i:=⟨_,rfl⟩;have hy0:0<=y:=by have:Int.ofNat i=(i:Int):=rfl;omega
  obtain⟨d,hd,hR⟩:=M5 L hz bz ns (y+2) (by omega);obtain⟨r2,hr1,uW,hR2⟩:=y3m L hz bz ns (y+2) (by omega);obtain⟨s,hs,es⟩:=lA ns hy0 hp;obtain⟨g,hg,eg⟩:=lA ns (show 0<=y+1 by omega) hp;have hr:∃ r,Bd n f p (s,g,r)/\(b=true->d9 n f r=true)/\dy (gT (aa 3)) (br 8 (aK vg 3 (ae (aa 0) (ae (e2 cU (aa 7) (eC (.int 2))) (ae (aa 2) ah))))) d5 (jg ns t n f b (some (.lst (W.map (bw n)),1)) ((i9 p)) ((i9 i)) (some (.int y,9)) ((r9 n (ba.lr n f z d))) none none)=some (.nx (jg ns t n f b (some (.lst (W.map (bw n)),1)) ((i9 p)) ((i9 i)) (some (.int y,9)) ((r9 n r)) none none)):=by
   cases b with
   | false=>exact⟨_,⟨hs,hg,λi _=>L.nN hz bz hd i,λx y hx hy e=>L.nP hz bz hd hx hy e⟩,(λh=>nomatch h),(lS (yn (f:=aa 3) (b:=false) (q:=9) rfl)).trans rfl⟩
   | true=>exact⟨r2,⟨hs,hg,hr1,λx y hx hy e=>by rw[<- jA.mp uW x y hx hy,e]⟩,λ_=>uW,(rh (yn (f:=aa 3) (b:=true) (q:=9) rfl)).trans (dM (bq (ds:=[bX ns,.int (y+2),aN n f]) rfl rfl hR2) rfl)⟩
  obtain⟨r,ok,sp,er⟩:=hr;refine⟨jg ns t n f b (some (.lst (W.map (bw n)),1)) ((i9 p)) ((i9 i)) x c none none,jg ns t n f b (some (.lst ((W++[(s,g,r)]).map (bw n)),1)) ((i9 p)) ((i9 i)) (some (.int y,9)) ((r9 n r)) none none,by rw[rF];rfl,.inl ?_,W++[(s,g,r)],by rw[Qn,hl];rfl,λw hw=>?_,_,_,_,rfl⟩
  ·rw[QU];refine(aU (ρ1:=jg ns t n f b (some (.lst (W.map (bw n)),1)) ((i9 p)) ((i9 i)) (some (.int y,9)) c none none) (dM (dN (q:=9) rfl (dN (q:=9) (q':=9) rfl rfl (EO (.inr (.inl rfl)) i)) rfl) (by rw[hy];rfl))).trans ((aU (ρ1:=jg ns t n f b (some (.lst (W.map (bw n)),1)) ((i9 p)) ((i9 i)) (some (.int y,9)) ((r9 n (ba.lr n f z d))) none none) (dM (bq (ds:=[bX ns,.int (y+2),aN n f]) rfl rfl hR) rfl)).trans ((aU er).trans ?_));exact u_ rfl (bV (EN (cu (bq (ds:=[bX ns,.int y,iD p]) rfl rfl es) (cu (bq (ds:=[bX ns,.int (y+1),iD p]) rfl rfl eg) (bV (q:=9) rfl))) (by show 3<=1000;decide))) rfl (by rw[Qc];omega) rfl
  ·rcases QO.mp hw with h|h
   ·exact aG w h
   ·rw[QF.mp h];exact⟨ok,sp⟩) ⟨[],rfl,(λ_ z=>nomatch z),none,none,none,rfl⟩
 rw[eY]at hl;exact⟨W,hl,aG,a,x,c,e⟩
theorem z32(m:Nat)(hm:m<=3)(W a x c:OD) :
  ∃ B:List (Nat×Nat),B.length=m/\(∀ w∈B,EM n p w)/\∃ a' h,fP (aA 6) En (cE m) (jg ns t n f b W ((i9 p)) a x c (some (.lst [],1)) none)=some (.nx (jg ns t n f b W ((i9 p)) a' x c (some (.lst (B.map cm),1)) h)):=by
 obtain⟨ρ',e,B,hl,aG,a',h,rfl⟩:=kh (pt:=aA 6) (body:=En) (cE m) (λi ρ=>∃ B:List (Nat×Nat),B.length=i/\(∀ w∈B,EM n p w)/\∃ a h,ρ=jg ns t n f b W ((i9 p)) a x c (some (.lst (B.map cm),1)) h) (jg ns t n f b W ((i9 p)) a x c (some (.lst [],1)) none) (λi hi ρ aj=>by
  obtain⟨B,hl,aG,a,h,rfl⟩:=aj;have bS:i<m:=by rw[eY]at hi;exact hi
  have hii:Int.ofNat i=(i:Int):=rfl;obtain⟨v,hv,ev⟩:=lA ns (show 0<=t+3+2*Int.ofNat i by omega) (show 0<n by have:=L.lo;omega);obtain⟨g,hg,eg⟩:=lA ns (show 0<=t+4+2*Int.ofNat i by omega) hp;refine⟨jg ns t n f b W ((i9 p)) ((i9 i)) x c (some (.lst (B.map cm),1)) h,jg ns t n f b W ((i9 p)) ((i9 i)) x c (some (.lst ((B++[(g,v)]).map cm),1)) ((i9 v)),by rw[rF];rfl,.inl ?_,B++[(g,v)],by rw[Qn,hl];rfl,λw hw=>?_,_,_,rfl⟩
  ·rw[QU];refine(aU (dM (bq (ds:=[bX ns,.int (t+3+2*Int.ofNat i),iD n]) (cu (q:=0) rfl (cu (dN (q:=9) rfl (dN (q:=9) (q':=9) rfl rfl (EO (.inl rfl) i)) rfl) (bV (yo rfl iS)))) rfl ev) rfl)).trans ?_;exact u_ rfl (bV (EN (cu (bq (ds:=[bX ns,.int (t+4+2*Int.ofNat i),iD p]) (cu (q:=0) rfl (cu (dN (q:=9) rfl (dN (q:=9) (q':=9) rfl rfl (EO (.inl rfl) i)) rfl) (bV (q:=9) rfl))) rfl eg) (bV (q:=9) rfl)) (by show 2<=1000;decide))) rfl (by rw[Qc];omega) rfl
  ·rcases QO.mp hw with h|h
   ·exact aG w h
   ·rw[QF.mp h];exact⟨hg,hv⟩) ⟨[],rfl,(λ_ z=>nomatch z),a,none,rfl⟩
 rw[eY]at hl;exact⟨B,hl,aG,a',h,e⟩
end
section
variable {n:Nat}{f:Nat->Nat->Nat}(L:ba n f){z:Nat}(hz:z<n)(bz:∀ j,j<n->f z j=j)
include L hz bz
theorem z08(ns:List Int)(t:Int)(h0:0<=t)(b:Bool):∃ C:ck,C.Ok n f/\(b=true->∀ w∈C.W,d9 n f w.2.2=true)/\C.p<=5/\C.W.length<=7/\C.B.length<=3/\vh [bX ns,.int t,aN n f,.bl b]=(c9 n C):=by
 obtain⟨p0,Ir,ep⟩:=lA ns h0 (n:=5) (by decide);obtain⟨mw,hmw,ew⟩:=lA ns (show 0<=t+1 by omega) (n:=8) (by decide);obtain⟨mb,hmb,eb⟩:=lA ns (show 0<=t+2 by omega) (n:=4) (by decide);obtain⟨p,hp⟩:∃ p:Nat,p=p0+1:=⟨_,rfl⟩;have mf:(1:Int)+Int.ofNat p0=Int.ofNat p:=by show(1:Int)+(p0:Int)=(p:Int);omega
 obtain⟨W,hWl,yr,a,x,c,eW⟩:=z33 L hz bz ns h0 (b:=b) (p:=p) (by omega) mw (by omega);obtain⟨B,hBl,ER,a',h,eB⟩:=z32 L hz bz ns h0 (b:=b) (p:=p) (by omega) mb (by omega) (some (.lst (W.map (bw n)),1)) a x c;refine⟨⟨p,W,B⟩,⟨by show 1<=p;omega,by show p<=8;omega,by show W.length<=60;omega,by show B.length<=60;omega,λw hw=>(yr w hw).1,ER⟩,λhb w hw=>(yr w hw).2 hb,by show p<=5;omega,by show W.length<=7;omega,by show B.length<=3;omega,?_⟩;unfold vh LH;refine dG ?_;show aJ _ _ (jg ns t n f b none none none none none none none)=_;refine(aU (dM (dN (q:=9) rfl (bq (ds:=[bX ns,.int t,iD 5]) rfl rfl ep) (by show some (D.int ((1:Int)+Int.ofNat p0))=_;rw[mf])) rfl)).trans ?_;refine(aU (ρ1:=jg ns t n f b (some (.lst [],1)) ((i9 p)) none none none none none) rfl).trans ?_;refine(aU ((gZ (tW (m:=mw) (by omega) (bq (ds:=[bX ns,.int (t+1),iD 8]) rfl rfl ew))).trans eW)).trans ?_;refine(aU (ρ1:=jg ns t n f b (some (.lst (W.map (bw n)),1)) ((i9 p)) a x c (some (.lst [],1)) none) rfl).trans ?_;refine(aU ((gZ (tW (m:=mb) (by omega) (bq (ds:=[bX ns,.int (t+2),iD 4]) rfl rfl eb))).trans eB)).trans ?_;exact fC (EN (cu (q:=9) rfl (cu (k9 (bV (lz rfl))) (bV (k9 (bV (lz rfl)))))) (by show 3<=1000;decide))
theorem y6w(ns:List Int)(t:Int)(h0:0<=t):∃ C:ck,C.Ok n f/\(∀ w∈C.W,d9 n f w.2.2=true)/\C.p<=5/\C.W.length<=7/\C.B.length<=3/\vh [bX ns,.int t,aN n f,.bl true]=(c9 n C):=by obtain⟨C,h1,h2,h3⟩:=z08 L hz bz ns t h0 true;exact⟨C,h1,h2 rfl,h3⟩
end
def tX (b:Nat×Nat):lX:=(b.1,λ_=>b.2)
def yt (w:Nat×Nat×(Nat->Nat)):lX:=(w.2.1,λv=>w.2.2 (gv v w.1))
def iM (C:ck):List lX:=C.B.map tX++C.W.map yt
section
variable {n:Nat}{f:Nat->Nat->Nat}(L:ba n f){C:ck}(hC:C.Ok n f)
include L hC
theorem ES:∀ s∈iM C,lq n C.p f s:=λs hs=>by
 unfold iM at hs;rcases QO.mp hs with h|h
 ·obtain⟨b,hb,rfl⟩:=Qk.mp h;have k:=hC.bs b hb;exact⟨k.1,λ_ _=>k.2,λ_ _ _ _ _=>L.idem _ k.2⟩
 ·obtain⟨w,hw,rfl⟩:=Qk.mp h;have k:=hC.ws w hw;exact⟨k.2.1,λv hv=>k.2.2.1 _ (hv.gv k.1),λu v hu hv e=>k.2.2.2 _ _ (hu.gv k.1) (hv.gv k.1) (e _ k.1)⟩
end
abbrev Sn:=Bool×Nat
def bG (s:Sn):D:=.tup [.str (if s.1 then "begin" else "way"),iD s.2]
@[simp] theorem j6d{s:Sn}:(bG s).cR=false:=rfl
def okN (C:ck)(s:Sn):Prop:=s.2<(if s.1 then C.B.length else C.W.length)
def eL (C:ck)(s:Sn):lX:=if s.1 then tX (C.B.getD s.2 (0,0))else yt (C.W.getD s.2 (0,0,id))
def oU (C:ck):List Sn:=(range C.B.length).map (λk=>(true,k))++(range C.W.length).map (λk=>(false,k))
theorem j2i(C:ck):∀ s∈oU C,okN C s:=λs hs=>by
 unfold oU at hs;rcases QO.mp hs with h|h
 ·obtain⟨k,hk,rfl⟩:=Qk.mp h;exact Qv.mp hk
 ·obtain⟨k,hk,rfl⟩:=Qk.mp h;exact Qv.mp hk
theorem Na{α β:Type}(l:List α)(d:α)(g:α->β):(range l.length).map (λk=>g (l.getD k d))=l.map g:=by
 apply Zo;intro k;by_cases hk:k<l.length
 ·simp[hk]
 ·rw[QG (by simp;omega),QG (by simp;omega)]
theorem z72(C:ck):(oU C).map (eL C)=iM C:=by unfold oU iM;rw[QU,QV,QV,<- Na C.B (0,0) tX,<- Na C.W (0,0,id) yt];rfl
theorem ET{C:ck}{s:Sn}(h:okN C s):eL C s∈iM C:=by
 unfold okN at h;unfold eL iM;cases hb:s.1 with
 | true=>
  rw[hb]at h;have h':s.2<C.B.length:=h;refine Q2 _ (Qk.mpr ⟨C.B.getD s.2 (0,0),?_,rfl⟩);rw[Qg,Qb h'];exact QW h'
 | false=>
  rw[hb]at h;have h':s.2<C.W.length:=h;refine Qu _ (Qk.mpr ⟨C.W.getD s.2 (0,0,id),?_,rfl⟩);rw[Qg,Qb h'];exact QW h'
theorem z6z:dS (.str "begin") (.str "begin")=some (.bl true):=by
 have h:fQ (.str "begin")=true:=by decide +kernel
 unfold dS;rw[Qi ⟨h,h⟩];rfl
theorem j55:dS (.str "way") (.str "begin")=some (.bl false):=by
 have h:fQ (.str "begin")=true:=by decide +kernel
 have h':fQ (.str "way")=true:=by decide +kernel
 have e:pJ (.str "way") (.str "begin")=false:=by decide +kernel
 unfold dS;rw[Qi ⟨h',h⟩,e]
theorem j61(hp:p<v.length):L3.pR (ai v) none (some (Int.ofNat p))=ai (v.take p):=by
 unfold L3.pR;have e1:HT.bH (ai v).length 0 none=0:=rfl;have e2:HT.bH (ai v).length (ai v).length (some (Int.ofNat p))=p:=by
  rw[d7];have:¬ ((p:Int)<0):=by omega
  simp[HT.bH,this];omega
 rw[e1,e2,List.drop_zero,Nat.sub_zero];simp only[ai,Uu]
theorem z7a(hp:p<v.length):L3.pR (ai v) (some (Int.ofNat p+1)) none=ai (v.drop (p+1)):=by
 unfold L3.pR;have e1:HT.bH (ai v).length 0 (some (Int.ofNat p+1))=p+1:=by
  rw[d7];have:¬ ((p:Int)+1<0):=by omega
  simp[HT.bH,this];omega
 have e2:HT.bH (ai v).length (ai v).length none=(ai v).length:=rfl;rw[e1,e2,Yx (by rw[Z1];exact Qj _)];simp only[ai,Uv]
theorem j35(hp:p<v.length):ai (v.take p)++[iD x]++ai (v.drop (p+1))=ai (v.set p x):=by rw[List.set_eq_take_append_cons_drop,Qi hp];simp[ai]
section
variable {n:Nat}{f:Nat->Nat->Nat}(L:ba n f){C:ck}(hC:C.Ok n f)
include L hC
theorem xh(hv:Vn n C.p v){s:Sn}(hs:okN C s):ye [bF n C,.tup (ai v),bG s]=some (.tup [.int (Int.ofNat (eL C s).1),iD ((eL C s).2 v)],9):=by
 obtain⟨b,k⟩:=s;unfold okN at hs;unfold ye MA;have c1:da (bF n C) 1=some (.tup (C.W.map (bw n))):=rfl;have c2:da (bF n C) 2=some (.tup (C.B.map cm)):=rfl;cases b with
 | true=>
  have hk:k<C.B.length:=hs;have s0:da (bG (true,k)) 0=some (.str "begin"):=rfl;have s1:da (bG (true,k)) 1=some (iD k):=rfl;have e:da (.tup (C.B.map cm)) (Int.ofNat k)=some (cm (C.B.getD k (0,0))):=xy (by rw[Qm,Qb hk];simp[hk]);have ik:eL C (true,k)=tX (C.B.getD k (0,0)):=rfl;rw[ik];generalize C.B.getD k (0,0)=b at *
  generalize bG (true,k)=sd at *
  have hb:cm b=.tup [.int (Int.ofNat (tX b).1),iD ((tX b).2 v)]:=rfl;rw[<- hb];simp[-ofNat_eq_natCast,s0,s1,c2,e,z6z]
 | false=>
  have hk:k<C.W.length:=hs;have s0:da (bG (false,k)) 0=some (.str "way"):=rfl;have s1:da (bG (false,k)) 1=some (iD k):=rfl;have e:da (.tup (C.W.map (bw n))) (Int.ofNat k)=some (bw n (C.W.getD k (0,0,id))):=xy (by rw[Qm,Qb hk];simp[hk]);have ik:eL C (false,k)=yt (C.W.getD k (0,0,id)):=rfl;have hw:C.W.getD k (0,0,id)∈C.W:=by rw[Qg,Qb hk];exact QW hk
  have ok:=hC.ws _ hw;rw[ik];generalize C.W.getD k (0,0,id)=w at *
  have w0:da (bw n w) 0=some (iD w.1):=rfl;have w1:da (bw n w) 1=some (iD w.2.1):=rfl;have w2:da (bw n w) 2=some (aL n w.2.2):=rfl;have a0:=va (v:=v) (i:=w.1) (by rw[hv.len];exact ok.1);have a1:=lh (r:=w.2.2) (hv.gv ok.1);have xa:bG (false,k)=bG (false,k):=rfl;generalize hsd:bG (false,k)=sd at *
  have hL:sd.cR=false:=by rw[<- hsd];rfl
  show _=some (D.tup [iD w.2.1,iD (w.2.2 (gv v w.1))],9);generalize hwt:bw n w=wt at *
  have hL2:wt.cR=false:=by rw[<- hwt];rfl
  simp[-ofNat_eq_natCast,s0,s1,c1,e,j55,w0,w1,w2,a0,a1,hL,hL2]
theorem z62(hv:Vn n C.p v){s:Sn}(hs:okN C s):yf [aN n f,bF n C,.tup (ai v),bG s]=(v9 (d8 f v (eL C s))):=by
 have ok:=ES L hC _ (ET hs);have hp:=xh L hC hv hs;have hx:=ok.lt v hv;have hg:=hv.gv ok.pl;have cA:(eL C s).1<v.length:=by rw[hv.len];exact ok.pl
 have tY:=hC.p8;have hl:=hv.len;unfold d8;generalize (eL C s).1=g at *
 generalize (eL C s).2 v=x at *
 have a0:=va cA;have a1:=k_ (f:=f) hg;have a2:=lU (f:=f) (i:=gv v g) hx;have s1:=j61 cA;have s2:=z7a cA;have s3:=j35 (x:=f (gv v g) x) cA;have l1:(ai (v.take g)).length=g:=by rw[d7,Zi];omega
 have l2:(ai (v.drop (g+1))).length=v.length-(g+1):=by rw[d7,Z1]
 unfold yf MC;refine dG ?_;show aJ _ _ [t9 n f,c9 n C,v9 v,some (bG s,9),none,none,none]=_;refine(aU (ρ1:=[t9 n f,c9 n C,v9 v,some (bG s,9),some (.tup [iD g,iD x],9),none,none]) (by simp[-ofNat_eq_natCast,hp])).trans ?_;have t0:da (.tup [iD g,iD x]) 0=some (iD g):=rfl;have t1:da (.tup [iD g,iD x]) 1=some (iD x):=rfl;refine(aU (ρ1:=[t9 n f,c9 n C,v9 v,some (bG s,9),some (.tup [iD g,iD x],9),i9 g,none]) (by simp[-ofNat_eq_natCast,t0])).trans ?_;refine(aU (ρ1:=[t9 n f,c9 n C,v9 v,some (bG s,9),some (.tup [iD g,iD x],9),i9 g,i9 (f (gv v g) x)]) (by simp[-ofNat_eq_natCast,a0,a1,a2,t1])).trans ?_;rw[<- s3];have m1:(ai (v.take g)).length+1<=1000:=by omega
 have m2:(ai (v.take g)).length+1+(ai (v.drop (g+1))).length<=1000:=by omega
 generalize ai (v.take g)=u1 at *
 generalize ai (v.drop (g+1))=u2 at *
 have m1':u1.length<=999:=by omega
 simp[-ofNat_eq_natCast,s1,s2,m1,m1',m2]
structure h_ (n:Nat) (f:Nat->Nat->Nat) (p:Nat) (l:List lX) (v u:List Nat):Prop where
 V:Vn n p u
 cl:mB f l u
 up:g_ f p v u
 le:∀ a,Vn n p a->mB f l a->g_ f p v a->g_ f p u a
abbrev R8 (n:Nat)(f:Nat->Nat->Nat)(C:ck)(l:List Sn)(v:List Nat)(R:List D)(a x y:OD):aW:=[t9 n f,c9 n C,some (.lst (l.map bG),0),v9 v,some (.lst R,1),a,x,y]
theorem z9v(hv:Vn n C.p v){l:List Sn}(hl:∀ s∈l,okN C s)(hlen:l.length<=1000) :
  ∃ (u:List Nat) (R:List D),h_ n f C.p (l.map (eL C)) v u/\yg [aN n f,bF n C,.lst (l.map bG),.tup (ai v)]=some (.tup [.tup (ai u),.lst R],9):=by
 have tY:=hC.p8;have hn8:=L.hi;have hmu:=ba.xF (f:=f) hv;have hmu':C.p*n<=8*16:=Nat.mul_le_mul tY hn8;have hS:∀ t∈l.map (eL C),lq n C.p f t:=λt ht=>by obtain⟨s,hs,rfl⟩:=Qk.mp ht;exact ES L hC _ (ET (hl s hs))
 have round:∀ (m:List Sn),(∀ s∈m,s∈l)->∀ (w:List Nat) (R:List D) (a x y:OD),Vn n C.p w->ba.mu n f w+R.length<=ba.mu n f v->
   ∃ R' x' y',ba.mu n f ((m.map (eL C)).foldl (d8 f) w)+R'.length<=ba.mu n f v/\fP (aA 6) Ew (m.map bG) (R8 n f C l w R a x y)=some (.nx (R8 n f C l ((m.map (eL C)).foldl (d8 f) w) R' a x' y')):=by
  intro m;induction m with
  | nil=>intro _ w R a x y _ h;exact⟨R,x,y,h,rfl⟩
  | cons s m ih=>
   intro hm w R a x y hw h;have hs:=hl s (hm s Qh);have ok:=ES L hC _ (ET hs);have fG:=L.jP ok hw;have hb:=z62 L hC hw hs;have hd:=La (d8 f w (eL C s)) w;have one:∃ R',ba.mu n f (d8 f w (eL C s))+R'.length<=ba.mu n f v/\Ew (R8 n f C l w R a (some (bG s,9)) y)=some (.nx (R8 n f C l (d8 f w (eL C s)) R' a (some (bG s,9)) ((v9 (d8 f w (eL C s)))))):=by
    by_cases he:d8 f w (eL C s)=w
    ·rw[Qr he]at hd;refine⟨R,by rw[he];exact h,(aU (dM (bq (ds:=[aN n f,bF n C,.tup (ai w),bG s]) rfl rfl hb) rfl)).trans ((aU ((lS (fg (dN (q:=9) (q':=9) rfl rfl hd))).trans rfl)).trans rfl)⟩
    ·rw[Qy he]at hd;have dR:=L.rl hw fG (L.kF ok hw) (λz=>he z.symm);refine⟨R++[bG s],by rw[Qn];show _+(R.length+1)<=_;omega,(aU (dM (bq (ds:=[aN n f,bF n C,.tup (ai w),bG s]) rfl rfl hb) rfl)).trans ((aU ((rh (fg (dN (q:=9) (q':=9) rfl rfl hd))).trans (u_ (d:=bG s) rfl (bV (q:=9) rfl) rfl (by omega) rfl))).trans rfl)⟩
   obtain⟨R1,h1,e1⟩:=one;obtain⟨R2,x2,y2,h2,e2⟩:=ih (λt ht=>hm t (Qf _ ht)) _ R1 a _ _ fG h1;refine⟨R2,x2,y2,h2,?_⟩;rw[Qx];unfold fP;rw[show aA 6 (bG s) (R8 n f C l w R a x y)=some (R8 n f C l w R a (some (bG s,9)) y)from rfl];simp only[e1];exact e2
 obtain⟨ρ',e,u,R,x,y,hu,rfl⟩:=Le (c:=bC (e2 dk (aa 3) (aa 5))) (b:=Ex)
  (Q:=λρ=>∃ u R x y,h_ n f C.p (l.map (eL C)) v u/\ρ=R8 n f C l u R ((v9 u)) x y)
  (λk ρ=>∃ w R x y a,Vn n C.p w/\g_ f C.p v w/\(∀ x,Vn n C.p x->mB f (l.map (eL C)) x->g_ f C.p v x->g_ f C.p w x)/\ba.mu n f w+R.length<=ba.mu n f v /\
    ((a=.bK/\k=ba.mu n f w+1)\/∃ y,a=.tup (ai y)/\Vn n C.p y/\w=(l.map (eL C)).foldl (d8 f) y/\k=ba.mu n f w+(if y=w then 0 else 1))/\ρ=R8 n f C l w R (some (a,9)) x y)
  (k:=ba.mu n f v+1) (ρ:=R8 n f C l v [] (some (.bK,9)) none none) (by omega) ⟨v,[],none,none,.bK,hv,L.jN hv,λx _ _ h=>h,Qj _,.inl ⟨rfl,rfl⟩,rfl⟩ (λk ρ aj=>by
   obtain⟨w,R,x,y,a,hw,h1,h2,h5,h6,rfl⟩:=aj;have yu:=L.jf hS hw;have up:=L.hV hS hw;obtain⟨R',x',y',r3,r4⟩:=round l (λ_ h=>h) w R ((v9 w)) x y hw h5;have nx:Ex (R8 n f C l w R (some (a,9)) x y)=some (.nx (R8 n f C l ((l.map (eL C)).foldl (d8 f) w) R' ((v9 w)) x' y')):=
    (aU (ρ1:=R8 n f C l w R ((v9 w)) x y) rfl).trans ((gZ (ds:=l.map bG) (ρ1:=R8 n f C l w R ((v9 w)) x y) (Qi (by rw[Qc];exact hlen))).trans r4)
   have hk:(if w=(l.map (eL C)).foldl (d8 f) w then 0 else 1)+ba.mu n f ((l.map (eL C)).foldl (d8 f) w)<ba.mu n f w+1:=by
    by_cases he:w=(l.map (eL C)).foldl (d8 f) w
    ·rw[Qi he,<- he];omega
    ·rw[Ql he];have:=L.rl hw yu up he;omega
   have key:(bC (e2 dk (aa 3) (aa 5)) (R8 n f C l w R (some (a,9)) x y)=some (true,R8 n f C l w R (some (a,9)) x y)/\ba.mu n f w+1<=k)\/(bC (e2 dk (aa 3) (aa 5)) (R8 n f C l w R (some (a,9)) x y)=some (false,R8 n f C l w R (some (a,9)) x y)/\a=.tup (ai w)/\w=(l.map (eL C)).foldl (d8 f) w):=by
    rcases h6 with⟨rfl,Nb⟩|⟨y0,rfl,hy,EU,Nb⟩
    ·have il:dk (.tup (ai w)) .bK=some (.bl true):=by unfold dk;rw[Qi ⟨(u9 w).ok,(Sh.bK (k:=0)).ok⟩];rfl
     exact .inl ⟨fg (dN (q:=9) (q':=9) rfl rfl il),by omega⟩
    ·have hd:=La w y0;by_cases EV:w=y0
     ·subst EV;rw[Qr rfl]at hd;exact .inr ⟨fg (dN (q:=9) (q':=9) rfl rfl hd),rfl,EU⟩
     ·rw[Qy EV]at hd;rw[Ql λz=>EV z.symm]at Nb;exact .inl ⟨fg (dN (q:=9) (q':=9) rfl rfl hd),by omega⟩
   rcases key with⟨ht,qT⟩|⟨ht,rfl,EU⟩
   ·exact .inr ⟨_,_,ba.mu n f ((l.map (eL C)).foldl (d8 f) w)+(if w=(l.map (eL C)).foldl (d8 f) w then 0 else 1),ht,nx,by omega,_,R',x',y',.tup (ai w),yu,L.iT hv hw yu h1 up,λx hx cx hvx=>L.fW hx hS hw cx (h2 x hx cx hvx),r3,.inr ⟨w,rfl,hw,rfl,rfl⟩,rfl⟩
   ·exact .inl ⟨_,ht,w,R,x,y,⟨hw,(L.fI hS hw).mp EU.symm,h1,h2⟩,rfl⟩)
 refine⟨u,R,hu,?_⟩;unfold yg MD;refine dG ?_;show aJ _ _ [t9 n f,c9 n C,some (.lst (l.map bG),0),v9 v,none,none,none,none]=_;exact(aU (ρ1:=[t9 n f,c9 n C,some (.lst (l.map bG),0),v9 v,some (.lst [],1),none,none,none]) rfl).trans ((aU (ρ1:=R8 n f C l v [] (some (.bK,9)) none none) rfl).trans ((aU e).trans rfl))
end
theorem dg1(a b:D):j8 ["begin","way"] [a,b] "begin" = some a:=by unfold j8;rw[Qi rfl]
theorem dg2(a b:D):j8 ["begin","way"] [a,b] "way" = some b:=by unfold j8;rw[Ql (by decide)];unfold j8;rw[Qi rfl]
section
variable {n:Nat}{f:Nat->Nat->Nat}{C:ck}
def EW (C:ck)(s:Sn):Bool:=decide (s.2<(if s.1 then C.B.length else C.W.length))
theorem z8c{s:Sn}:EW C s=true ↔ okN C s:=decide_eq_true_iff
theorem Nc(m k:Nat):iU m (iD k)=decide (k<m):=by show(decide ((0:Int)<=(k:Int))&&decide ((k:Int)<(m:Int)))=_;simp
theorem z6e(s:Sn):yd [bG s,.gS ["begin","way"] [iD C.B.length,iD C.W.length]]=(b9 (EW C s)):=by
 obtain⟨b,k⟩:=s;have l2:dk (.int 2) (.int 2)=some (.bl false):=(j3k _ _).trans (by simp);have n1:=λm=>EL m (iD k);have g1:=dg1 (iD C.B.length) (iD C.W.length);have g2:=dg2 (iD C.B.length) (iD C.W.length);have s0:∀ x:Str,da (.tup [.str x,iD k]) 0=some (.str x):=λ_=>rfl;have s1:∀ x:Str,da (.tup [.str x,iD k]) 1=some (iD k):=λ_=>rfl;have ll:∀ x:Str,gm (.tup [.str x,iD k])=some 2:=λ_=>rfl;unfold yd Mv;cases b with
 | true=>
  show bT _ _ [.tup [.str "begin",iD k],_]=(b9 (decide (k<C.B.length)));simp[-ofNat_eq_natCast,gY,ll,l2,s0,s1,g1,n1,Nc]
 | false=>
  show bT _ _ [.tup [.str "way",iD k],_]=(b9 (decide (k<C.W.length)));simp[-ofNat_eq_natCast,gY,ll,l2,s0,s1,g2,n1,Nc]
theorem y9z(s:Sn):rD [bF n C,bG s]=(b9 (EW C s)):=by
 have h:=z6e (C:=C) s;unfold rD Mw;have e1:qU 0 2 [c9 n C,some (bG s,9)]=some (Int.ofNat C.B.length):=by show some (Int.ofNat (C.B.map cm).length)=_;rw[Qc]
 have pP:qU 0 1 [c9 n C,some (bG s,9)]=some (Int.ofNat C.W.length):=by show some (Int.ofNat (C.W.map (bw n)).length)=_;rw[Qc]
 have ed:wM "begin" "way" (qU 0 2) (qU 0 1) [c9 n C,some (bG s,9)]=some (.gS ["begin","way"] [iD C.B.length,iD C.W.length],9,[c9 n C,some (bG s,9)]):=by unfold wM;rw[e1,pP]
 exact dG (fC (bq (cu (f:=aa 1) (d:=bG s) (q:=9) (ρ:=[c9 n C,some (bG s,9)]) (ρ1:=[c9 n C,some (bG s,9)]) rfl (bV ed)) rfl h))
theorem z2h{s:Sn}(hs:okN C s):rD [bF n C,bG s]=(b9 true):=by rw[y9z,z8c.mpr hs]
theorem y0a{l:List Sn}(hl:∀ s∈l,okN C s)(hlen:l.length<=1000):vo [bF n C,.lst (l.map bG)]=some (.bK,9):=by
 have hit:cz (aa 1) [c9 n C,some (.lst (l.map bG),0)]=some (l.map bG,[c9 n C,some (.lst (l.map bG),0)]):=by simp[hlen]
 have e:=z7z (i:=2) (te:=aK rD 2 (ae (aa 0) (ae (aa 2) ah))) (ρ:=[c9 n C,some (.lst (l.map bG),0)]) rfl hit (λ_=>true) (λ_=>9) (λd hd=>by obtain⟨s,hs,rfl⟩:=Qk.mp hd;simp[z2h (n:=n) (hl s hs)])
 have ea:(l.map bG).all (λ_=>true)=true:=by simp
 rw[ea]at e;unfold vo Mx;show(match dy _ _ _ [c9 n C,some (.lst (l.map bG),0)]with|some (.rt d q)=>some (d,q)|some (.nx _)=>some (D.bK,9)|_=>none)=_;have ei:dy (i8 (gT (eB qQ (ae (dz 1 (cz (aa 1)) (aA 2) di (aK rD 2 (ae (aa 0) (ae (aa 2) ah))) false) ah)))) wL d5 [c9 n C,some (.lst (l.map bG),0)]=some (.nx [c9 n C,some (.lst (l.map bG),0)]):=by refine(lS ?_).trans rfl;unfold i8 gT;rw[e];rfl
 rw[ei]
theorem z7s:(oU C).length=C.B.length+C.W.length:=by simp[oU]
theorem y7g(hB:C.B.length<=60)(hW:C.W.length<=60):yj [bF n C]=some (.lst ((oU C).map bG),1):=by
 unfold yj MH;refine dG ?_;show aJ _ _ [c9 n C,none]=_;have c1:da (bF n C) 1=some (.tup (C.W.map (bw n))):=rfl;have c2:da (bF n C) 2=some (.tup (C.B.map cm)):=rfl;have lB:gm (.tup (C.B.map cm))=some C.B.length:=by simp[gm]
 have lW:gm (.tup (C.W.map (bw n)))=some C.W.length:=by simp[gm]
 have h1:=fB (k:=1) (tt:=di) (te:=dF (ae (eC (.str "begin")) (ae (aa 2) ah))) (deep:=false) (tW (m:=C.B.length) (by omega) (fe:=eB mq (ae (aH 0 (eC (.int 2))) ah)) (ρ:=[c9 n C,none]) (ρ':=[c9 n C,none]) (q:=9) (by simp[-ofNat_eq_natCast,c2,lB])) (tG (i:=2) rfl (λ_=>true) (λk=>bG (true,k)) (λ_=>9) (λk hk=>rfl) (λk hk _=>by simp[-ofNat_eq_natCast,bG]));rw[show(range C.B.length).filter (λ_=>true)=range C.B.length by simp]at h1;refine(aU (ρ1:=[c9 n C,some (.lst ((range C.B.length).map λk=>bG (true,k)),1)]) (dM h1 rfl)).trans ?_;have h2:=fB (k:=1) (tt:=di) (te:=dF (ae (eC (.str "way")) (ae (aa 2) ah))) (deep:=false) (tW (m:=C.W.length) (by omega) (fe:=eB mq (ae (aH 0 (eC (.int 1))) ah)) (ρ:=[c9 n C,some (.lst ((range C.B.length).map λk=>bG (true,k)),0)]) (ρ':=[c9 n C,some (.lst ((range C.B.length).map λk=>bG (true,k)),0)]) (q:=9) (by simp[-ofNat_eq_natCast,c1,lW])) (tG (i:=2) rfl (λ_=>true) (λk=>bG (false,k)) (λ_=>9) (λk hk=>rfl) (λk hk _=>by simp[-ofNat_eq_natCast,bG]));rw[show(range C.W.length).filter (λ_=>true)=range C.W.length by simp]at h2;have ea:(oU C).map bG=((range C.B.length).map λk=>bG (true,k))++((range C.W.length).map λk=>bG (false,k)):=by unfold oU;rw[QU,QV,QV];rfl
 rw[ea];refine fC (ρ1:=[c9 n C,some (.lst ((range C.B.length).map λk=>bG (true,k)),0)]) ?_;have v1:aa 1 [c9 n C,some (.lst ((range C.B.length).map λk=>bG (true,k)),1)]=some (.lst ((range C.B.length).map λk=>bG (true,k)),0,[c9 n C,some (.lst ((range C.B.length).map λk=>bG (true,k)),0)]):=rfl;unfold sT;rw[v1];have hl:((range C.B.length).map λk=>bG (true,k)).length+((range C.W.length).map λk=>bG (false,k)).length<=1000:=by rw[Qc,Qc,QI,QI];omega
 generalize ((range C.B.length).map λk=>bG (true,k))=x at *
 generalize ((range C.W.length).map λk=>bG (false,k))=y at *
 rw[Ql (by decide)]at h2;simp only[h2,Qi hl]
end
section
variable {n:Nat}{f:Nat->Nat->Nat}(L:ba n f){z:Nat}(hz:z<n)(bz:∀ j,j<n->f z j=j){C:ck}(hC:C.Ok n f)
def jh (p z:Nat):List Nat:=replicate p z
theorem j4v{v:Nat}(ha:fa ρ=some (.lst [iD v],1,ρ1))(hb:fb ρ1=some ((iD m),q,ρ2))(hm:m<=1000):pM fa fb ρ=some (.lst (ai (jh m v)),1,ρ2):=by
 have e:(replicate m [iD v]).flatten=ai (jh m v):=by simp[ai,jh,ZU]
 unfold pM;rw[ha];simp only[hb];rw[Qi ⟨by show(-1000:Int)<=(m:Int);omega,by show(m:Int)<=1000;omega,by show 1*m<=1000;omega⟩,<- e];rfl
theorem j5z(hz:z<n):Vn n p (jh p z):=⟨by simp[jh],λx hx=>by rw[(List.mem_replicate.mp hx).2];exact hz⟩
theorem j1u(hi:i<p):gv (jh p z) i=z:=by unfold gv jh;simp[hi]
theorem j2z(bz:∀ j,j<n->f z j=j)(hv:Vn n p v):g_ f p (jh p z) v:=λi hi=>by rw[j1u hi];exact bz _ (hv.gv hi)
include L hz bz hC
theorem z42:yh [aN n f,bF n C]=(v9 (jh C.p z)):=by have hn:n<=1000:=QJ L.hi (by decide);have tY:=hC.p8;unfold yh ME;exact dG (fC (k9 (bV (j4v (q:=9) (ρ:=[t9 n f,c9 n C]) (Bc (bV (bq (ds:=[aN n f]) rfl rfl (EG L hz bz hn))) (by show 1<=1000;decide)) rfl (by omega)))))
theorem z05{l:List Sn}(hl:∀ s∈l,okN C s)(hlen:l.length<=1000) :
  ∃ (u:List Nat) (k:D),h_ n f C.p (l.map (eL C)) (jh C.p z) u/\yi [aN n f,bF n C,.lst (l.map bG)]=some (.tup [.tup (ai u),k],9):=by
 obtain⟨u,R,h1,e⟩:=z9v L hC (j5z (p:=C.p) hz) hl hlen;refine⟨u,iD R.length,h1,?_⟩;have r0:=y0a (n:=n) hl hlen;have r1:=z42 L hz bz hC;unfold yi MF;have e0:fy (aK vo 2 (ae (aa 1) (ae (aa 2) ah))) [t9 n f,c9 n C,some (.lst (l.map bG),0),none]=some (.nx [t9 n f,c9 n C,some (.lst (l.map bG),0),none]):=by unfold fy;rw[bq (n:=2) (ds:=[bF n C,.lst (l.map bG)]) (cu (q:=9) rfl (bV (lz rfl))) rfl r0];rfl
 exact dG ((aU e0).trans ((aU (dM (bq (ds:=[aN n f,bF n C,.lst (l.map bG),.tup (ai (jh C.p z))]) (cu (q:=9) rfl (cu (q:=9) rfl (cu (lz rfl) (bV (bq (ds:=[aN n f,bF n C]) rfl rfl r1))))) rfl e) rfl)).trans rfl))
theorem yv:∃ u,h_ n f C.p (iM C) (jh C.p z) u/\tS [aN n f,bF n C]=(v9 u):=by have hB:=hC.yq;have hW:=hC.tV;obtain⟨u,k,h1,e⟩:=z05 L hz bz hC (j2i C) (by rw[z7s];omega);rw[z72]at h1;refine⟨u,h1,?_⟩;unfold tS ML;exact dG (fC (Ba (bq (ds:=[aN n f,bF n C,.lst ((oU C).map bG)]) (cu (q:=9) rfl (cu (q:=9) rfl (bV (bq (ds:=[bF n C]) rfl rfl (y7g (n:=n) hB hW))))) rfl e) rfl rfl rfl rfl))
end
theorem lZ{α:Type}{k:Nat}{pt:gE}{tt:cS}(enc:α->D)(ext:α->aW)(b:α->Bool)(v:α->D)(q:α->Nat):∀ l:List α,
  (∀ x∈l,pt (enc x) (ρ++replicate k none)=some (ρ++ext x)/\tt (ρ++ext x)=some (b x,ρ++ext x)/\(b x=true->te (ρ++ext x)=some (v x,q x,ρ++ext x)))->jH k pt tt te false (l.map enc) ρ=some ((l.filter b).map v,ρ)
 | [],_=>rfl
 | x::l,h=>by
  obtain⟨h1,h2,h3⟩:=h x Qh;have ih:=lZ enc ext b v q l (λy m=>h y (Qf _ m));have ht:(ρ++ext x).take ρ.length=ρ:=by simp
  rw[Qx];unfold jH;rw[h1];simp only[h2];cases hb:b x with
  | true=>
   simp only[ZC,h3 hb,ht,ih];rw[Zb hb];simp
  | false=>
   simp only[ht,ih];rw[Zv (by rw[hb];simp)];simp
theorem vy(i:Int):PyData.eqv (cn (.int i)) (cn (.int i))=true:=by show(i==i)=true;simp
theorem vz(h:∀ d∈ds,PyData.eqv (cn d) (cn d)=true):PyData.eqv (cn (.tup ds)) (cn (.tup ds))=true:=by
 have go:∀ ds:List D,(∀ d∈ds,PyData.eqv (cn d) (cn d)=true)->PyData.eqvAll (eJ ds) (eJ ds)=true:=by
  intro ds;induction ds with
  | nil=>intro _;rfl
  | cons d ds ih=>
   intro h;show(PyData.eqv (cn d) (cn d)&&PyData.eqvAll (eJ ds) (eJ ds))=true;rw[h d Qh,ih λx m=>h x (Qf _ m)];rfl
 exact go ds h
theorem z8x(n:Nat)(r:Nat->Nat):PyData.eqv (cn (aL n r)) (cn (aL n r))=true:=vz λd hd=>by obtain⟨x,_,rfl⟩:=Qk.mp hd;exact vy _
theorem Be{P:D->Prop}{a b c:D}(h1:P a)(h2:P b)(h3:P c):∀ d ∈ [a,b,c],P d:=λd hd=>by
 rcases Qs.mp hd with rfl|hd
 ·exact h1
 ·rcases Qs.mp hd with rfl|hd
  ·exact h2
  ·rcases Qs.mp hd with rfl|hd
   ·exact h3
   ·cases hd
theorem EX{P:D->Prop}{a b:D}(h1:P a)(h2:P b):∀ d ∈ [a,b],P d:=λd hd=>by
 rcases Qs.mp hd with rfl|hd
 ·exact h1
 ·rcases Qs.mp hd with rfl|hd
  ·exact h2
  ·cases hd
theorem z45(n:Nat)(C:ck):PyData.eqv (cn (bF n C)) (cn (bF n C))=true:=vz (Be (vy _)
 (vz λd hd=>by obtain⟨w,_,rfl⟩:=Qk.mp hd;exact vz (Be (vy _) (vy _) (z8x _ _)))
 (vz λd hd=>by obtain⟨b,_,rfl⟩:=Qk.mp hd;exact vz (EX (vy _) (vy _))))
theorem Nd(n:Nat)(C:ck):Sh 4 (bF n C):=.tup (Be (.int _)
 (.tup λd hd=>by obtain⟨w,_,rfl⟩:=Qk.mp hd;exact .tup (Be (.int _) (.int _) ⟨(Lc _ _).1,(Lc _ _).2⟩))
 (.tup λd hd=>by obtain⟨b,_,rfl⟩:=Qk.mp hd;exact .tup (EX (.int _) (.int _))))
theorem z6s(n:Nat)(C:ck):dk (bF n C) (bF n C)=some (.bl false):=by unfold dk;rw[Qi ⟨(Nd n C).ok,(Nd n C).ok⟩];show some (D.bl (!PyData.eqv (cn (bF n C)) (cn (bF n C))))=_;rw[z45];rfl
theorem z5a{α:Type}[Inhabited α]{P:Nat->α->Prop}(h:∀ y,y<n->∃ c,P y c):∃ c:Nat->α,∀ y,y<n->P y (c y):=
 ⟨λy=>if hy:y<n then Classical.choose (h y hy)else default,λy hy=>by dsimp only;rw[VW hy];exact Classical.choose_spec (h y hy)⟩
section
variable {n:Nat}{f:Nat->Nat->Nat}(L:ba n f){z:Nat}(hz:z<n)(bz:∀ j,j<n->f z j=j){r:Nat->Nat}(hr:∀ i,i<n->r i<n)(hm:∀ x y,x<n->y<n->f x y=y->f (r x) (r y)=r y)
include L hr hm
theorem x9m:xZ [aN n f,aL n r]=some (.bK,9):=by have hn:n<=1000:=QJ L.hi (by decide);have h:=y8i (f:=f) hn (aL n r);rw[j2h hr,EH.mpr λy x hy hx e=>hm x y hx hy e]at h;unfold xZ L7;simp[h]
theorem y63(hy:y<n):∃ c,c<n/\f y c=c/\f (r c) c=c/\(∀ x,x<n->f y x=x->f (r x) x=x->f c x=x)/\vi [aN n f,aL n r,iD y]=(i9 c):=by
 have hn:n<=1000:=QJ L.hi (by decide);have h8:=L.hi;have hcy:=ba.nR (n:=n) (f:=f) y;obtain⟨ρ',e,c,hc,h1,h2,h3,rfl⟩:=Le (c:=i8 (gT (aK mC 3 (ae (aa 0) (ae (aH 1 (aa 3)) (ae (aa 3) ah)))))) (b:=L8)
  (Q:=λρ=>∃ c,c<n/\f y c=c/\f (r c) c=c/\(∀ x,x<n->f y x=x->f (r x) x=x->f c x=x)/\ρ=[t9 n f,r9 n r,i9 y,i9 c])
  (λk ρ=>∃ c,c<n/\k=ba.cnt n f c/\f y c=c/\(∀ x,x<n->f y x=x->f (r x) x=x->f c x=x)/\ρ=[t9 n f,r9 n r,i9 y,i9 c]) (k:=ba.cnt n f y) (ρ:=[t9 n f,r9 n r,i9 y,i9 y]) (by omega) ⟨y,hy,rfl,L.idem y hy,λx hx h _=>h,rfl⟩ (λk ρ aj=>by
   obtain⟨c,hc,hk,h1,h2,hr'⟩:=aj;subst hr' hk;have hb:=Bb (f:=f) (hr c hc) hc;have a1:=lh (r:=r) hc;by_cases h:f (r c) c=c
   ·refine .inl ⟨[t9 n f,r9 n r,i9 y,i9 c],?_,c,hc,h1,h,h2,rfl⟩;simp[-ofNat_eq_natCast,a1,hb,h]
   ·have tZ:=hr c hc;have ui:=L.cl c (r c) hc tZ;refine .inr ⟨[t9 n f,r9 n r,i9 y,i9 c],[t9 n f,r9 n r,i9 y,i9 (f c (r c))],ba.cnt n f (f c (r c)),?_,?_,?_,f c (r c),ui,rfl,?_,λx hx hyx Nf=>?_,rfl⟩
    ·simp[-ofNat_eq_natCast,a1,hb,h]
    ·have a2:=k_ (f:=f) hc;have a3:=lU (f:=f) (i:=c) tZ;simp[-ofNat_eq_natCast,a1,a2,a3]
    ·exact L.nS hc ui (L.nL hc tZ) λq=>h (by rw[L.comm (r c) c tZ hc];exact q.symm)
    ·exact L.le_trans hy hc ui h1 (L.nL hc tZ)
    ·have Ng:=h2 x hx hyx Nf;exact L.lub hc tZ hx Ng (L.le_trans tZ (hr x hx) hx (hm c x hc hx Ng) Nf))
 refine⟨c,hc,h1,h2,h3,?_⟩;unfold vi L9;exact dG ((aU (ρ1:=[t9 n f,r9 n r,i9 y,i9 y]) (dM (d:=(iD y)) (q:=9) rfl rfl)).trans ((aU e).trans rfl))
theorem z74:∃ c:Nat->Nat,(∀ y,y<n->c y<n/\f y (c y)=c y/\f (r (c y)) (c y)=c y/\∀ x,x<n->f y x=x->f (r x) x=x->f (c y) x=x)/\x_ [aN n f,aL n r]=(r9 n c):=by have hn:n<=1000:=QJ L.hi (by decide);obtain⟨c,hc⟩:=z5a (n:=n) λy hy=>y63 L hr hm (y:=y) hy;refine⟨c,λy hy=>⟨(hc y hy).1,(hc y hy).2.1,(hc y hy).2.2.1,(hc y hy).2.2.2.1⟩,?_⟩;unfold x_ L_;have Nh:=fB (k:=1) (tt:=di) (te:=aK vi 3 (ae (aa 0) (ae (aa 1) (ae (aa 2) ah)))) (deep:=false) (ki hn (i:=0) (ρ:=[t9 n f,r9 n r]) rfl iS) (tG (i:=2) rfl (λ_=>true) (λw=>(iD (c w))) (λ_=>9) (λj hj=>rfl) (λj hj _=>bq (ds:=[aN n f,aL n r,iD j]) rfl rfl (hc j hj).2.2.2.2));rw[show(range n).filter (λ_=>true)=range n by simp,<- tF]at Nh;exact dG ((aU (ρ1:=[t9 n f,r9 n r]) (by simp[x9m L hr hm])).trans (fC (k9 (bV Nh))))
include hz bz
end
section
variable {n:Nat}{f:Nat->Nat->Nat}
theorem z6d(hn:n<=1000)(v:Nat):xU [aN n f,.int (Int.ofNat v)]=some (aL n λ_=>v,9):=by
 unfold xU LV;have b1:(-1000:Int)<=n:=by omega
 have b2:(n:Int)<=1000:=by omega
 have e:(replicate n [D.int (Int.ofNat v)]).flatten=ai ((range n).map λ_=>v):=by simp[ai,ZU,V6]
 have e':(replicate n [D.int (v:Int)]).flatten=ai ((range n).map λ_=>v):=e;simp[iS,b1,b2,hn,aL,e']
theorem Ni(hn:n<=1000)(hr:∀ i,i<n->r i<n):rB [aL n r,aL n s]=some (aL n λi=>s (r i),9):=by
 unfold rB Mf;refine dG (fC (ρ1:=[r9 n r,r9 n s]) ?_);have hi:cz (aa 0) [r9 n r,r9 n s]=some (ai ((range n).map r),[r9 n r,r9 n s]):=by simp[aL,d7,hn]
 have hc:=fB (k:=1) (te:=aH 1 (aa 2)) (deep:=false) hi (K9 (i:=2) ((range n).map r) rfl (λy=>(iD (s y))) (λ_=>9) (λy hy=>by obtain⟨i,hi,rfl⟩:=Qk.mp hy;have:=hr i (Qv.mp hi);simp[-ofNat_eq_natCast,lh this]))
 rw[QV]at hc;exact(k9 (bV hc)).trans (ZD (λd=>some (d,9,_)) (Lb (λi=>s (r i))))
end
theorem z78{pt:gE}(h1:pt d ρ=some ρ1)(h2:body ρ1=some (.bk ρ2)):fP pt body (d::ds) ρ=some (.nx ρ2):=by unfold fP;rw[h1];simp only[h2]
theorem z9r(Nj:ns.length<=63)(hm:m+1<=1000)(once:∀ ns':List Int,tT [bX ns']=(b9 true)):∃ x,d3 (cL (ae (eC (iD (m+1))) ah)) (aA 1) yk [n0 ns,none]=some (.nx [n0 ns,x]):=by
 have hl:(ns.map D.int).length<=1000:=by rw[Qc];omega
 have hc:∀ (t:Nat),dz 1 (cz (aa 0)) (aA 2) di (e2 cU (aa 2) (e2 ky (eC (.int 7919)) (aa 1))) false [n0 ns,i9 t]=some (bX (ns.map λx=>x+7919*Int.ofNat t),1,[n0 ns,i9 t]):=λt=>by
  have h:=M9 (i:=2) (te:=e2 cU (aa 2) (e2 ky (eC (.int 7919)) (aa 1))) (ρ:=[n0 ns,i9 t]) (ns.map D.int) rfl (λd=>match d with|.int x=>.int (x+7919*Int.ofNat t)|d=>d) (λ_=>9) (λd hd=>by obtain⟨x,_,rfl⟩:=Qk.mp hd;simp[-ofNat_eq_natCast])
  have kK:ns.length<=1000:=by omega
  refine(fB (deep:=false) (by simp[kK]) h).trans ?_;simp[-ofNat_eq_natCast,J1]
 have step:∀ (t:Nat),yk [n0 ns,i9 t]=some (if ns=[]then .bk [n0 ns,i9 t]else .nx [n0 ns,i9 t]):=λt=>by
  have h1:=once (ns.map λx=>x+7919*Int.ofNat t);unfold yk;refine(aU (ρ1:=[n0 ns,i9 t]) ?_).trans ?_
  ·have e:=bq (F:=tT) (n:=1) (bV (hc t)) rfl h1;simp only[dy,i8,gT,e];rfl
  ·have e:=EB ns;by_cases oh:ns=[]
   ·rw[Qi oh];rw[Qr oh]at e;simp[-ofNat_eq_natCast,e]
   ·rw[Ql oh];rw[Qy oh]at e;simp[-ofNat_eq_natCast,e]
 have hr:cL (ae (eC (iD (m+1))) ah) [n0 ns,none]=some (cE (m+1),[n0 ns,none]):=by simp only[cL,bV (f:=eC (iD (m+1))) (q:=9) (ρ:=[n0 ns,none]) rfl];rw[Qi ⟨by show(-1000:Int)<=((m+1:Nat):Int);omega,by show((m+1:Nat):Int)<=1000;omega⟩];rfl
 rw[gZ hr];by_cases oh:ns=[]
 ·refine⟨i9 0,?_⟩;have h:=step 0;rw[Qi oh]at h;have e:cE (m+1)=(iD 0)::(cE (m+1)).tail:=by unfold cE;rw[JT];rfl
  rw[e];exact z78 (ρ1:=[n0 ns,i9 0]) (by simp) h
 ·obtain⟨ρ',e,x,rfl⟩:=kh (pt:=aA 1) (body:=yk) (cE (m+1)) (λ_ ρ=>∃ x,ρ=[n0 ns,x]) [n0 ns,none] (λi hi ρ ⟨x,hx⟩=>by subst hx;have h:=step i;rw[Ql oh]at h;refine⟨[n0 ns,i9 i],_,by rw[rF];simp,.inl h,_,rfl⟩) ⟨none,rfl⟩
  exact⟨x,e⟩
theorem qf{α:Type}[DecidableEq α]:∀ {l m:List α},l.Nodup->(∀ x∈l,x∈m)->l.length<=m.length
 | [],m,_,_=>Q6 _
 | a::l,m,nd,h=>by have ha:=h a Qh;obtain⟨n1,n2⟩:=Q5.mp nd;have ih:=qf (l:=l) (m:=m.erase a) n2 λx hx=>(YM (λz=>n1 (by rw[<- z];exact hx))).mpr (h x (Qf _ hx));have:=Yc ha;have:=Yw ha;rw[Qz];omega
section
variable {α β γ:Type}[DecidableEq α][DecidableEq γ](enc:γ->α)(inj:∀ a b,enc a=enc b->a=b)
include inj
theorem Bf(v:γ->β){k:γ}:∀ {ks:List γ},k∈ks->vL (ks.map enc) (ks.map v) (enc k)=some (v k)
 | [],h=>(Qw h).elim
 | x::ks,h=>by
  simp only[Qx,vL];by_cases hx:x=k
  ·subst hx;simp
  ·rw[Ql λz=>hx (inj _ _ z)];exact Bf v ((Qs.mp h).resolve_left λz=>hx z.symm)
theorem EY(v:γ->β){k:γ}:∀ {ks:List γ},k ∉ ks->vL (ks.map enc) (ks.map v) (enc k)=none
 | [],h=>by simp[vL]
 | x::ks,h=>by simp only[Qx,vL];rw[Ql λz=>h (by rw[inj _ _ z];exact Qh)];exact EY v λz=>h (Qf _ z)
theorem Bg{k:γ}{ks:List γ}:nI (ks.map enc) (enc k)=true ↔ k∈ks:=by
 unfold nI;rw[List.any_eq_true];exact⟨λ⟨x,hx,e⟩=>by obtain⟨y,hy,rfl⟩:=Qk.mp hx;rw[<- inj _ _ (QM e)];exact hy,λh=>⟨enc k,ZH h,Qr rfl⟩⟩
theorem EZ(v:γ->β)(k:γ)(e:β):∀ ks:List γ,kg (ks.map enc) (ks.map v) (enc k) e=ks.map λa=>if a=k then e else v a
 | []=>by simp[kg]
 | x::ks=>by
  simp only[Qx,kg];rw[EZ v k e ks];by_cases h:x=k
  ·subst h;simp
  ·have h':¬ enc x=enc k:=λz=>h (inj _ _ z);rw[Ql h',Ql h]
end
theorem vA(a b:Nat×Nat)(h:dh a=dh b):a=b:=by
 have h1:Int.ofNat a.1=Int.ofNat b.1:=by injection h with e1 e2;injection e1
 have h2:Int.ofNat a.2=Int.ofNat b.2:=by injection h with e1 e2;injection e2 with e3 e4;injection e3
 exact Ue (ZQ h1) (ZQ h2)
abbrev kN (a:Nat):Key:=.inl (Int.ofNat a)
theorem yw(a b:Nat)(h:kN a=kN b):a=b:=by
 have h1:Int.ofNat a=Int.ofNat b:=by injection h
 exact ZQ h1
theorem Bh{fv:aF}{x:D}{k k':MK}{eG:List D}(hv:fv ρ=some (d,q,ρ1))(h1:eK ρ1[i]? = true)(hk:fk ρ1=some (x,q',ρ2))(h2:ρ2[i]? = some (some (.mp k ds,1)))(iE:ds.length<1000)(hp:xt k ds x d=some (k',eG)) :
  u5 i fk fv ρ=some (.nx (ρ2.set i (some (.mp k' eG,1)))):=by unfold u5;rw[hv];simp only[h1,ZC,hk,h2,iE,hp]
theorem Bi{fz:aF}{x z:D}{k:MK}{r:Option D}(h1:eK ρ[i]? = true)(hk:fk ρ=some (x,q,ρ1))(hz:fz ρ1=some (z,q',ρ2))(h2:ρ2[i]? = some (some (.mp k ds,q2)))(hg:q_ k ds x=some r) :
  u3 i fk fz ρ=some (r.getD z,c_ (r.getD z),ρ2):=by unfold u3;rw[Qi h1,hk];simp only[hz,h2,hg]
theorem j3q{x:D}{k:MK}(h1:eK ρ[i]? = true)(hk:fk ρ=some (x,q,ρ1))(h2:ρ1[i]? = some (some (.mp k ds,q2)))(hg:q_ k ds x=some (some d)) :
  u0 i fk ρ=some (d,c_ d,ρ1):=by unfold u0;rw[Qi h1,hk];simp only[h2,hg]
theorem yx{g:cK}(h:g ρ=some (ds,ρ1))(hl:ds.length<=1000):dF g ρ=some (.tup ds,9,ρ1):=by unfold dF;rw[h];exact Qi hl
theorem j40(kp:List (Nat×Nat)):∀ i j,i<=j->j<(kD kp).length->rk ((kD kp).getD i (0,0))<=rk ((kD kp).getD j (0,0)):=λi j nh hj=>by
 have up:=Ym (le:=λa b:Nat×Nat=>decide (rk a<=rk b)) (λa b c h1 h2=>Qr (VY (QM h1) (QM h2))) (λa b=>by
  rcases UB (rk a) (rk b)with h|h
  ·rw[Qr h];rfl
  ·rw[Qr h,UC]) kp
 rcases Nat.lt_or_eq_of_le nh with h|h
 ·have:=Zw.mp up i j (Z2 nh hj) hj h;rw[Qg,Qg,Qb (Z2 nh hj),Qb hj];exact QM this
 ·rw[h];exact YN _
theorem k08{l:List (Nat×Nat)}(h:l.Pairwise λa b=>rk a<=rk b):∀ i j,i<=j->j<l.length->rk (l.getD i (0,0))<=rk (l.getD j (0,0)):=λi j nh hj=>by
 rcases Nat.lt_or_eq_of_le nh with h' | h'
 ·have:=Zw.mp h i j (Z2 nh hj) hj h';rw[Qg,Qg,Qb (Z2 nh hj),Qb hj];exact this
 ·rw[h'];exact YN _
def qg (ks:List (Nat×Nat)):List (Nat×Nat):=kD ks.eraseDups
theorem Bj{x:Nat×Nat}:x∈qg ks ↔ x∈ks:=(ZY _ _).mem_iff.trans JR
theorem Nk(ks:List (Nat×Nat)):(qg ks).Nodup:=(ZY _ _).nodup_iff.mpr (Az _ ks (Qj _))
theorem z3k{l:List (Nat×Nat)}(hb:∀ x∈l,x.2<1000)(nd:ks.Nodup)(mem:∀ x,x∈ks ↔ x∈l):kD ks=qg l:=
 AD (λx hx=>hb x (JR.mp hx)) ((ZY _ _).trans (AA nd (Az _ l (Qj _)) λx=>by rw[mem,JR])) (j40 ks)
def pW (W:List (Nat×Nat×(Nat->Nat))):List (Nat×Nat):=W.map λw=>(w.1,w.2.1)
def gR (W:List (Nat×Nat×(Nat->Nat)))(k:Nat×Nat)(i:Nat):List Nat:=(W.filter λw=>decide ((w.1,w.2.1)=k)).map λw=>w.2.2 i
def jr (f:Nat->Nat->Nat)(z:Nat)(W:List (Nat×Nat×(Nat->Nat)))(k:Nat×Nat)(i:Nat):Nat:=(gR W k i).foldl f z
def gB (B:List (Nat×Nat))(p:Nat):List Nat:=(B.filter λb=>decide (b.1=p)).map (·.2)
def jb (f:Nat->Nat->Nat)(z:Nat)(B:List (Nat×Nat))(p:Nat):Nat:=(gB B p).foldl f z
def jW (f:Nat->Nat->Nat)(z:Nat)(W:List (Nat×Nat×(Nat->Nat))):List (Nat×Nat×(Nat->Nat)):=(qg (pW W)).map λk=>(k.1,k.2,jr f z W k)
def jB (f:Nat->Nat->Nat)(z p:Nat)(B:List (Nat×Nat)):List (Nat×Nat):=((range p).filter λa=>!decide (gB B a=[])).map λa=>(a,jb f z B a)
def jC (f:Nat->Nat->Nat)(z:Nat)(C:ck):ck:=⟨C.p,jW f z C.W,jB f z C.p C.B⟩
theorem vB{w:Nat×Nat×(Nat->Nat)}{k:Nat×Nat}:jr f z (W++[w]) k i=if(w.1,w.2.1)=k then f (jr f z W k i) (w.2.2 i)else jr f z W k i:=by
 unfold jr gR;rw[Vk,QU,VA];by_cases h:(w.1,w.2.1)=k
 ·rw[Qi h,Zb (p:=λw:Nat×Nat×(Nat->Nat)=>decide ((w.1,w.2.1)=k)) (Qr h)];rfl
 ·rw[Ql h,Zv (p:=λw:Nat×Nat×(Nat->Nat)=>decide ((w.1,w.2.1)=k)) (by rw[Qy h];decide)];rfl
theorem j3e{k:Nat×Nat}(h:k ∉ pW W):jr f z W k i=z:=by have:(W.filter λw=>decide ((w.1,w.2.1)=k))=[]:=YB.mpr λw hw e=>h (Qk.mpr ⟨w,hw,QM e⟩);unfold jr gR;rw[this];rfl
theorem Bk{b:Nat×Nat}:jb f z (B++[b]) p=if b.1=p then f (jb f z B p) b.2 else jb f z B p:=by
 unfold jb gB;rw[Vk,QU,VA];by_cases h:b.1=p
 ·rw[Qi h,Zb (p:=λb:Nat×Nat=>decide (b.1=p)) (Qr h)];rfl
 ·rw[Ql h,Zv (p:=λb:Nat×Nat=>decide (b.1=p)) (by rw[Qy h];decide)];rfl
theorem yy:gB B p=[] ↔ p ∉ B.map (·.1):=by
 unfold gB;rw[Y0,YB];exact⟨λh m=>by obtain⟨b,hb,e⟩:=Qk.mp m;exact h b hb (Qr e),λh b hb e=>h (Qk.mpr ⟨b,hb,QM e⟩)⟩
theorem j2g(h:p ∉ B.map (·.1)):jb f z B p=z:=by unfold jb;rw[yy.mpr h];rfl
section
variable {n:Nat}{f:Nat->Nat->Nat}(L:ba n f){z:Nat}(hz:z<n)(bz:∀ j,j<n->f z j=j)
include L hz bz
theorem l0(hW:∀ w∈W,∀ i,i<n->w.2.2 i<n)(k:Nat×Nat)(hi:i<n):jr f z W k i<n:=L.fold_lt hz λx hx=>by obtain⟨w,hw,rfl⟩:=Qk.mp hx;exact hW w (QS.mp hw).1 i hi
theorem Bl(hB:∀ b∈B,b.2<n)(p:Nat):jb f z B p<n:=L.fold_lt hz λx hx=>by obtain⟨b,hb,rfl⟩:=Qk.mp hx;exact hB b (QS.mp hb).1
theorem y48(hl:W.length<=60)(hW:∀ w∈W,∀ i,i<n->w.2.2 i<n)(hp:∀ w∈W,w.2.1<1000):xO [aN n f,.tup (W.map (bw n))]=some (.tup ((jW f z W).map (bw n)),9):=by
 have hn:n<=1000:=QJ L.hi (by decide);obtain⟨ρ',e,ks,nd,lk,mem,a,b,c,rfl⟩:=kh (pt:=gX (bU (aA 3) (bU (aA 4) (bU (aA 5) gq)))) (body:=AR) (W.map (bw n))
  (λi ρ=>∃ ks:List (Nat×Nat),ks.Nodup/\ks.length<=i/\(∀ k,k∈ks ↔ k∈pW (W.take i))/\∃ a b c,ρ=[t9 n f,some (.tup (W.map (bw n)),9),some (.mp (.t (ks.map dh)) (ks.map λk=>aL n (jr f z (W.take i) k)),1),a,b,c])
  [t9 n f,some (.tup (W.map (bw n)),9),some (.mp (.t []) [],1),none,none,none] (λi hi ρ aj=>by
  obtain⟨ks,nd,lk,mem,a,b,c,hr⟩:=aj;subst hr;have bS:i<W.length:=by rw[Qc]at hi;exact hi
  have hw:=QW bS;have ed:(W.map (bw n))[i]=bw n W[i]:=by simp
  have et:W.take (i+1)=W.take i++[W[i]]:=by rw[J2];simp[bS]
  rw[ed,et];have yz:∀ w∈W.take i,∀ i,i<n->w.2.2 i<n:=λw m=>hW w (J6 m);generalize W.take i=W1 at *
  generalize W[i]=w at *
  obtain⟨s,g,r⟩:=w;have hr:∀ i,i<n->r i<n:=hW _ hw;have yA:ks.length<1000:=by omega
  have E5:∀ i,i<n->jr f z W1 (s,g) i<n:=λi hi=>l0 L hz bz yz (s,g) hi;refine⟨[t9 n f,some (.tup (W.map (bw n)),9),some (.mp (.t (ks.map dh)) (ks.map λk=>aL n (jr f z W1 k)),1),i9 s,i9 g,r9 n r],?_⟩;have hd:eK ([t9 n f,some (.tup (W.map (bw n)),9),some (.mp (.t (ks.map dh)) (ks.map λk=>aL n (jr f z W1 k)),1),i9 s,i9 g,r9 n r]:aW)[2]? = true:=rfl;have lG:dF (ae (aa 3) (ae (aa 4) ah)) [t9 n f,some (.tup (W.map (bw n)),9),some (.mp (.t (ks.map dh)) (ks.map λk=>aL n (jr f z W1 k)),1),i9 s,i9 g,r9 n r]=some (.tup [iD s,iD g],9,[t9 n f,some (.tup (W.map (bw n)),9),some (.mp (.t (ks.map dh)) (ks.map λk=>aL n (jr f z W1 k)),1),i9 s,i9 g,r9 n r]):=rfl;have gW:q_ (.t (ks.map dh)) (ks.map λk=>aL n (jr f z W1 k)) (.tup [iD s,iD g])=some (vL (ks.map dh) (ks.map λk=>aL n (jr f z W1 k)) (dh (s,g))):=rfl;have nU:∀ d,xt (.t (ks.map dh)) (ks.map λk=>aL n (jr f z W1 k)) (.tup [iD s,iD g]) d=some (if nI (ks.map dh) (dh (s,g))=true then(MK.t (ks.map dh),kg (ks.map dh) (ks.map λk=>aL n (jr f z W1 k)) (dh (s,g)) d)else(.t (ks.map dh++[dh (s,g)]),(ks.map λk=>aL n (jr f z W1 k))++[d])):=λd=>rfl;by_cases hm:(s,g)∈ks
  ·refine⟨[t9 n f,some (.tup (W.map (bw n)),9),some (.mp (.t (ks.map dh)) (ks.map λk=>aL n (jr f z (W1++[(s,g,r)]) k)),1),i9 s,i9 g,r9 n r],by rfl,.inl ?_,ks,nd,by omega,λk=>?_,_,_,_,rfl⟩
   ·unfold AR;have hj:=EK (f:=f) hn E5 hr;rw[Bf dh vA _ hm]at gW;refine(Bh (bq (cu rfl (cu (Bi hd lG rfl rfl gW) (cu rfl rfl))) rfl hj) hd lG rfl (by simp;exact yA) ((nU _).trans (by rw[Qi ((Bg dh vA).mpr hm),EZ dh vA]))).trans ?_;have e2:(ks.map λa=>if a=(s,g)then aL n (λi=>f (jr f z W1 (s,g) i) (r i))else aL n (jr f z W1 a))=ks.map λk=>aL n (jr f z (W1++[(s,g,r)]) k):=QX λa _=>by
     by_cases ha:a=(s,g)
     ·subst ha;rw[Qi rfl];exact tH λi _=>by rw[vB,Qi rfl]
     ·rw[Ql ha];exact tH λi _=>by rw[vB,Ql (λq=>ha q.symm)]
    rw[e2];rfl
   ·rw[mem];show _ ↔ k∈(W1++[(s,g,r)]).map _;rw[QU,QO];refine⟨.inl,λh=>h.elim id λh=>?_⟩;have:k=(s,g):=QF.mp h;rw[this];exact(mem _).mp hm
  ·refine⟨[t9 n f,some (.tup (W.map (bw n)),9),some (.mp (.t ((ks++[(s,g)]).map dh)) ((ks++[(s,g)]).map λk=>aL n (jr f z (W1++[(s,g,r)]) k)),1),i9 s,i9 g,r9 n r],by rfl,.inl ?_,ks++[(s,g)],?_,by simp;omega,λk=>?_,_,_,_,rfl⟩
   ·unfold AR;have hj:=EK (f:=f) hn hr hr;rw[EY dh vA _ hm]at gW;refine(Bh (bq (cu rfl (cu (Bi hd lG rfl rfl gW) (cu rfl rfl))) rfl hj) hd lG rfl (by simp;exact yA) ((nU _).trans (by rw[Ql λq=>hm ((Bg dh vA).mp q)]))).trans ?_;have e2:(ks.map λk=>aL n (jr f z W1 k))++[aL n (λi=>f (r i) (r i))]=(ks++[(s,g)]).map λk=>aL n (jr f z (W1++[(s,g,r)]) k):=by
     rw[QU];congr 1
     ·exact QX λa ha=>tH λi _=>by rw[vB,Ql (λq=>hm (by rw[show(s,g)=a from q];exact ha))]
     ·show [_]=[_];congr 1;exact tH λi hi=>by rw[vB,Qi rfl,j3e (λq=>hm ((mem _).mpr q)),bz _ (hr i hi),L.idem _ (hr i hi)]
    rw[e2,QU (f:=dh)];rfl
   ·exact List.nodup_append.mpr ⟨nd,by simp,λa ha b hb=>by rw[QF.mp hb];exact λq=>hm (by rw[<- q];exact ha)⟩
   ·show _ ↔ k∈(W1++[(s,g,r)]).map _;rw[QU,QO,QO,mem];exact Iff.rfl)
  ⟨[],JE,Qj _,λk=>by simp[pW],none,none,none,rfl⟩
 rw[Qc]at lk;rw[Qc,Jl]at mem e;have hb:∀ x∈pW W,x.2<1000:=λx hx=>by obtain⟨w,hw,rfl⟩:=Qk.mp hx;exact hp w hw
 have hs:=z3k hb nd mem;have hbk:∀ x∈ks,x.2<1000:=λx hx=>hb x ((mem x).mp hx);unfold xO LM;refine dG ?_;show aJ _ _ [t9 n f,some (.tup (W.map (bw n)),9),none,none,none,none]=_;refine(aU (ρ1:=[t9 n f,some (.tup (W.map (bw n)),9),some (.mp (.t []) [],1),none,none,none]) rfl).trans ?_;refine(aU ((gZ (ρ1:=[t9 n f,some (.tup (W.map (bw n)),9),some (.mp (.t []) [],1),none,none,none]) (by simp;omega)).trans e)).trans ?_;refine fC (ρ1:=[t9 n f,some (.tup (W.map (bw n)),9),some (.mp (.t (ks.map dh)) (ks.map λk=>aL n (jr f z W k)),1),a,b,c]) ?_;have E6:xu 2 [t9 n f,some (.tup (W.map (bw n)),9),some (.mp (.t (ks.map dh)) (ks.map λk=>aL n (jr f z W k)),1),a,b,c]=some (.lst ((qg (pW W)).map mz),1,[t9 n f,some (.tup (W.map (bw n)),9),some (.mp (.t (ks.map dh)) (ks.map λk=>aL n (jr f z W k)),1),a,b,c]):=by show(match tB (ks.map dh)with|some kp=>if kp.length<64 then some (D.lst ((kD kp).map mz),1,_)else none|none=>none)=_;rw[Kv ks hbk];show(if ks.length<64 then some (D.lst ((kD ks).map mz),1,_)else none)=_;rw[Qi (by omega),hs]
 have hsl:((qg (pW W)).map mz).length<=1000:=by rw[Qc,<- hs];have:=(ZY ks λa b=>decide (rk a<=rk b)).length_eq;show(ks.mergeSort _).length<=1000;omega
 have hit:cz (xu 2) [t9 n f,some (.tup (W.map (bw n)),9),some (.mp (.t (ks.map dh)) (ks.map λk=>aL n (jr f z W k)),1),a,b,c]=some ((qg (pW W)).map mz,[t9 n f,some (.tup (W.map (bw n)),9),some (.mp (.t (ks.map dh)) (ks.map λk=>aL n (jr f z W k)),1),a,b,c]):=by unfold cz;rw[E6];exact Qi hsl
 have hc:=fB (k:=2) (pt:=gX (bU (aA 6) (bU (aA 7) gq))) (tt:=di) (te:=dF (ae (aa 6) (ae (aa 7) (ae (u0 2 (dF (ae (aa 6) (ae (aa 7) ah)))) ah)))) (deep:=false) hit (lZ (k:=2) mz (λk=>[i9 k.1,i9 k.2]) (λ_=>true) (λk=>bw n (k.1,k.2,jr f z W k)) (λ_=>9) (qg (pW W)) (λk hk=>by
  refine⟨rfl,rfl,λ_=>?_⟩;have DM:k∈ks:=(mem k).mpr (Bj.mp hk);have hg:q_ (.t (ks.map dh)) (ks.map λk=>aL n (jr f z W k)) (.tup [iD k.1,iD k.2])=some (some (aL n (jr f z W k))):=by show some (vL (ks.map dh) (ks.map λk=>aL n (jr f z W k)) (dh k))=_;rw[Bf dh vA _ DM]
  have hix:=j3q (i:=2) (fk:=dF (ae (aa 6) (ae (aa 7) ah))) (ρ:=[(t9 n f),some (.tup (W.map (bw n)),9),some (.mp (.t (ks.map dh)) (ks.map λk=>aL n (jr f z W k)),1),a,b,c]++[(i9 k.1),(i9 k.2)]) rfl rfl rfl hg;have hh:=cu (f:=aa 6) (ρ:=[(t9 n f),some (.tup (W.map (bw n)),9),some (.mp (.t (ks.map dh)) (ks.map λk=>aL n (jr f z W k)),1),a,b,c]++[(i9 k.1),(i9 k.2)]) rfl (cu (f:=aa 7) rfl (bV hix));exact yx hh (by show 3<=1000;decide)))
 rw[Y1.mpr (λ_ _=>rfl)]at hc;refine(k9 (bV hc)).trans ?_;unfold jW;rw[QV];rfl
theorem y1l(hl:B.length<=60)(hB:∀ b∈B,b.2<n)(hp:∀ b∈B,b.1<p):xQ [aN n f,.tup (B.map cm)]=some (.tup ((jB f z p B).map cm),9):=by
 have hn:n<=16:=L.hi;obtain⟨ρ',e,ks,nd,lk,mem,a,b,rfl⟩:=kh (pt:=gX (bU (aA 3) (bU (aA 4) gq))) (body:=AS) (B.map cm)
  (λi ρ=>∃ ks:List Nat,ks.Nodup/\ks.length<=i/\(∀ k,k∈ks ↔ k∈(B.take i).map (·.1))/\∃ a b,ρ=[t9 n f,some (.tup (B.map cm),9),some (.mp (.k (ks.map kN)) (ks.map λk=>(iD (jb f z (B.take i) k))),1),a,b])
  [t9 n f,some (.tup (B.map cm),9),some (.mp (.k []) [],1),none,none] (λi hi ρ aj=>by
  obtain⟨ks,nd,lk,mem,a,b,hr⟩:=aj;subst hr;have bS:i<B.length:=by rw[Qc]at hi;exact hi
  have hw:=QW bS;have ed:(B.map cm)[i]=cm B[i]:=by simp
  have et:B.take (i+1)=B.take i++[B[i]]:=by rw[J2];simp[bS]
  rw[ed,et];have yz:∀ w∈B.take i,w.2<n:=λw m=>hB w (J6 m);generalize B.take i=W1 at *
  generalize B[i]=w at *
  obtain⟨s,r⟩:=w;have hr:r<n:=hB _ hw;have yA:ks.length<1000:=by omega
  have E5:jb f z W1 s<n:=Bl L hz bz yz s;refine⟨[t9 n f,some (.tup (B.map cm),9),some (.mp (.k (ks.map kN)) (ks.map λk=>(iD (jb f z W1 k))),1),i9 s,i9 r],?_⟩;have hd:eK ([t9 n f,some (.tup (B.map cm),9),some (.mp (.k (ks.map kN)) (ks.map λk=>(iD (jb f z W1 k))),1),i9 s,i9 r]:aW)[2]? = true:=rfl;have gW:q_ (.k (ks.map kN)) (ks.map λk=>(iD (jb f z W1 k))) (iD s)=some (vL (ks.map kN) (ks.map λk=>(iD (jb f z W1 k))) (kN s)):=rfl;have nU:∀ d,xt (.k (ks.map kN)) (ks.map λk=>(iD (jb f z W1 k))) (iD s) d=some (if nI (ks.map kN) (kN s)=true then(MK.k (ks.map kN),kg (ks.map kN) (ks.map λk=>(iD (jb f z W1 k))) (kN s) d)else(.k (ks.map kN++[kN s]),(ks.map λk=>(iD (jb f z W1 k)))++[d])):=λd=>rfl;by_cases hm:s∈ks
  ·refine⟨[t9 n f,some (.tup (B.map cm),9),some (.mp (.k (ks.map kN)) (ks.map λk=>(iD (jb f z (W1++[(s,r)]) k))),1),i9 s,i9 r],by rfl,.inl ?_,ks,nd,by omega,λk=>?_,_,_,rfl⟩
   ·unfold AS;rw[Bf kN yw _ hm]at gW;have h1:=Bi (i:=2) (fk:=aa 3) (fz:=aa 4) hd rfl rfl rfl gW;have h2:=rG (i:=0) (q:=9) h1 rfl (k_ (f:=f) E5) rfl;have h3:=Ba (b:=aa 4) h2 rfl (lU (f:=f) (i:=jb f z W1 s) hr) rfl rfl;refine(Bh h3 hd rfl rfl (by simp;exact yA) ((nU _).trans (by rw[Qi ((Bg kN yw).mpr hm),EZ kN yw]))).trans ?_;have e2:(ks.map λa=>if a=s then(iD (f (jb f z W1 s) r))else(iD (jb f z W1 a)))=ks.map λk=>(iD (jb f z (W1++[(s,r)]) k)):=QX λa _=>by
     by_cases ha:a=s
     ·subst ha;rw[Qi rfl,Bk,Qi rfl]
     ·rw[Ql ha,Bk,Ql (λq=>ha q.symm)]
    rw[e2];rfl
   ·rw[mem];rw[QU,QO];refine⟨.inl,λh=>h.elim id λh=>?_⟩;have:k=s:=QF.mp h;rw[this];exact(mem _).mp hm
  ·refine⟨[t9 n f,some (.tup (B.map cm),9),some (.mp (.k ((ks++[s]).map kN)) ((ks++[s]).map λk=>(iD (jb f z (W1++[(s,r)]) k))),1),i9 s,i9 r],by rfl,.inl ?_,ks++[s],?_,by simp;omega,λk=>?_,_,_,rfl⟩
   ·unfold AS;rw[EY kN yw _ hm]at gW;have h1:=Bi (i:=2) (fk:=aa 3) (fz:=aa 4) hd rfl rfl rfl gW;have h2:=rG (i:=0) (q:=9) h1 rfl (k_ (f:=f) hr) rfl;have h3:=Ba (b:=aa 4) h2 rfl (lU (f:=f) (i:=r) hr) rfl rfl;refine(Bh h3 hd rfl rfl (by simp;exact yA) ((nU _).trans (by rw[Ql λq=>hm ((Bg kN yw).mp q)]))).trans ?_;have e2:(ks.map λk=>(iD (jb f z W1 k)))++[iD (f r r)]=(ks++[s]).map λk=>(iD (jb f z (W1++[(s,r)]) k)):=by
     rw[QU];congr 1
     ·exact QX λa ha=>by rw[Bk,Ql (λq=>hm (by rw[show s=a from q];exact ha))]
     ·show [iD (f r r)]=[iD (jb f z (W1++[(s,r)]) s)];rw[Bk,Qi rfl,j2g (λq=>hm ((mem _).mpr q)),bz _ hr,L.idem _ hr]
    rw[e2,QU (f:=kN)];rfl
   ·exact List.nodup_append.mpr ⟨nd,by simp,λa ha b hb=>by rw[QF.mp hb];exact λq=>hm (by rw[<- q];exact ha)⟩
   ·rw[QU,QO,QO,mem];exact Iff.rfl)
  ⟨[],JE,Qj _,λk=>by simp,none,none,rfl⟩
 rw[Qc]at lk;rw[Qc,Jl]at mem e;have hv:∀ a,jb f z B a<1000:=λa=>by have:=Bl L hz bz hB a;omega
 have zW:∀ x∈ks.map (λa=>(a,jb f z B a)),x.2<1000:=λx hx=>by obtain⟨a,_,rfl⟩:=Qk.mp hx;exact hv a
 have hs:jB f z p B=kD (ks.map λa=>(a,jb f z B a)):=by
  refine AD zW (List.Perm.map _ (AA (Jm.filter _) nd λa=>?_)) (k08 ?_)
  ·rw[QS,mem,Qv];refine⟨λh=>?_,λh=>⟨?_,?_⟩⟩
   ·have h2:¬ gB B a=[]:=λq=>by have:=h.2;rw[Qr q]at this;cases this
    exact Vt λq=>h2 (yy.mpr q)
   ·obtain⟨b,hb,rfl⟩:=Qk.mp h;exact hp b hb
   ·rw[Qy λq=>yy.mp q h];rfl
  ·refine J0.mpr ((VX.filter _).imp λ{a b} h=>?_);have h1:=hv a;show Int.ofNat (a*1000+jb f z B a)<=Int.ofNat (b*1000+jb f z B b);exact Int.ofNat_le.mpr (by omega)
 unfold xQ LP;refine dG ?_;show aJ _ _ [t9 n f,some (.tup (B.map cm),9),none,none,none]=_;refine(aU (ρ1:=[t9 n f,some (.tup (B.map cm),9),some (.mp (.k []) [],1),none,none]) rfl).trans ?_;refine(aU ((gZ (ρ1:=[t9 n f,some (.tup (B.map cm),9),some (.mp (.k []) [],1),none,none]) (by simp;omega)).trans e)).trans ?_;refine fC (ρ1:=[t9 n f,some (.tup (B.map cm),9),some (.mp (.k (ks.map kN)) (ks.map λk=>(iD (jb f z B k))),1),a,b]) ?_;have E6:AG 2 [t9 n f,some (.tup (B.map cm),9),some (.mp (.k (ks.map kN)) (ks.map λk=>(iD (jb f z B k))),1),a,b]=some (.lst ((jB f z p B).map mz),1,[t9 n f,some (.tup (B.map cm),9),some (.mp (.k (ks.map kN)) (ks.map λk=>(iD (jb f z B k))),1),a,b]):=by show(match rf (ks.map kN) (ks.map λk=>(iD (jb f z B k)))with|some kp=>if kp.length<64 then some (D.lst ((kD kp).map mz),1,_)else none|none=>none)=_;have:=KH (ks.map λa=>(a,jb f z B a)) zW;rw[QV,QV]at this;rw[show rf (ks.map kN) (ks.map λk=>(iD (jb f z B k)))=some (ks.map λa=>(a,jb f z B a))from this];show(if(ks.map λa=>(a,jb f z B a)).length<64 then some (D.lst ((kD (ks.map λa=>(a,jb f z B a))).map mz),1,_)else none)=_;rw[Qi (by rw[Qc];omega),<- hs]
 exact k9 (bV E6)
theorem E7{C:ck}(hC:C.Ok n f):p_ [aN n f,bF n C]=(c9 n (jC f z C)):=by have h1:=y48 L hz bz hC.tV (λw hw=>(hC.ws w hw).2.2.1) (λw hw=>by have:=(hC.ws w hw).2.1;have:=hC.p8;omega);have h2:=y1l L hz bz hC.yq (λb hb=>(hC.bs b hb).2) (λb hb=>(hC.bs b hb).1);unfold p_ LQ;have a0:da (bF n C) 0=some (iD C.p):=rfl;have a1:da (bF n C) 1=some (.tup (C.W.map (bw n))):=rfl;have a2:da (bF n C) 2=some (.tup (C.B.map cm)):=rfl;refine dG (fC (ρ1:=[t9 n f,c9 n C]) ?_);simp[-ofNat_eq_natCast,a0,a1,a2,h1,h2];rfl
end
theorem t5{C:ck}:mB f (iM C) v ↔ (∀ b∈C.B,f b.2 (gv v b.1)=gv v b.1)/\∀ w∈C.W,f (w.2.2 (gv v w.1)) (gv v w.2.1)=gv v w.2.1:=by
 constructor
 ·intro h;exact⟨λb hb=>h (tX b) (Q2 _ (ZH hb)),λw hw=>h (yt w) (Qu _ (ZH hw))⟩
 ·rintro ⟨h1,h2⟩ s hs;rcases QO.mp hs with h|h
  ·obtain⟨b,hb,rfl⟩:=Qk.mp h;exact h1 b hb
  ·obtain⟨w,hw,rfl⟩:=Qk.mp h;exact h2 w hw
theorem iV{k:Nat×Nat}:x∈gR W k i ↔ ∃ w∈W,(w.1,w.2.1)=k/\w.2.2 i=x:=by unfold gR;rw[Qk];exact⟨λ⟨w,hw,e⟩=>⟨w,(QS.mp hw).1,QM (QS.mp hw).2,e⟩,λ⟨w,hw,e1,e2⟩=>⟨w,QS.mpr ⟨hw,Qr e1⟩,e2⟩⟩
theorem rH:x∈gB B p ↔ (p,x)∈B:=by
 unfold gB;rw[Qk];exact⟨λ⟨w,hw,e⟩=>by obtain⟨h1,h2⟩:=QS.mp hw;have:w=(p,x):=Ue (QM h2) e;rw[<- this];exact h1,λh=>⟨(p,x),QS.mpr ⟨h,Qr rfl⟩,rfl⟩⟩
theorem yB{w:Nat×Nat×(Nat->Nat)}:w∈jW f z W ↔ ∃ k∈pW W,w=(k.1,k.2,jr f z W k):=by unfold jW;rw[Qk];exact⟨λ⟨k,hk,e⟩=>⟨k,Bj.mp hk,e.symm⟩,λ⟨k,hk,e⟩=>⟨k,Bj.mpr hk,e.symm⟩⟩
theorem Bm{b:Nat×Nat}:b∈jB f z p B ↔ ∃ a,a<p/\a∈B.map (·.1)/\b=(a,jb f z B a):=by
 unfold jB;rw[Qk];constructor
 ·rintro ⟨a,ha,e⟩;obtain⟨h1,h2⟩:=QS.mp ha;refine⟨a,Qv.mp h1,Vt λq=>?_,e.symm⟩;rw[Qr (yy.mpr q)]at h2;cases h2
 ·rintro ⟨a,h1,h2,e⟩;exact⟨a,QS.mpr ⟨Qv.mpr h1,by rw[Qy λq=>yy.mp q h2];rfl⟩,e.symm⟩
section
variable {n:Nat}{f:Nat->Nat->Nat}(L:ba n f){z:Nat}(hz:z<n)(bz:∀ j,j<n->f z j=j){C:ck}(hC:C.Ok n f)
include L hz bz hC
theorem Nl:(jC f z C).Ok n f:=by
 have hl:∀ w∈C.W,∀ i,i<n->w.2.2 i<n:=λw hw=>(hC.ws w hw).2.2.1;refine⟨hC.p1,hC.p8,?_,?_,λw hw=>?_,λb hb=>?_⟩
 ·show(jW f z C.W).length<=60;unfold jW;rw[Qc];have h1:=qf (Nk (pW C.W)) (λx hx=>Bj.mp hx);have h2:(pW C.W).length=C.W.length:=Qc _;have:=hC.tV;omega
 ·show(jB f z C.p C.B).length<=60;unfold jB;rw[Qc];have:=Q7 (λa=>!decide (gB C.B a=[])) (range C.p);rw[QI]at this;have:=hC.p8;omega
 ·obtain⟨k,hk,rfl⟩:=yB.mp hw;obtain⟨w0,yC,rfl⟩:=Qk.mp hk;obtain⟨a1,a2,a3,a4⟩:=hC.ws w0 yC;refine⟨a1,a2,λi hi=>l0 L hz bz hl _ hi,λx y hx hy e=>?_⟩;refine L.bL hz bz (l0 L hz bz hl _ hy) (λu hu=>?_) λu hu=>?_
  ·obtain⟨w1,Bn,_,rfl⟩:=iV.mp hu;exact hl w1 Bn x hx
  ·obtain⟨w1,Bn,e1,rfl⟩:=iV.mp hu;obtain⟨_,_,b3,b4⟩:=hC.ws w1 Bn;refine L.le_trans (b3 x hx) (b3 y hy) (l0 L hz bz hl _ hy) (b4 x y hx hy e) (L.bY hz (λu hu=>?_) (iV.mpr ⟨w1,Bn,e1,rfl⟩));obtain⟨w2,nV,_,rfl⟩:=iV.mp hu;exact hl w2 nV y hy
 ·obtain⟨a,h1,h2,rfl⟩:=Bm.mp hb;exact⟨h1,Bl L hz bz (λb hb=>(hC.bs b hb).2) a⟩
theorem Nm(hv:Vn n C.p v):mB f (iM (jC f z C)) v ↔ mB f (iM C) v:=by
 have hl:∀ w∈C.W,∀ i,i<n->w.2.2 i<n:=λw hw=>(hC.ws w hw).2.2.1;have oM:∀ b∈C.B,b.2<n:=λb hb=>(hC.bs b hb).2;rw[t5,t5];constructor
 ·rintro ⟨h1,h2⟩;refine⟨λb hb=>?_,λw hw=>?_⟩
  ·have eZ:b.1<C.p:=(hC.bs b hb).1;have:=h1 (b.1,jb f z C.B b.1) (Bm.mpr ⟨b.1,eZ,ZH hb,rfl⟩);refine L.le_trans (oM b hb) (Bl L hz bz oM b.1) (hv.gv eZ) (L.bY hz (λu hu=>oM _ (rH.mp hu)) (rH.mpr hb)) this
  ·obtain⟨a1,a2,a3,a4⟩:=hC.ws w hw;have:=h2 (w.1,w.2.1,jr f z C.W (w.1,w.2.1)) (yB.mpr ⟨(w.1,w.2.1),ZH hw,rfl⟩);have hx:=hv.gv a1;refine L.le_trans (a3 _ hx) (l0 L hz bz hl _ hx) (hv.gv a2) (L.bY hz (λu hu=>?_) (iV.mpr ⟨w,hw,rfl,rfl⟩)) this;obtain⟨w2,nV,_,rfl⟩:=iV.mp hu;exact hl w2 nV _ hx
 ·rintro ⟨h1,h2⟩;refine⟨λb hb=>?_,λw hw=>?_⟩
  ·obtain⟨a,ha,_,rfl⟩:=Bm.mp hb;refine L.bL hz bz (hv.gv ha) (λu hu=>oM _ (rH.mp hu)) λu hu=>h1 (a,u) (rH.mp hu)
  ·obtain⟨k,hk,rfl⟩:=yB.mp hw;obtain⟨w0,yC,rfl⟩:=Qk.mp hk;obtain⟨a1,a2,a3,a4⟩:=hC.ws w0 yC;have hx:=hv.gv a1;refine L.bL hz bz (hv.gv a2) (λu hu=>?_) λu hu=>?_
   ·obtain⟨w2,nV,_,rfl⟩:=iV.mp hu;exact hl w2 nV _ hx
   ·obtain⟨w2,nV,e,rfl⟩:=iV.mp hu;have:=h2 w2 nV;have e1:w2.1=w0.1:=(YO e).1;have e2:w2.2.1=w0.2.1:=(YO e).2;rw[e1,e2]at this;exact this
theorem Nn(h:h_ n f C.p (iM C) (jh C.p z) u)(h':h_ n f C.p (iM (jC f z C)) (jh C.p z) u'):u'=u:=
 L.jO h'.V h.V (h'.le u h.V ((Nm L hz bz hC h.V).mpr h.cl) h.up) (h.le u' h'.V ((Nm L hz bz hC h'.V).mp h'.cl) h'.up)
end
abbrev Wy:=Nat×Nat×(Nat->Nat)
def eN (C:ck)(q:Nat):List (Nat×(Nat->Nat)):=(C.W.filter λw=>decide (w.2.1=q) && !decide (w.1=q)).map λw=>(w.1,w.2.2)
def cC (C:ck)(q:Nat)(c:Nat->Nat):List (Nat×(Nat->Nat)):=(C.W.filter λw=>decide (w.1=q) && !decide (w.2.1=q)).map λw=>(w.2.1,λi=>w.2.2 (c i))
def iw (z:Nat)(C:ck)(q:Nat):List Nat:=z::gB C.B q
def oW (C:ck)(q:Nat)(c:Nat->Nat):List Wy:=(C.W.filter λw=>!decide (q ∈ [w.1,w.2.1]))++(cC C q c).flatMap λg=>(eN C q).map λa=>(a.1,g.1,λi=>g.2 (a.2 i))
def oB (z:Nat)(C:ck)(q:Nat)(c:Nat->Nat):List (Nat×Nat):=(C.B.filter λb=>!decide (b.1=q))++(cC C q c).flatMap λg=>(iw z C q).map λv=>(g.1,g.2 v)
theorem t6{C:ck}{a:Nat×(Nat->Nat)}:a∈eN C q ↔ (a.1,q,a.2)∈C.W/\a.1≠q:=by
 unfold eN;constructor
 ·intro h;obtain⟨w,hw,rfl⟩:=Qk.mp h;obtain⟨h1,h2⟩:=QS.mp hw;rw[ZF,YC]at h2;have e:w.2.1=q:=QM h2.1;exact⟨by rw[<- e];exact h1,JO h2.2⟩
 ·rintro ⟨h1,h2⟩;exact Qk.mpr ⟨_,QS.mpr ⟨h1,by rw[Qr rfl,Qy h2];rfl⟩,rfl⟩
theorem vC{C:ck}{g:Nat×(Nat->Nat)}:g∈cC C q c ↔ ∃ r,(q,g.1,r)∈C.W/\g.1≠q/\g.2=λi=>r (c i):=by
 unfold cC;constructor
 ·intro h;obtain⟨w,hw,rfl⟩:=Qk.mp h;obtain⟨h1,h2⟩:=QS.mp hw;rw[ZF,YC]at h2;have e:w.1=q:=QM h2.1;exact⟨w.2.2,by rw[<- e];exact h1,JO h2.2,rfl⟩
 ·rintro ⟨r,h1,h2,h3⟩;exact Qk.mpr ⟨_,QS.mpr ⟨h1,by rw[Qr rfl,Qy h2];rfl⟩,by rw[<- h3]⟩
theorem t7{C:ck}{w:Wy}:w∈oW C q c ↔ (w∈C.W/\w.1≠q/\w.2.1≠q)\/∃ (a:Nat×(Nat->Nat)) (r:Nat->Nat),(a.1,q,a.2)∈C.W/\a.1≠q/\(q,w.2.1,r)∈C.W/\w.2.1≠q/\w.1=a.1/\w.2.2=λi=>r (c (a.2 i)):=by
 unfold oW;rw[QO,QS,VP];refine or_congr (and_congr_right λ_=>?_) ⟨?_,?_⟩
 ·rw[YC,JH];exact⟨λh=>⟨λe=>h (by rw[e];exact Qh),λe=>h (by rw[e];exact Qf _ Qh)⟩,λ⟨h1,h2⟩ h=>by
   rcases Qs.mp h with e|e
   ·exact h1 e.symm
   ·exact h2 (QF.mp e).symm⟩
 ·rintro ⟨g,hg,hw⟩;obtain⟨a,ha,rfl⟩:=Qk.mp hw;obtain⟨r,h1,h2,h3⟩:=vC.mp hg;obtain⟨h4,h5⟩:=t6.mp ha;exact⟨a,r,h4,h5,h1,h2,rfl,by rw[h3]⟩
 ·rintro ⟨a,r,h1,h2,h3,h4,h5,h6⟩;refine⟨(w.2.1,λi=>r (c i)),vC.mpr ⟨r,h3,h4,rfl⟩,Qk.mpr ⟨a,t6.mpr ⟨h1,h2⟩,?_⟩⟩;rw[<- h5,<- h6]
theorem E8{C:ck}{v:Nat}:v∈iw z C q ↔ v=z\/(q,v)∈C.B:=by unfold iw;rw[Qs,rH]
theorem vD{C:ck}{b:Nat×Nat}:b∈oB z C q c ↔ (b∈C.B/\b.1≠q)\/∃ r v,(q,b.1,r)∈C.W/\b.1≠q/\(v=z\/(q,v)∈C.B)/\b.2=r (c v):=by
 unfold oB;rw[QO,QS,VP];refine or_congr (and_congr_right λ_=>?_) ⟨?_,?_⟩
 ·rw[YC,JH]
 ·rintro ⟨g,hg,hw⟩;obtain⟨v,hv,rfl⟩:=Qk.mp hw;obtain⟨r,h1,h2,h3⟩:=vC.mp hg;exact⟨r,v,h1,h2,E8.mp hv,by rw[h3]⟩
 ·rintro ⟨r,v,h1,h2,h3,h4⟩;exact⟨(b.1,λi=>r (c i)),vC.mpr ⟨r,h1,h2,rfl⟩,Qk.mpr ⟨v,E8.mpr h3,by show(b.1,r (c v))=b;rw[<- h4]⟩⟩
structure yD (n z:Nat) (C:ck) (q:Nat) (c:Nat->Nat) (E:ck):Prop where
 p:E.p=C.p
 w:∀ e∈E.W,e∈oW C q c
 w':∀ w∈oW C q c,∃ e∈E.W,e.1=w.1/\e.2.1=w.2.1/\∀ i,i<n->e.2.2 i=w.2.2 i
 b:∀ b,b∈E.B ↔ b∈oB z C q c
def Lp (n:Nat)(f:Nat->Nat->Nat)(J c:Nat->Nat):Prop:=∀ y,y<n->c y<n/\f y (c y)=c y/\f (J (c y)) (c y)=c y/\∀ x,x<n->f y x=x->f (J x) x=x->f (c y) x=x
section
variable {n:Nat}{f:Nat->Nat->Nat}(L:ba n f){z:Nat}(hz:z<n)(bz:∀ j,j<n->f z j=j)
include L hz bz
theorem E9(h:Lp n f J c)(hx:x<n)(hy:y<n)(e:f x y=y):f (c x) (c y)=c y:=by obtain⟨a1,a2,a3,a4⟩:=h x hx;obtain⟨b1,b2,b3,b4⟩:=h y hy;exact a4 _ b1 (L.le_trans hx hy b1 e b2) b3
theorem vE(ha:a<n)(hb:b<n)(hx:x<n)(h1:f a x=x)(h2:f b x=x):f (f a b) x=x:=by rw[L.assoc a b x ha hb hx,h2,h1]
theorem vF(ha:a<n)(hb:b<n):f a (f a b)=f a b:=by rw[<- L.assoc a a b ha ha hb,L.idem a ha]
theorem yE(ha:a<n)(hb:b<n):f b (f a b)=f a b:=by rw[L.comm a b ha hb];exact vF L hz bz hb ha
theorem z7o(h:d9 n f r=true)(hx:x<n)(hy:y<n)(e:f x y=y):f (r x) (r y)=r y:=by rw[<- jA.mp h x y hx hy,e]
theorem Np(hJ:∀ i,i<n->J i<n)(h:Lp n f J c)(s:d9 n f J=true):d9 n f c=true:=jA.mpr λx y hx hy=>by
 have k7:=L.cl x y hx hy;obtain⟨a1,a2,a3,a4⟩:=h x hx;obtain⟨b1,b2,b3,b4⟩:=h y hy;obtain⟨c1,c2,c3,c4⟩:=h _ k7;have ab:=L.cl _ _ a1 b1;have p1:f (c (f x y)) (f (c x) (c y))=f (c x) (c y):=by refine c4 _ ab (vE L hz bz hx hy ab (L.le_trans hx a1 ab a2 (vF L hz bz a1 b1)) (L.le_trans hy b1 ab b2 (yE L hz bz a1 b1))) ?_;rw[jA.mp s _ _ a1 b1];exact vE L hz bz (hJ _ a1) (hJ _ b1) ab (L.le_trans (hJ _ a1) a1 ab a3 (vF L hz bz a1 b1)) (L.le_trans (hJ _ b1) b1 ab b3 (yE L hz bz a1 b1))
 have p2:f (f (c x) (c y)) (c (f x y))=c (f x y):=vE L hz bz a1 b1 c1 (E9 L hz bz h hx k7 (vF L hz bz hx hy)) (E9 L hz bz h hy k7 (yE L hz bz hx hy));rw[<- p1,L.comm _ _ c1 ab,p2]
theorem Nq(hr:∀ i,i<n->r i<n)(s:d9 n f r=true)(hx:x<n):∀ {l:List Nat} {a:Nat},a<n->(∀ y∈l,y<n)->f (r a) x=x->(∀ y∈l,f (r y) x=x)->f (r (l.foldl f a)) x=x
 | [],a,_,_,h,_=>h
 | y::l,a,ha,hl,h,h'=>by have hy:=hl y Qh;show f (r (l.foldl f (f a y))) x=x;refine Nq hr s hx (L.cl a y ha hy) (λy' m=>hl y' (Qf _ m)) ?_ λy' m=>h' y' (Qf _ m);rw[jA.mp s a y ha hy];exact vE L hz bz (hr a ha) (hr y hy) hx h (h' y Qh)
theorem E_{W:List Wy}(hW:∀ w∈W,(∀ i,i<n->w.2.2 i<n)/\d9 n f w.2.2=true)(k:Nat×Nat):d9 n f (jr f z W k)=true:=jA.mpr λx y hx hy=>by
 have hl:∀ w∈W,∀ i,i<n->w.2.2 i<n:=λw hw=>(hW w hw).1;have k7:=L.cl x y hx hy;have j1:=l0 L hz bz hl k hx;have j2:=l0 L hz bz hl k hy;have j3:=l0 L hz bz hl k k7;have yF:=L.cl _ _ j1 j2;have lt:∀ {i},i<n->∀ v∈gR W k i,v<n:=λhi v hv=>by obtain⟨w,hw,_,rfl⟩:=iV.mp hv;exact hl w hw _ hi
 have ub:∀ {i},i<n->∀ w∈W,(w.1,w.2.1)=k->f (w.2.2 i) (jr f z W k i)=jr f z W k i:=λhi w hw e=>L.bY hz (lt hi) (iV.mpr ⟨w,hw,e,rfl⟩);have p1:f (jr f z W k (f x y)) (f (jr f z W k x) (jr f z W k y))=f (jr f z W k x) (jr f z W k y):=L.bL hz bz yF (lt k7) λv hv=>by obtain⟨w,hw,e,rfl⟩:=iV.mp hv;rw[jA.mp (hW w hw).2 x y hx hy];exact vE L hz bz (hl w hw x hx) (hl w hw y hy) yF (L.le_trans (hl w hw x hx) j1 yF (ub hx w hw e) (vF L hz bz j1 j2)) (L.le_trans (hl w hw y hy) j2 yF (ub hy w hw e) (yE L hz bz j1 j2))
 have mono:∀ {i},i<n->f i (f x y)=f x y->f (jr f z W k i) (jr f z W k (f x y))=jr f z W k (f x y):=λhi e=>L.bL hz bz j3 (lt hi) λv hv=>by obtain⟨w,hw,e',rfl⟩:=iV.mp hv;exact L.le_trans (hl w hw _ hi) (hl w hw _ k7) j3 (z7o L hz bz (hW w hw).2 hi k7 e) (ub k7 w hw e')
 have p2:=vE L hz bz j1 j2 j3 (mono hx (vF L hz bz hx hy)) (mono hy (yE L hz bz hx hy));rw[<- p1,L.comm _ _ j3 yF,p2]
variable {C:ck}(hC:C.Ok n f){q:Nat}(hq:q<C.p){c:Nat->Nat}(hc:Lp n f (jr f z C.W (q,q)) c){E:ck}(O:yD n z C q c E)
include hC hq hc O
theorem j63(h1:E.W.length<=60)(h2:E.B.length<=60):E.Ok n f:=by
 refine⟨by rw[O.p];exact hC.p1,by rw[O.p];exact hC.p8,h1,h2,λw hw=>?_,λb hb=>?_⟩
 ·rw[O.p];rcases t7.mp (O.w w hw)with⟨h,_,_⟩|⟨a,r,k1,_,k2,_,e1,e2⟩
  ·exact hC.ws w h
  ·obtain⟨a1,a2,a3,a4⟩:=hC.ws _ k1;obtain⟨b1,b2,b3,b4⟩:=hC.ws _ k2;have cl:∀ i,i<n->c (a.2 i)<n:=λi hi=>(hc _ (a3 i hi)).1;refine⟨by rw[e1];exact a1,b2,λi hi=>by rw[e2];exact b3 _ (cl i hi),λx y hx hy e=>?_⟩;rw[e2];exact b4 _ _ (cl x hx) (cl y hy) (E9 L hz bz hc (a3 x hx) (a3 y hy) (a4 x y hx hy e))
 ·rw[O.p];rcases vD.mp ((O.b b).mp hb)with⟨h,_⟩|⟨r,v,k1,_,k2,e⟩
  ·exact hC.bs b h
  ·obtain⟨b1,b2,b3,b4⟩:=hC.ws _ k1;have hv:v<n:=by
    rcases k2 with rfl|k2
    ·exact hz
    ·exact(hC.bs _ k2).2
   exact⟨b2,by rw[e];exact b3 _ (hc v hv).1⟩
theorem j2d(hs:∀ w∈C.W,d9 n f w.2.2=true):∀ w∈E.W,d9 n f w.2.2=true:=λw hw=>by
 rcases t7.mp (O.w w hw)with⟨h,_,_⟩|⟨a,r,k1,_,k2,_,e1,e2⟩
 ·exact hs w h
 ·obtain⟨a1,a2,a3,a4⟩:=hC.ws _ k1;have s1:d9 n f a.2=true:=hs _ k1;have s2:d9 n f r=true:=hs _ k2;have cl:∀ i,i<n->c (a.2 i)<n:=λi hi=>(hc _ (a3 i hi)).1;have cs:=Np L hz bz (λi hi=>l0 L hz bz (λw hw=>(hC.ws w hw).2.2.1) _ hi) hc (E_ L hz bz (λw hw=>⟨(hC.ws w hw).2.2.1,hs w hw⟩) (q,q));refine jA.mpr λx y hx hy=>?_;rw[e2];show r (c (a.2 (f x y)))=f (r (c (a.2 x))) (r (c (a.2 y)));rw[jA.mp s1 x y hx hy,jA.mp cs _ _ (a3 x hx) (a3 y hy),jA.mp s2 _ _ (cl x hx) (cl y hy)]
theorem k0s(hu:Vn n C.p u)(cl:mB f (iM C) u){v:Nat}(hv:v<n)(h:f v (gv u q)=gv u q):f (c v) (gv u q)=gv u q:=by
 have hl:∀ w∈C.W,∀ i,i<n->w.2.2 i<n:=λw hw=>(hC.ws w hw).2.2.1;refine(hc v hv).2.2.2 _ (hu.gv hq) h (L.bL hz bz (hu.gv hq) (λx hx=>?_) λx hx=>?_)
 ·obtain⟨w,hw,_,rfl⟩:=iV.mp hx;exact hl w hw _ (hu.gv hq)
 ·obtain⟨w,hw,e,rfl⟩:=iV.mp hx;have:=(t5.mp cl).2 w hw;have e1:w.1=q:=(YO e).1;have e2:w.2.1=q:=(YO e).2;rw[e1,e2]at this;exact this
theorem j6u(hu:Vn n C.p u)(cl:mB f (iM C) u):mB f (iM E) u:=by
 obtain⟨c1,c2⟩:=t5.mp cl;have step:∀ {v r g},v<n->f v (gv u q)=gv u q->(q,g,r)∈C.W->f (r (c v)) (gv u g)=gv u g:=λ{v r g} hv h hw=>by obtain⟨b1,b2,b3,b4⟩:=hC.ws _ hw;have:=hc v hv;have k:=k0s L hz bz hC hq hc O hu cl hv h;exact L.le_trans (b3 _ this.1) (b3 _ (hu.gv hq)) (hu.gv b2) (b4 _ _ this.1 (hu.gv hq) k) (c2 _ hw)
 refine t5.mpr ⟨λb hb=>?_,λw hw=>?_⟩
 ·rcases vD.mp ((O.b b).mp hb)with⟨h,_⟩|⟨r,v,k1,_,k2,e⟩
  ·exact c1 b h
  ·rw[e];rcases k2 with rfl|k2
   ·exact step hz (bz _ (hu.gv hq)) k1
   ·exact step (hC.bs _ k2).2 (c1 _ k2) k1
 ·rcases t7.mp (O.w w hw)with⟨h,_,_⟩|⟨a,r,k1,_,k2,_,e1,e2⟩
  ·exact c2 w h
  ·obtain⟨a1,a2,a3,a4⟩:=hC.ws _ k1;rw[e1,e2];exact step (a3 _ (hu.gv a1)) (c2 _ k1) k2
theorem j3h(h:h_ n f C.p (iM C) (jh C.p z) u)(h':h_ n f C.p (iM E) (jh C.p z) u'):g_ f C.p u' u/\((∀ w∈C.W,d9 n f w.2.2=true)->∀ s,s<C.p->s≠q->gv u' s=gv u s):=by
 have Nr:g_ f C.p u' u:=h'.le u h.V (j6u L hz bz hC hq hc O h.V h.cl) h.up;refine⟨Nr,λhs s t8 mr=>?_⟩;obtain⟨d1,d2⟩:=t5.mp h'.cl;have hl:∀ w∈C.W,∀ i,i<n->w.2.2 i<n:=λw hw=>(hC.ws w hw).2.2.1;have cs:=Np L hz bz (λi hi=>l0 L hz bz hl _ hi) hc (E_ L hz bz (λw hw=>⟨(hC.ws w hw).2.2.1,hs w hw⟩) (q,q));obtain⟨S,hS⟩:∃ S:List Nat,S=gB C.B q++(eN C q).map λa=>a.2 (gv u' a.1):=⟨_,rfl⟩;have Bo:∀ x∈S,x<n:=λx hx=>by
  rw[hS]at hx;rcases QO.mp hx with hx|hx
  ·exact(hC.bs _ (rH.mp hx)).2
  ·obtain⟨a,ha,rfl⟩:=Qk.mp hx;have:=hC.ws _ (t6.mp ha).1;exact this.2.2.1 _ (h'.V.gv this.1)
 have hX:S.foldl f z<n:=L.fold_lt hz Bo;generalize hx:S.foldl f z=X at hX;obtain⟨x1,x2,x3,x4⟩:=hc X hX;have ul:q<u'.length:=by rw[h'.V.len];exact hq
 have V1:Vn n C.p (u'.set q (c X)):=h'.V.set x1;have Nt:∀ x∈S,f x (c X)=c X:=λx m=>L.le_trans (Bo x m) hX x1 (by rw[<- hx];exact L.bY hz Bo m) x2;have on:∀ {g r},(q,g,r)∈C.W->g≠q->f (r (c X)) (gv u' g)=gv u' g:=λ{g r} hw hg=>by
  obtain⟨b1,b2,b3,b4⟩:=hC.ws _ hw;have sp:d9 n f (λi=>r (c i))=true:=jA.mpr λx y hx hy=>by rw[jA.mp cs x y hx hy,jA.mp (show d9 n f r=true from hs _ hw) _ _ (hc x hx).1 (hc y hy).1]
  have hb:∀ v,(v=z\/(q,v)∈C.B)->f (r (c v)) (gv u' g)=gv u' g:=λv hv=>d1 (g,r (c v)) ((O.b _).mpr (vD.mpr (.inr ⟨r,v,hw,hg,hv,rfl⟩)));rw[<- hx];refine Nq L hz bz (r:=λi=>r (c i)) (λi hi=>b3 _ (hc i hi).1) sp (h'.V.gv b2) hz Bo (hb z (.inl rfl)) λy hy=>?_;rw[hS]at hy;rcases QO.mp hy with hy|hy
  ·exact hb y (.inr (rH.mp hy))
  ·obtain⟨a,ha,rfl⟩:=Qk.mp hy;obtain⟨k1,k2⟩:=t6.mp ha;have:=hC.ws _ k1;obtain⟨e,he,e1,e2,e3⟩:=O.w' (a.1,g,λi=>r (c (a.2 i))) (t7.mpr (.inr ⟨a,r,k1,k2,hw,hg,rfl,rfl⟩));have q2:=d2 e he;rw[e1,e2,e3 _ (h'.V.gv this.1)]at q2;exact q2
 have cl:mB f (iM C) (u'.set q (c X)):=by
  refine t5.mpr ⟨λb hb=>?_,λw hw=>?_⟩
  ·rw[xE ul];by_cases e:b.1=q
   ·rw[Qi e];exact Nt _ (by rw[hS];exact Q2 _ (rH.mpr (by rw[<- e];exact hb)))
   ·rw[Ql e];exact d1 b ((O.b b).mpr (vD.mpr (.inl ⟨hb,e⟩)))
  ·obtain⟨a1,a2,a3,a4⟩:=hC.ws w hw;rw[xE ul,xE ul];by_cases e1:w.1=q
   ·rw[Qi e1];by_cases e2:w.2.1=q
    ·rw[Qi e2];refine L.le_trans (a3 _ x1) (l0 L hz bz hl (q,q) x1) x1 (L.bY hz (λv hv=>?_) (iV.mpr ⟨w,hw,by rw[e1,e2],rfl⟩)) x3;obtain⟨w2,nV,_,rfl⟩:=iV.mp hv;exact hl w2 nV _ x1
    ·rw[Ql e2];exact on (by rw[<- e1];exact hw) e2
   ·rw[Ql e1];by_cases e2:w.2.1=q
    ·rw[Qi e2];exact Nt _ (by rw[hS];exact Qu _ (Qk.mpr ⟨(w.1,w.2.2),t6.mpr ⟨by rw[<- e2];exact hw,e1⟩,rfl⟩))
    ·rw[Ql e2];obtain⟨e,he,k1,k2,k3⟩:=O.w' w (t7.mpr (.inl ⟨hw,e1,e2⟩));have q2:=d2 e he;rw[k1,k2,k3 _ (h'.V.gv a1)]at q2;exact q2
 have Nu:=h.le _ V1 cl (j2z bz V1) s t8;rw[xE ul,Ql mr]at Nu;have l1:=Nr s t8;rw[<- Nu,L.comm _ _ (h.V.gv t8) (h'.V.gv t8),l1]
end
theorem Fb{g:cS}{a b:Bool}(e:g ρ=some (a,ρ))(e':h ρ=some (b,ρ)):ot g h ρ=some (a&&b,ρ):=by unfold ot;rw[e];cases a<;>first|rfl|exact e'
theorem j1i(h:g ρ=some (d,q,ρ1)):fy g ρ=some (.nx ρ1):=by unfold fy;rw[h]
theorem Nv{es:List D}(hl:pL ρ[i]? = true)(hg:g ρ=some (.lst es,1,ρ1))(h1:ρ1[i]? = some (some (.lst ds,1)))(hn:ds.length+es.length<=1000)(e:ρ1.set i (some (.lst (ds++es),1))=ρ2):fy (uQ i g) ρ=some (.nx ρ2):=by unfold fy uQ;rw[Qi hl,hg];simp only[h1];rw[Qi hn,e]
theorem j6q{a b:List D}(ha:fa ρ=some (.lst a,q,ρ1))(hb:fb ρ1=some (.lst b,q',ρ2))(h:a.length+b.length<=1000):sT fa fb ρ=some (.lst (a++b),1,ρ2):=by unfold sT;rw[ha];simp only[hb];exact Qi h
theorem z7n(v a b:Nat):sJ (iD v) (.tup (ai [a,b]))=some (.bl (!decide (v ∈ [a,b]))):=by unfold sJ;rw[Qi ⟨(Sh.int (k:=0) _).ok,(Sh.tup (k:=0) (EX (.int _) (.int _))).ok⟩,show inD (iD v) (.tup (ai [a,b]))=inD (iD v) (.lst (ai [a,b]))from rfl,M0];rfl
theorem z97{h k:Nat}(hk:k<h):iU h (iD k)=true:=by show(decide ((0:Int)<=(k:Int))&&decide ((k:Int)<(h:Int)))=true;rw[Qr (by omega),Qr (by omega)];rfl
theorem j9g(h:body (m_ n ds)=some (.nx ρ)):bT n body ds=some (.bK,9):=by unfold bT;rw[h]
theorem y3p{h k:Nat}(hk:k<h):xS [iD h,iD k]=some (.bK,9):=by have e:=EL h (iD k);rw[z97 hk]at e;unfold xS LU;exact j9g ((lS (j1m (yn (bq (ds:=[iD k,iD h]) rfl rfl e)))).trans rfl)
def kW (n:Nat)(w:Wy):Ky:=[.inl w.1,.inl w.2.1,.inr ((range n).map w.2.2)]
theorem k0f(n:Nat)(w:Wy):ke (kW n w)=bw n w:=by show D.tup [iD w.1,iD w.2.1,.tup ((((range n).map w.2.2).map Int.ofNat).map D.int)]=.tup [iD w.1,iD w.2.1,.tup (ai ((range n).map w.2.2))];rw[QV (g:=D.int) (f:=Int.ofNat)];rfl
theorem Nw{α:Type}{enc:α->Ky}{l:List α}:∀ (m:List Ky),(∀ k∈m,k∈l.map enc)->∃ l':List α,l'.map enc=m/\∀ x∈l',x∈l
 | [],_=>⟨[],rfl,λ_ h=>nomatch h⟩
 | k::m,h=>by
  obtain⟨l',e,h'⟩:=Nw m λx hx=>h x (Qf _ hx);obtain⟨x,hx,rfl⟩:=Qk.mp (h k Qh);refine⟨x::l',by rw[Qx,e],λy hy=>?_⟩;rcases Qs.mp hy with rfl|hy
  ·exact hx
  ·exact h' y hy
theorem Nx{α:Type}{enc:α->Ky}{ed:α->D}(hed:∀ x,ke (enc x)=ed x){l:List α}{σ:List Nat}(h0:σ.head? = some 0)(q8:l.length<=60)(hs:∀ x∈l,(enc x).map sh=σ/\∀ d∈fU (enc x),d<1000)(hg:g ρ=some (.lst (l.map ed),q,ρ1))(hq:q<=1) :
  ∃ l':List α,l'.map enc=jz (l.map enc)/\(∀ x∈l',x∈l)/\l'.length<=l.length/\tw g ρ=some (.lst (l'.map ed),1,ρ1):=by
 obtain⟨l',e,h'⟩:=Nw (enc:=enc) (l:=l) (jz (l.map enc)) λk hk=>uZ.mp hk;have hm:∀ l:List α,l.map ed=(l.map enc).map ke:=λl=>by rw[QV];exact QX λx _=>(hed x).symm
 refine⟨l',e,h',?_,?_⟩
 ·have:=qf (Kf (l.map enc)) λx hx=>uZ.mp hx;rw[<- e,Qc,Qc]at this;exact this
 have ok:pY (l.map enc):=by
  cases l with
  | nil=>exact⟨by show 0<64;decide,rfl,λk hk=>nomatch hk⟩
  | cons x l=>
   have sx:=(hs x Qh).1;refine⟨by rw[Qc];omega,by show((enc x).map sh).head? = _;rw[sx];exact h0,λk hk=>?_⟩;obtain⟨y,hy,rfl⟩:=Qk.mp hk;obtain⟨s1,s2⟩:=hs y hy;exact⟨by show(enc y).map sh=(enc x).map sh;rw[s1,sx],s2⟩
 unfold tw;rw[hg];show(if q<=1 then(match oK xl (l.map ed)with|some ks=>if pY ks then some (D.lst ((jz ks).map ke),1,ρ1)else none|none=>none)else none)=_;rw[Qi hq,hm l,Av j45];show(if pY (l.map enc)then some (D.lst ((jz (l.map enc)).map ke),1,ρ1)else none)=_;rw[Qi ok,<- e,hm l']
def cM (n:Nat)(a:Nat×(Nat->Nat)):D:=.tup [iD a.1,aL n a.2]
section
variable {n:Nat}{f:Nat->Nat->Nat}(L:ba n f){z:Nat}(hz:z<n)(bz:∀ j,j<n->f z j=j){C:ck}(hC:C.Ok n f){q:Nat}(hq:q<C.p)
include L hz bz hC
theorem z26(q:Nat):∃ c,Lp n f (jr f z C.W (q,q)) c/\yb [aN n f,bF n C,.int (Int.ofNat q)]=some (aL n c,9):=by
 have hn:n<=1000:=QJ L.hi (by decide);have hw:=hC.tV;have hl:∀ w∈C.W,∀ i,i<n->w.2.2 i<n:=λw hw=>(hC.ws w hw).2.2.1;obtain⟨ρ',e,a,b,c,rfl⟩:=kh (pt:=gX (bU (aA 4) (bU (aA 5) (bU (aA 6) gq)))) (body:=Md) (C.W.map (bw n)) (λi ρ=>∃ a b c,ρ=[some (aN n f,9),some (bF n C,9),some (.int (Int.ofNat q),9),some (aL n ((jr f z (C.W.take i) (q,q))),9),a,b,c]) [some (aN n f,9),some (bF n C,9),some (.int (Int.ofNat q),9),some (aL n ((λ_=>z)),9),none,none,none] (λi hi ρ aj=>by
  obtain⟨a,b,c,rfl⟩:=aj;have bS:i<C.W.length:=by rw[Qc]at hi;exact hi
  have hwm:=QW bS;have ed:(C.W.map (bw n))[i]=bw n C.W[i]:=by simp
  have et:C.W.take (i+1)=C.W.take i++[C.W[i]]:=by rw[J2];simp[bS]
  rw[ed,et];have yz:∀ w∈C.W.take i,∀ i,i<n->w.2.2 i<n:=λw m=>hl w (J6 m);generalize C.W.take i=W1 at *
  generalize C.W[i]=w at *
  obtain⟨s,g,r⟩:=w;have hr:∀ i,i<n->r i<n:=hl _ hwm;have t1:ot (bC (e2 dS (aa 4) (aa 2))) (bC (e2 dS (aa 5) (aa 2))) [some (aN n f,9),some (bF n C,9),some (.int (Int.ofNat q),9),some (aL n ((jr f z W1 (q,q))),9),some (.int (Int.ofNat s),9),some (.int (Int.ofNat g),9),some (aL n r,9)]=some (decide (s=q)&&decide (g=q),[some (aN n f,9),some (bF n C,9),some (.int (Int.ofNat q),9),some (aL n ((jr f z W1 (q,q))),9),some (.int (Int.ofNat s),9),some (.int (Int.ofNat g),9),some (aL n r,9)]):=
   Fb (fg (dN rfl rfl (rj s q))) (fg (dN rfl rfl (rj g q)))
  refine⟨[some (aN n f,9),some (bF n C,9),some (.int (Int.ofNat q),9),some (aL n ((jr f z W1 (q,q))),9),some (.int (Int.ofNat s),9),some (.int (Int.ofNat g),9),some (aL n r,9)],[some (aN n f,9),some (bF n C,9),some (.int (Int.ofNat q),9),some (aL n ((jr f z (W1++[(s,g,r)]) (q,q))),9),some (.int (Int.ofNat s),9),some (.int (Int.ofNat g),9),some (aL n r,9)],by rfl,.inl ?_,_,_,_,rfl⟩;by_cases hm:(s,g)=(q,q)
  ·have h1:s=q:=(YO hm).1;have h2:g=q:=(YO hm).2;rw[Qr h1,Qr h2]at t1;refine(rh t1).trans (dM (bq (ds:=[aN n f,aL n (jr f z W1 (q,q)),aL n r]) rfl rfl (EK hn (λi hi=>l0 L hz bz yz (q,q) hi) hr)) ?_);rw[tH (r:=λi=>f (jr f z W1 (q,q) i) (r i)) (s:=jr f z (W1++[(s,g,r)]) (q,q)) λi _=>by rw[vB,Qi hm]];rfl
  ·have hf:(decide (s=q)&&decide (g=q))=false:=by
    rw[Bool.and_eq_false_iff,JH,JH];by_cases h1:s=q
    ·exact .inr λh2=>hm (by rw[h1,h2])
    ·exact .inl h1
   rw[hf]at t1;refine(lS t1).trans ?_;rw[tH (r:=jr f z (W1++[(s,g,r)]) (q,q)) (s:=jr f z W1 (q,q)) λi _=>by rw[vB,Ql hm]];rfl)
  ⟨none,none,none,by rw[tH (r:=λ_=>z) (s:=jr f z (C.W.take 0) (q,q)) λi _=>rfl]⟩
 rw[Qc,Jl]at e;have hJ:∀ i,i<n->jr f z C.W (q,q) i<n:=λi hi=>l0 L hz bz hl (q,q) hi;have hm:∀ x y,x<n->y<n->f x y=y->f (jr f z C.W (q,q) x) (jr f z C.W (q,q) y)=jr f z C.W (q,q) y:=λx y hx hy exy=>by
  refine L.bL hz bz (hJ y hy) (λv hv=>?_) λv hv=>?_
  ·obtain⟨w,hw,_,rfl⟩:=iV.mp hv;exact hl w hw x hx
  ·obtain⟨w,hw,ew,rfl⟩:=iV.mp hv;obtain⟨_,_,b3,b4⟩:=hC.ws w hw;refine L.le_trans (b3 x hx) (b3 y hy) (hJ y hy) (b4 x y hx hy exy) (L.bY hz (λu hu=>?_) (iV.mpr ⟨w,hw,ew,rfl⟩));obtain⟨w2,nV,_,rfl⟩:=iV.mp hu;exact hl w2 nV y hy
 obtain⟨k,hk,ek⟩:=z74 L hJ hm;refine⟨k,hk,?_⟩;unfold yb Me;refine dG ?_;show aJ _ _ [some (aN n f,9),some (bF n C,9),some (.int (Int.ofNat q),9),none,none,none,none]=_;refine(aU (ρ1:=[some (aN n f,9),some (bF n C,9),some (.int (Int.ofNat q),9),some (aL n ((λ_=>z)),9),none,none,none]) (dM (bq (ds:=[aN n f,.int (Int.ofNat z)]) (cu rfl (bV (bq (ds:=[aN n f]) rfl rfl (EG L hz bz hn)))) rfl (z6d hn z)) rfl)).trans ?_;refine(aU ((gZ (ρ1:=[some (aN n f,9),some (bF n C,9),some (.int (Int.ofNat q),9),some (aL n ((λ_=>z)),9),none,none,none]) (vx (q:=9) rfl (by rw[Qc];omega))).trans e)).trans ?_;exact fC (bq (ds:=[aN n f,aL n (jr f z C.W (q,q))]) rfl rfl ek)
include hq
theorem y1s(Bp:∀ c,(oW C q c).length<=60)(Bq:∀ c,(oB z C q c).length<=60):∃ c E,Lp n f (jr f z C.W (q,q)) c/\E.p=C.p/\(∀ w∈E.W,w∈oW C q c)/\E.W.map (kW n)=jz ((oW C q c).map (kW n))/\(∀ b∈E.B,b∈oB z C q c)/\E.B.map kc=jz ((oB z C q c).map kc)/\E.W.length<=60/\E.B.length<=60/\vm [aN n f,bF n C,iD q]=(c9 n E):=by
 have hn:n<=1000:=QJ L.hi (by decide);have yG:=hC.tV;have Fc:=hC.yq;have hl:∀ w∈C.W,∀ i,i<n->w.2.2 i<n:=λw hw=>(hC.ws w hw).2.2.1;obtain⟨c,hc,e3⟩:=z26 L hz bz hC q;have oC:∀ i,i<n->c i<n:=λi hi=>(hc i hi).1;have Bp:=Bp c;have Bq:=Bq c;have Fd:∀ (x3 x4 x5 x6 x7 x8 x9 t_:OD),cz (aH 1 (eC (.int 1))) [t9 n f,c9 n C,i9 q,x3,x4,x5,x6,x7,x8,x9,t_]=some (C.W.map (bw n),[t9 n f,c9 n C,i9 q,x3,x4,x5,x6,x7,x8,x9,t_]):=λx3 x4 x5 x6 x7 x8 x9 t_=>vx (q:=9) rfl (by rw[Qc];omega);have Ny:∀ (x3 x4 x5 x6 x7 x8 x9 t_:OD),cz (aH 1 (eC (.int 2))) [t9 n f,c9 n C,i9 q,x3,x4,x5,x6,x7,x8,x9,t_]=some (C.B.map cm,[t9 n f,c9 n C,i9 q,x3,x4,x5,x6,x7,x8,x9,t_]):=λx3 x4 x5 x6 x7 x8 x9 t_=>vx (q:=9) rfl (by rw[Qc];omega);have c4:=fB (k:=3) (pt:=gX (bU (aA 11) (bU (aA 12) (bU (aA 13) gq)))) (tt:=ot (bC (e2 dS (aa 12) (aa 2))) (bC (e2 dk (aa 11) (aa 2)))) (te:=dF (ae (aa 11) (ae (aa 13) ah))) (deep:=false) (Fd ((r9 n c)) none none none none none none none)
  (lZ (k:=3) (bw n) (λw=>[i9 w.1,i9 w.2.1,r9 n w.2.2]) (λw=>decide (w.2.1=q) && !decide (w.1=q)) (λw=>cM n (w.1,w.2.2)) (λ_=>9) C.W (λw hw=>⟨rfl,Fb (fg (dN rfl rfl (rj _ _))) (fg (dN rfl rfl (nJ _ _))),λ_=>rfl⟩))
 rw[show((C.W.filter λw=>decide (w.2.1=q) && !decide (w.1=q)).map λw=>cM n (w.1,w.2.2))=(eN C q).map (cM n)by unfold eN;rw[QV];rfl]at c4;obtain⟨dc,hdc⟩:∃ dc,dc=(eN C q).map (cM n):=⟨_,rfl⟩;have c5:=fB (k:=3) (pt:=gX (bU (aA 11) (bU (aA 12) (bU (aA 13) gq)))) (tt:=ot (bC (e2 dS (aa 11) (aa 2))) (bC (e2 dk (aa 12) (aa 2)))) (te:=dF (ae (aa 12) (ae (aK rB 2 (ae (aa 3) (ae (aa 13) ah))) ah))) (deep:=false) (Fd ((r9 n c)) (some (.lst ((eN C q).map (cM n)),1)) none none none none none none)
  (lZ (k:=3) (bw n) (λw=>[i9 w.1,i9 w.2.1,r9 n w.2.2]) (λw=>decide (w.1=q) && !decide (w.2.1=q)) (λw=>cM n (w.2.1,λi=>w.2.2 (c i))) (λ_=>9) C.W (λw hw=>⟨rfl,Fb (fg (dN rfl rfl (rj _ _))) (fg (dN rfl rfl (nJ _ _))),λ_=>yx (cu rfl (bV (bq (ds:=[aL n c,aL n w.2.2]) rfl rfl (Ni hn oC)))) (by show 2<=1000;decide)⟩))
 rw[show((C.W.filter λw=>decide (w.1=q) && !decide (w.2.1=q)).map λw=>cM n (w.2.1,λi=>w.2.2 (c i)))=(cC C q c).map (cM n)by unfold cC;rw[QV];rfl]at c5;have Nz:=fB (k:=2) (pt:=gX (bU (aA 11) (bU (aA 12) gq))) (tt:=bC (e2 dS (aa 11) (aa 2))) (te:=aa 12) (deep:=false) (Ny ((r9 n c)) (some (.lst ((eN C q).map (cM n)),1)) (some (.lst ((cC C q c).map (cM n)),1)) none none none none none)
  (lZ (k:=2) cm (λb=>[i9 b.1,i9 b.2]) (λb=>decide (b.1=q)) (λb=>(iD b.2)) (λ_=>9) C.B (λb hb=>⟨rfl,fg (dN rfl rfl (rj _ _)),λ_=>rfl⟩))
 rw[show((C.B.filter λb=>decide (b.1=q)).map λb=>(iD b.2))=ai (gB C.B q)by unfold gB ai;rw[QV];rfl]at Nz;have gBl:(gB C.B q).length<=60:=by unfold gB;rw[Qc];exact QJ (Q7 _ _) Fc
 have c6:=j6q (ρ:=[t9 n f,c9 n C,i9 q,((r9 n c)),some (.lst ((eN C q).map (cM n)),1),some (.lst ((cC C q c).map (cM n)),1),none,none,none,none,none]) (a:=[iD z]) (fa:=dI (ae (aK oQ 1 (ae (aa 0) ah)) ah)) (q:=1) (Bc (bV (bq (ds:=[aN n f]) rfl rfl (EG L hz bz hn))) (by show 1<=1000;decide)) Nz (by rw[d7];show 1+_<=1000;omega);have c7:=fB (k:=1) (pt:=aA 11) (tt:=bC (e2 sJ (aa 2) (uP (aa 11) wK (uO (eC (.int 2)))))) (te:=aa 11) (deep:=false) (Fd ((r9 n c)) (some (.lst ((eN C q).map (cM n)),1)) (some (.lst ((cC C q c).map (cM n)),1)) ((uL (iw z C q))) none none none none)
  (lZ (k:=1) (bw n) (λw=>[some (bw n w,9)]) (λw=>!decide (q ∈ [w.1,w.2.1])) (bw n) (λ_=>9) C.W (λw hw=>⟨rfl,fg (dN rfl rfl (z7n q w.1 w.2.1)),λ_=>rfl⟩))
 have c8:=fB (k:=1) (pt:=aA 11) (tt:=bC (e2 dk (aH 11 (eC (.int 0))) (aa 2))) (te:=aa 11) (deep:=false) (Ny ((r9 n c)) (some (.lst ((eN C q).map (cM n)),1)) (some (.lst ((cC C q c).map (cM n)),1)) ((uL (iw z C q))) (some (.lst ((C.W.filter λw=>!decide (q ∈ [w.1,w.2.1])).map (bw n)),1)) none none none)
  (lZ (k:=1) cm (λb=>[some (cm b,9)]) (λb=>!decide (b.1=q)) cm (λ_=>9) C.B (λb hb=>⟨rfl,fg (dN rfl rfl (nJ _ _)),λ_=>rfl⟩))
 have cl:(eN C q).length<=60:=by unfold eN;rw[Qc];exact QJ (Q7 _ _) yG
 have gl:(cC C q c).length<=60:=by unfold cC;rw[Qc];exact QJ (Q7 _ _) yG
 have bl:(iw z C q).length<=61:=by unfold iw;rw[Qz];omega
 have tk:∀ {β:Type} (h:(Nat×(Nat->Nat))->List β) (i:Nat),(((cC C q c).take i).flatMap h).length<=((cC C q c).flatMap h).length:=λh i=>by
  conv=>rhs;rw[<- JY i (cC C q c),Ya,Qn]
  exact Jk _ _
 generalize hW0:(C.W.filter λw=>!decide (q ∈ [w.1,w.2.1]))=W0 at *
 generalize hB0:(C.B.filter λb=>!decide (b.1=q))=B0 at *
 obtain⟨GW,NA⟩:∃ GW:(Nat×(Nat->Nat))->List Wy,GW=λg=>(eN C q).map λa=>(a.1,g.1,λi=>g.2 (a.2 i)):=⟨_,rfl⟩;obtain⟨GB,NB⟩:∃ GB:(Nat×(Nat->Nat))->List (Nat×Nat),GB=λg=>(iw z C q).map λv=>(g.1,g.2 v):=⟨_,rfl⟩;have eW:oW C q c=W0++(cC C q c).flatMap GW:=by rw[NA,<- hW0];rfl
 have eB:oB z C q c=B0++(cC C q c).flatMap GB:=by rw[NB,<- hB0];rfl
 refine⟨c,?_⟩;rw[eW]at Bp ⊢;rw[eB]at Bq ⊢;rw[Qn]at Bp Bq;obtain⟨ρ',e9,k4,k6,x,y,rfl⟩:=kh (pt:=gX (bU (aA 9) (bU (aA 10) gq))) (body:=Mh) ((cC C q c).map (cM n))
  (λi ρ=>∃ k4 k6 x y,ρ=[t9 n f,c9 n C,i9 q,((r9 n c)),some (.lst ((eN C q).map (cM n)),k4),some (.lst ((cC C q c).map (cM n)),0),some (.lst (ai (iw z C q)),k6),some (.lst ((W0++((cC C q c).take i).flatMap GW).map (bw n)),1),some (.lst ((B0++((cC C q c).take i).flatMap GB).map cm),1),x,y])
  [t9 n f,c9 n C,i9 q,((r9 n c)),some (.lst ((eN C q).map (cM n)),1),some (.lst ((cC C q c).map (cM n)),0),((uL (iw z C q))),some (.lst (W0.map (bw n)),1),some (.lst (B0.map cm),1),none,none] (λi hi ρ aj=>by
  obtain⟨k4,k6,x,y,rfl⟩:=aj;have bS:i<(cC C q c).length:=by rw[Qc]at hi;exact hi
  have hgm:=QW bS;have ed:((cC C q c).map (cM n))[i]=cM n (cC C q c)[i]:=by simp
  have et:(cC C q c).take (i+1)=(cC C q c).take i++[(cC C q c)[i]]:=by rw[J2];simp[bS]
  have t1:=tk GW i;have t2:=tk GB i;have t3:=tk GW (i+1);have t4:=tk GB (i+1);rw[et,Ya,Qn]at t3 t4;rw[ed,et,Ya,Ya,<- Jb,<- Jb];generalize ((cC C q c).take i).flatMap GW=PW at *
  generalize ((cC C q c).take i).flatMap GB=PB at *
  generalize (cC C q c)[i]=g at *
  obtain⟨rg,g1,g2,g3⟩:=vC.mp hgm;have hg:∀ i,i<n->g.2 i<n:=λi hi=>by rw[g3];exact(hC.ws _ g1).2.2.1 _ (oC i hi)
  have eGW:[g].flatMap GW=GW g:=by simp
  have eGB:[g].flatMap GB=GB g:=by simp
  rw[eGW]at t3 ⊢;rw[eGB]at t4 ⊢;have d1:=fB (k:=2) (pt:=gX (bU (aA 11) (bU (aA 12) gq))) (tt:=di) (te:=dF (ae (aa 11) (ae (aa 9) (ae (aK rB 2 (ae (aa 12) (ae (aa 10) ah))) ah)))) (deep:=false) (it:=cz (aa 4))
   (ρ:=[t9 n f,c9 n C,i9 q,((r9 n c)),some (.lst ((eN C q).map (cM n)),k4),some (.lst ((cC C q c).map (cM n)),0),some (.lst (ai (iw z C q)),k6),some (.lst ((W0++PW).map (bw n)),1),some (.lst ((B0++PB).map cm),1),((i9 g.1)),((r9 n g.2))])
   (ρ1:=[t9 n f,c9 n C,i9 q,((r9 n c)),some (.lst ((eN C q).map (cM n)),0),some (.lst ((cC C q c).map (cM n)),0),some (.lst (ai (iw z C q)),k6),some (.lst ((W0++PW).map (bw n)),1),some (.lst ((B0++PB).map cm),1),((i9 g.1)),((r9 n g.2))])
   (vw (lz rfl) (by rw[Qc];omega))
   (lZ (k:=2) (cM n) (λa=>[i9 a.1,r9 n a.2]) (λ_=>true) (λa=>bw n (a.1,g.1,λi=>g.2 (a.2 i))) (λ_=>9) (eN C q) (λa ha=>⟨rfl,rfl,λ_=>yx (cu rfl (cu rfl (bV (bq (ds:=[aL n a.2,aL n g.2]) rfl rfl (Ni hn (hl _ (t6.mp ha).1)))))) (by show 3<=1000;decide)⟩))
  rw[Y1.mpr (λ_ _=>rfl),show((eN C q).map λa=>bw n (a.1,g.1,λi=>g.2 (a.2 i)))=(GW g).map (bw n)by rw[NA,QV];rfl]at d1;have d2:=fB (k:=1) (pt:=aA 11) (tt:=di) (te:=dF (ae (aa 9) (ae (aH 10 (aa 11)) ah))) (deep:=false) (it:=cz (aa 6))
   (ρ:=[t9 n f,c9 n C,i9 q,((r9 n c)),some (.lst ((eN C q).map (cM n)),0),some (.lst ((cC C q c).map (cM n)),0),some (.lst (ai (iw z C q)),k6),some (.lst ((W0++PW++GW g).map (bw n)),1),some (.lst ((B0++PB).map cm),1),((i9 g.1)),((r9 n g.2))])
   (ρ1:=[t9 n f,c9 n C,i9 q,((r9 n c)),some (.lst ((eN C q).map (cM n)),0),some (.lst ((cC C q c).map (cM n)),0),some (.lst (ai (iw z C q)),0),some (.lst ((W0++PW++GW g).map (bw n)),1),some (.lst ((B0++PB).map cm),1),((i9 g.1)),((r9 n g.2))])
   (vw (lz rfl) (by rw[d7];omega))
   (lZ (k:=1) (λv:Nat=>(iD v)) (λv=>[i9 v]) (λ_=>true) (λv=>cm (g.1,g.2 v)) (λ_=>9) (iw z C q) (λv hv=>⟨rfl,rfl,λ_=>yx (cu rfl (bV (rG (q:=9) rfl rfl (lh (by
     rcases E8.mp hv with rfl|h
     ·exact hz
     ·exact(hC.bs _ h).2)) rfl))) (by show 2<=1000;decide)⟩))
  rw[Y1.mpr (λ_ _=>rfl),show((iw z C q).map λv=>cm (g.1,g.2 v))=(GB g).map cm by rw[NB,QV];rfl]at d2;refine⟨[(t9 n f),(c9 n C),(i9 q),((r9 n c)),(some (.lst ((eN C q).map (cM n)),k4)),(some (.lst ((cC C q c).map (cM n)),0)),(some (.lst (ai (iw z C q)),k6)),(some (.lst ((W0++PW).map (bw n)),1)),(some (.lst ((B0++PB).map cm),1)),((i9 g.1)),((r9 n g.2))],[(t9 n f),(c9 n C),(i9 q),((r9 n c)),(some (.lst ((eN C q).map (cM n)),0)),(some (.lst ((cC C q c).map (cM n)),0)),(some (.lst (ai (iw z C q)),0)),(some (.lst ((W0++PW++GW g).map (bw n)),1)),(some (.lst ((B0++PB++GB g).map cm),1)),((i9 g.1)),((r9 n g.2))],rfl,.inl ((aU (Nv rfl d1 rfl (by rw[Qc,Qc,Qn];omega) rfl)).trans ?_),0,0,_,_,rfl⟩;rw[<- QU];refine(Nv rfl d2 rfl (by rw[Qc,Qc,Qn];omega) rfl).trans ?_;rw[<- QU];rfl)
  ⟨1,1,none,none,by show _=_;rw[Uj,List.flatMap_nil,List.flatMap_nil,ZM,ZM]⟩
 rw[Qc,Jl]at e9;have cA:∀ w∈W0++(cC C q c).flatMap GW,w.1<8/\w.2.1<8/\∀ i,i<n->w.2.2 i<n:=λw hw=>by
  have tY:=hC.p8;rw[<- eW]at hw;rcases t7.mp hw with⟨h,_,_⟩|⟨a,r,k1,_,k2,_,e1,e2⟩
  ·obtain⟨a1,a2,a3,_⟩:=hC.ws w h;exact⟨by omega,by omega,a3⟩
  ·obtain⟨a1,a2,a3,_⟩:=hC.ws _ k1;obtain⟨b1,b2,b3,_⟩:=hC.ws _ k2;have a1:a.1<C.p:=a1;have b2:w.2.1<C.p:=b2;exact⟨by omega,by omega,λi hi=>by rw[e2];exact b3 _ (oC _ (a3 i hi))⟩
 have C2:∀ b∈B0++(cC C q c).flatMap GB,b.1<8/\b.2<n:=λb hb=>by
  have tY:=hC.p8;rw[<- eB]at hb;rcases vD.mp hb with⟨h,_⟩|⟨r,v,k1,_,k2,e⟩
  ·obtain⟨a1,a2⟩:=hC.bs b h;exact⟨by omega,a2⟩
  ·obtain⟨b1,b2,b3,_⟩:=hC.ws _ k1;have b2:b.1<C.p:=b2;have hv:v<n:=by
    rcases k2 with rfl|k2
    ·exact hz
    ·exact(hC.bs _ k2).2
   exact⟨by omega,by rw[e];exact b3 _ (oC v hv)⟩
 have hn16:=L.hi;obtain⟨W',w1,w2,w3,w4⟩:=Nx (k0f n) (l:=W0++(cC C q c).flatMap GW) (σ:=[0,0,n+1]) rfl (by rw[Qn];omega) (λw hw=>by
  obtain⟨a1,a2,a3⟩:=cA w hw;refine⟨by show [0,0,((range n).map w.2.2).length+1]=_;rw[Qc,QI],λd hd=>?_⟩;rcases Qs.mp hd with rfl|hd
  ·omega
  ·rcases Qs.mp hd with rfl|hd
   ·omega
   ·have hd:d∈(range n).map w.2.2++[]:=hd;rw[ZM]at hd;obtain⟨i,hi,rfl⟩:=Qk.mp hd;have:=a3 i (Qv.mp hi);omega) (g:=aa 7) (ρ:=[(t9 n f),(c9 n C),(i9 q),((r9 n c)),(some (.lst ((eN C q).map (cM n)),k4)),(some (.lst ((cC C q c).map (cM n)),0)),(some (.lst (ai (iw z C q)),k6)),(some (.lst ((W0++(cC C q c).flatMap GW).map (bw n)),1)),(some (.lst ((B0++(cC C q c).flatMap GB).map cm),1)),x,y]) (lz rfl) (Q6 1)
 obtain⟨B',b1,b2,b3,b4⟩:=Nx (enc:=kc) (ed:=cm) (λ_=>rfl) (l:=B0++(cC C q c).flatMap GB) (σ:=[0,0]) rfl (by rw[Qn];omega) (λb hb=>by
  obtain⟨a1,a2⟩:=C2 b hb;refine⟨rfl,λd hd=>?_⟩;rcases Qs.mp hd with rfl|hd
  ·omega
  ·have:=QF.mp hd;omega) (g:=aa 8) (ρ:=[(t9 n f),(c9 n C),(i9 q),((r9 n c)),(some (.lst ((eN C q).map (cM n)),k4)),(some (.lst ((cC C q c).map (cM n)),0)),(some (.lst (ai (iw z C q)),k6)),(some (.lst ((W0++(cC C q c).flatMap GW).map (bw n)),0)),(some (.lst ((B0++(cC C q c).flatMap GB).map cm),1)),x,y]) (lz rfl) (Q6 1)
 rw[Qn]at w3 b3;refine⟨⟨C.p,W',B'⟩,hc,rfl,w2,w1,b2,b1,by show W'.length<=60;omega,by show B'.length<=60;omega,?_⟩;unfold vm Mi;refine dG ?_;show aJ _ _ [t9 n f,c9 n C,i9 q,none,none,none,none,none,none,none,none]=_;refine(aU (j1i (bq (ds:=[iD C.p,iD q]) rfl rfl (y3p hq)))).trans ?_;refine(aU (dM (bq (ds:=[aN n f,bF n C,iD q]) rfl rfl e3) rfl)).trans ?_;refine(aU (dM c4 rfl)).trans ?_;refine(aU (dM c5 rfl)).trans ?_;refine(aU (dM c6 rfl)).trans ?_;refine(aU (dM c7 rfl)).trans ?_;refine(aU (dM c8 rfl)).trans ?_;refine(aU ((gZ (vw (lz rfl) (by rw[Qc];omega))).trans e9)).trans ?_;exact fC (yx (cu rfl (cu (k9 (bV w4)) (bV (k9 (bV b4))))) (by show 3<=1000;decide))
end
structure Jd (C:ck):Prop where
 w:(pW C.W).Nodup
 b:(C.B.map (·.1)).Nodup
theorem Fe{α β:Type}{g:α->List β}{c:Nat}:∀ {l:List α},(∀ x∈l,(g x).length<=c)->(l.flatMap g).length<=c*l.length
 | [],_=>Q6 _
 | a::l,h=>by have i:=Fe (g:=g) (c:=c) (l:=l) λx hx=>h x (Qf _ hx);have:=h a Qh;rw[List.flatMap_cons,Qn,Qz,Nat.mul_succ];omega
theorem k2j{C:ck}(h5:C.p<=5)(J:Jd C)(hw:∀ w∈C.W,w.1<C.p/\w.2.1<C.p)(hb:∀ b∈C.B,b.1<C.p)(z q:Nat)(c:Nat->Nat):(oW C q c).length<=60/\(oB z C q c).length<=60:=by
 have l1:C.W.length<=25:=by
  have:=qf J.w (m:=(range 5).flatMap λa=>(range 5).map λb=>(a,b)) λx hx=>by obtain⟨w,yu,rfl⟩:=Qk.mp hx;have:=hw w yu;exact VP.mpr ⟨w.1,Qv.mpr (by omega),Qk.mpr ⟨w.2.1,Qv.mpr (by omega),rfl⟩⟩
  unfold pW at this;rw[Qc]at this;exact this
 have l2:C.B.length<=5:=by
  have:=qf J.b (m:=range 5) λx hx=>by obtain⟨b,eZ,rfl⟩:=Qk.mp hx;have:=hb b eZ;exact Qv.mpr (by omega)
  rw[Qc,QI]at this;exact this
 have l3:(eN C q).length<=5:=by
  have e:((eN C q).map λa=>(a.1,q))=(C.W.filter λw=>decide (w.2.1=q) && !decide (w.1=q)).map λw=>(w.1,w.2.1):=by unfold eN;rw[QV];refine QX λw hw=>?_;have:=(QS.mp hw).2;rw[ZF]at this;show(w.1,q)=(w.1,w.2.1);rw[QM this.1]
  have nd:((eN C q).map λa=>(a.1,q)).Nodup:=by rw[e];exact Vm (List.Sublist.map _ Us) J.w
  have:=qf nd (m:=(range 5).map λa=>(a,q)) λx hx=>by obtain⟨a,ha,rfl⟩:=Qk.mp hx;have:a.1<C.p:=(hw _ (t6.mp ha).1).1;exact Qk.mpr ⟨a.1,Qv.mpr (by omega),rfl⟩
  rw[Qc,Qc,QI]at this;exact this
 have l4:(cC C q c).length<=5:=by
  have e:((cC C q c).map λa=>(q,a.1))=(C.W.filter λw=>decide (w.1=q) && !decide (w.2.1=q)).map λw=>(w.1,w.2.1):=by unfold cC;rw[QV];refine QX λw hw=>?_;have:=(QS.mp hw).2;rw[ZF]at this;show(q,w.2.1)=(w.1,w.2.1);rw[QM this.1]
  have nd:((cC C q c).map λa=>(q,a.1)).Nodup:=by rw[e];exact Vm (List.Sublist.map _ Us) J.w
  have:=qf nd (m:=(range 5).map λa=>(q,a)) λx hx=>by obtain⟨a,ha,rfl⟩:=Qk.mp hx;obtain⟨r,h1,_⟩:=vC.mp ha;have:a.1<C.p:=(hw _ h1).2;exact Qk.mpr ⟨a.1,Qv.mpr (by omega),rfl⟩
  rw[Qc,Qc,QI]at this;exact this
 have l5:(iw z C q).length<=6:=by unfold iw gB;rw[Qz,Qc];have:=Q7 (λb=>decide (b.1=q)) C.B;omega
 constructor
 ·unfold oW;rw[Qn];exact QJ (Nat.add_le_add (Q7 _ _) (Fe (c:=5) λx _=>by rw[Qc];exact l3)) (by omega)
 ·unfold oB;rw[Qn];exact QJ (Nat.add_le_add (Q7 _ _) (Fe (c:=6) λx _=>by rw[Qc];exact l5)) (by omega)
theorem j1r{C:ck}{E:ck}(hp:E.p=C.p)(h1:∀ w∈E.W,w∈oW C q c)(h2:E.W.map (kW n)=jz ((oW C q c).map (kW n)))(h3:∀ b∈E.B,b∈oB z C q c)(h4:E.B.map kc=jz ((oB z C q c).map kc)):yD n z C q c E:=by
 refine⟨hp,h1,λw hw=>?_,λb=>⟨h3 b,λhb=>?_⟩⟩
 ·have:kW n w∈E.W.map (kW n):=by rw[h2];exact uZ.mpr (ZH hw)
  obtain⟨e,he,q⟩:=Qk.mp this;unfold kW at q;injection q with q1 q2;injection q2 with q2 q3;injection q3 with q3 _;refine⟨e,he,YJ q1,YJ q2,λi hi=>?_⟩;have:=ZD (λl=>l[i]?) (Vu q3);simp only[Qm,Q9 hi,ZZ]at this;exact QL this
 ·have:kc b∈E.B.map kc:=by rw[h4];exact uZ.mpr (ZH hb)
  obtain⟨e,he,q⟩:=Qk.mp this;rw[<- j2w q];exact he
section
variable {n:Nat}{f:Nat->Nat->Nat}(L:ba n f){z:Nat}(hz:z<n)(bz:∀ j,j<n->f z j=j)
include L hz bz
theorem NC(C:ck):Jd (jC f z C):=by
 refine⟨?_,?_⟩
 ·have:pW (jW f z C.W)=qg (pW C.W):=by unfold pW jW;rw[QV];exact(QX λk _=>rfl).trans (UD _)
  show(pW (jW f z C.W)).Nodup;rw[this];exact Nk _
 ·have:(jB f z C.p C.B).map (·.1)=(range C.p).filter λa=>!decide (gB C.B a=[]):=by unfold jB;rw[QV];exact(QX λk _=>rfl).trans (UD _)
  show((jB f z C.p C.B).map (·.1)).Nodup;rw[this];exact Jm.filter _
theorem ND{C:ck}(hC:C.Ok n f)(hs:∀ w∈C.W,d9 n f w.2.2=true):∀ w∈(jC f z C).W,d9 n f w.2.2=true:=λw hw=>by obtain⟨k,_,rfl⟩:=yB.mp hw;exact E_ L hz bz (λw hw=>⟨(hC.ws w hw).2.2.1,hs w hw⟩) k
structure Wo (n:Nat) (f:Nat->Nat->Nat) (z:Nat) (C:ck) (qs:List Nat) (E:ck):Prop where
 p:E.p=C.p
 ok:E.Ok n f
 jd:Jd E
 sp:∀ w∈E.W,d9 n f w.2.2=true
 w:∀ w∈E.W,w.1 ∉ qs/\w.2.1 ∉ qs
 b:∀ b∈E.B,b.1 ∉ qs
 lo:∀ u u',h_ n f C.p (iM C) (jh C.p z) u->h_ n f C.p (iM E) (jh C.p z) u'->∀ s,s<C.p->s ∉ qs->gv u' s=gv u s
variable {C:ck}(hC:C.Ok n f)(h5:C.p<=5)(hs:∀ w∈C.W,d9 n f w.2.2=true)
include hC hs
theorem j7j:Wo n f z C [] (jC f z C):=⟨rfl,Nl L hz bz hC,NC L hz bz C,ND L hz bz hC hs,λ_ _=>⟨Qw,Qw⟩,λ_ _=>Qw,λu u' h h' s _ _=>by rw[Nn L hz bz hC h h']⟩
include h5
theorem j4r{E:ck}(O:Wo n f z C qs E)(hq:q<C.p):∃ E1 E2,Wo n f z C (qs++[q]) E2/\vm [aN n f,bF n E,iD q]=(c9 n E1)/\p_ [aN n f,bF n E1]=(c9 n E2):=by
 have hE:=O.ok;have Br:q<E.p:=by rw[O.p];exact hq
 have sz:=λc=>k2j (C:=E) (by rw[O.p];exact h5) O.jd (λw hw=>⟨(hE.ws w hw).1,(hE.ws w hw).2.1⟩) (λb hb=>(hE.bs b hb).1) z q c;obtain⟨c,E1,hc,p1,w1,w2,b1,b2,l1,l2,e1⟩:=y1s L hz bz hE Br (λc=>(sz c).1) (λc=>(sz c).2);have lo:=j1r p1 w1 w2 b1 b2;have yH:=j63 L hz bz hE Br hc lo l1 l2;have sp1:=j2d L hz bz hE Br hc lo O.sp;have ends:∀ w∈E1.W,w.1 ∉ qs++[q]/\w.2.1 ∉ qs++[q]:=λw hw=>by
  have key:w.1 ∉ qs/\w.2.1 ∉ qs/\w.1≠q/\w.2.1≠q:=by
   rcases t7.mp (w1 w hw)with⟨h,k1,k2⟩|⟨a,r,k1,k2,k3,k4,e1,e2⟩
   ·exact⟨(O.w w h).1,(O.w w h).2,k1,k2⟩
   ·exact⟨by rw[e1];exact(O.w _ k1).1,(O.w _ k3).2,by rw[e1];exact k2,k4⟩
  refine⟨λh=>?_,λh=>?_⟩
  ·rcases QO.mp h with h|h
   ·exact key.1 h
   ·exact key.2.2.1 (QF.mp h)
  ·rcases QO.mp h with h|h
   ·exact key.2.1 h
   ·exact key.2.2.2 (QF.mp h)
 have Ff:∀ b∈E1.B,b.1 ∉ qs++[q]:=λb hb=>by
  have key:b.1 ∉ qs/\b.1≠q:=by
   rcases vD.mp (b1 b hb)with⟨h,k1⟩|⟨r,v,k1,k2,_,_⟩
   ·exact⟨O.b b h,k1⟩
   ·exact⟨(O.w _ k1).2,k2⟩
  intro h;rcases QO.mp h with h|h
  ·exact key.1 h
  ·exact key.2 (QF.mp h)
 refine⟨E1,jC f z E1,⟨p1.trans O.p,Nl L hz bz yH,NC L hz bz E1,ND L hz bz yH sp1,λw hw=>?_,λb hb=>?_,λu u' h h' s t8 mr=>?_⟩,e1,E7 L hz bz yH⟩
 ·obtain⟨k,hk,rfl⟩:=yB.mp hw;obtain⟨w0,yC,rfl⟩:=Qk.mp hk;exact ends w0 yC
 ·obtain⟨a,_,h2,rfl⟩:=Bm.mp hb;obtain⟨b0,hb0,rfl⟩:=Qk.mp h2;exact Ff b0 hb0
 ·obtain⟨uE,lE,_⟩:=yv L hz bz hE;obtain⟨u1,Fg,_⟩:=yv L hz bz yH;rw[p1]at Fg;have ej:=Nn L hz bz yH (u:=u1) (u':=u') (by rw[p1];exact Fg) (by rw[p1,O.p];exact h');rw[ej];have hs3:s ∉ qs:=λh=>mr (Q2 _ h);have hs4:s≠q:=λh=>mr (Qu _ (QF.mpr h));rw[(j3h L hz bz hE Br hc lo lE Fg).2 O.sp s (by rw[O.p];exact t8) hs4];exact O.lo u uE h (by rw[<- O.p];exact lE) s t8 hs3
theorem Bs(hq:∀ q∈qs,q<C.p)(hl:qs.length<=1000):∃ E,Wo n f z C qs E/\(qs=[]->E=jC f z C)/\rC [aN n f,bF n C,.lst (ai qs)]=(c9 n E):=by
 obtain⟨ρ',e,E,hE,hn,x,rfl⟩:=kh (pt:=aA 4) (body:=Mt) (ai qs) (λi ρ=>∃ E,Wo n f z C (qs.take i) E/\(i=0->E=jC f z C)/\∃ x,ρ=[t9 n f,c9 n C,some (.lst (ai qs),0),((c9 n E)),x]) [t9 n f,c9 n C,some (.lst (ai qs),0),((c9 n (jC f z C))),none] (λi hi ρ aj=>by
  obtain⟨E,hE,_,x,rfl⟩:=aj;have bS:i<qs.length:=by rw[d7]at hi;exact hi
  have ed:(ai qs)[i]=.int (Int.ofNat qs[i]):=by unfold ai;simp
  have et:qs.take (i+1)=qs.take i++[qs[i]]:=by rw[J2];simp[bS]
  obtain⟨E1,E2,o2,f1,f2⟩:=j4r L hz bz hC h5 hs hE (hq _ (QW bS));rw[ed,et];refine⟨[(t9 n f),(c9 n C),some (.lst (ai qs),0),((c9 n E)),(some (.int (Int.ofNat qs[i]),9))],[(t9 n f),(c9 n C),some (.lst (ai qs),0),((c9 n E2)),(some (.int (Int.ofNat qs[i]),9))],rfl,.inl ?_,E2,o2,λh=>absurd h (JG _),_,rfl⟩;exact dM (bq (ds:=[aN n f,bF n E1]) (cu rfl (bV (bq (ds:=[aN n f,bF n E,.int (Int.ofNat qs[i])]) rfl rfl f1))) rfl f2) rfl)
  ⟨jC f z C,j7j L hz bz hC hs,λ_=>rfl,none,rfl⟩
 rw[d7]at hE hn;rw[Jl]at hE;refine⟨E,hE,λh=>hn (by rw[h];rfl),?_⟩;unfold rC Mu;refine dG ?_;show aJ _ _ [t9 n f,c9 n C,some (.lst (ai qs),0),none,none]=_;refine(aU (dM (bq (ds:=[aN n f,bF n C]) rfl rfl (E7 L hz bz hC)) rfl)).trans ?_;refine(aU ((gZ (vw (lz rfl) (by rw[d7];exact hl))).trans e)).trans ?_;exact fC rfl
end
theorem NF{α:Type}(l:List α):l.filter (λ_=>false)=[]:=YB.mpr (λ_ _ h=>nomatch h)
theorem Fh:dk (.lst []) (.lst [])=some (.bl false):=(k0d [] []).trans rfl
theorem j9n{g:cK}{a:List Nat}{v:Nat}(hl:pL ρ[i]? = true)(hg:g ρ=some ([iD v],ρ1))(h1:ρ1[i]? = some ((uL a)))(hv:v<a.length)(hb:v<=1000) :
  qO i g ρ=some ((iD (a.getD v 0)),9,ρ1.set i ((uL (a.eraseIdx v)))):=by
 have hs:seqIndex? (Int.ofNat v) (ai a).length=some v:=(y8 (xx (by rw[d7];exact hv))).1;have hgx:(ai a)[v]? = some (iD (a.getD v 0)):=by unfold ai;rw[Qm,Qg,Qb hv];rfl
 have he:(ai a).eraseIdx v=ai (a.eraseIdx v):=by unfold ai;rw[JC,JC,QU,Uu,Uv]
 have b1:(-1000:Int)<=Int.ofNat v:=by show(-1000:Int)<=(v:Int);omega
 have b2:Int.ofNat v<=1000:=by show(v:Int)<=1000;omega
 unfold qO;rw[Qi hl,hg];simp only[h1,Qi (And.intro b1 b2),hs,hgx,he];rfl
theorem j9i(hl:pL ρ[i]? = true)(hg:g ρ=some (d,9,ρ1))(h1:ρ1[i]? = some (some (.lst ds,1)))(hn:ds.length<=1000)(e:ρ1.set i (some (.lst (ds++[d]),1))=ρ2):fy (jI i (ae g ah)) ρ=some (.nx ρ2):=by unfold fy jI;rw[Qi hl,bV hg];simp only[h1];rw[Qi hn,e]
structure Dr (p:Nat) (l o:List Nat) (i:Nat):Prop where
 len:l.length+i=p
 ua:o.length=i
 nd:l.Nodup
 lt:∀ x∈l,x<p
 Fi:∀ x∈o,x<p
 ne:∀ x∈l,x ∉ o
theorem Dr.pop(d:Dr p l o i){v:Nat}(hv:v<l.length):Dr p (l.eraseIdx v) (o++[l.getD v 0]) (i+1):=by
 have eg:l.getD v 0=l[v]:=by rw[Qg,Qb hv];rfl
 have hm:l.getD v 0∈l:=by rw[eg];exact QW hv
 have sub:∀ x∈l.eraseIdx v,x∈l/\x≠l.getD v 0:=λx hx=>by
  obtain⟨j,hj,ne,rfl⟩:=List.mem_eraseIdx_iff_getElem.mp hx;refine⟨QW hj,λe=>?_⟩;rw[eg]at e;rcases Nat.lt_or_gt_of_ne ne with h|h
  ·exact Zw.mp d.nd j v hj hv h e
  ·exact Zw.mp d.nd v j hv hj h e.symm
 refine⟨?_,by rw[Qn,d.ua];rfl,Vm (List.eraseIdx_sublist _ _) d.nd,λx hx=>d.lt x (sub x hx).1,λx hx=>?_,λx hx h=>?_⟩
 ·rw[List.length_eraseIdx_of_lt hv];have:=d.len;omega
 ·rcases QO.mp hx with h|h
  ·exact d.Fi x h
  ·rw[QF.mp h];exact d.lt _ hm
 ·rcases QO.mp h with h|h
  ·exact d.ne x (sub x hx).1 h
  ·exact(sub x hx).2 (QF.mp h)
section
variable {n:Nat}{f:Nat->Nat->Nat}(L:ba n f){z:Nat}(hz:z<n)(bz:∀ j,j<n->f z j=j){C:ck}(hC:C.Ok n f)(h5:C.p<=5)(hs:∀ w∈C.W,d9 n f w.2.2=true)
include L hz bz hC h5 hs
omit hz bz hC h5 hs in
theorem z9k(ns:List Int)(hm:m<C.p)(hp:C.p<=8):∃ l o k,Dr C.p l o m/\fP (aA 5) Ez (cE m) [some (bX ns,0),some (aN n f,9),some (bF n C,9),some (.lst (ai (range C.p)),1),some (.lst (ai []),1),none,none,none,none,none,none,none,none]=some (.nx [some (bX ns,0),some (aN n f,9),some (bF n C,9),some (.lst (ai l),1),some (.lst (ai o),1),k,none,none,none,none,none,none,none]):=by
 obtain⟨ρ',e,l,o,k,hd,rfl⟩:=kh (pt:=aA 5) (body:=Ez) (cE m) (λi ρ=>∃ l o k,Dr C.p l o i/\ρ=[some (bX ns,0),some (aN n f,9),some (bF n C,9),some (.lst (ai l),1),some (.lst (ai o),1),k,none,none,none,none,none,none,none]) [some (bX ns,0),some (aN n f,9),some (bF n C,9),some (.lst (ai (range C.p)),1),some (.lst (ai []),1),none,none,none,none,none,none,none,none] (λi hi ρ aj=>by
  obtain⟨l,o,k,hd,rfl⟩:=aj;have bS:i<m:=by rw[eY]at hi;exact hi
  have hlen:=hd.len;have nr:0<l.length:=by omega
  have h8:l.length<=8:=by omega
  obtain⟨v,hv,ev⟩:=lA ns (show 0<=201+Int.ofNat i by have:Int.ofNat i=(i:Int):=rfl;omega) nr;refine⟨[some (bX ns,0),some (aN n f,9),some (bF n C,9),some (.lst (ai l),1),some (.lst (ai o),1),some (.int (Int.ofNat i),9),none,none,none,none,none,none,none],[some (bX ns,0),some (aN n f,9),some (bF n C,9),some (.lst (ai (l.eraseIdx v)),1),some (.lst (ai (o++[l.getD v 0])),1),some (.int (Int.ofNat i),9),none,none,none,none,none,none,none],by rw[rF];rfl,.inl ?_,_,_,_,hd.pop hv,rfl⟩;have h1:ae (aK dP 3 (ae (aa 0) (ae (e2 cU (eC (.int 201)) (aa 5)) (ae (cj 3) ah)))) ah [some (bX ns,0),some (aN n f,9),some (bF n C,9),some (.lst (ai l),1),some (.lst (ai o),1),some (.int (Int.ofNat i),9),none,none,none,none,none,none,none]=some ([.int (Int.ofNat v)],[some (bX ns,0),some (aN n f,9),some (bF n C,9),some (.lst (ai l),1),some (.lst (ai o),1),some (.int (Int.ofNat i),9),none,none,none,none,none,none,none]):=
   bV (bq (ds:=[bX ns,.int (201+Int.ofNat i),.int (Int.ofNat l.length)]) (cu rfl (cu rfl (bV (yo rfl (by show some (ai l).length=_;rw[d7]))))) rfl ev)
  exact j9i rfl (j9n rfl h1 rfl hv (by omega)) rfl (by rw[d7,hd.ua];omega) (by
   show _=_;have:ai o++[.int (Int.ofNat (l.getD v 0))]=ai (o++[l.getD v 0]):=by unfold ai;rw[QU];rfl
   rw[<- this];rfl))
  ⟨range C.p,[],none,⟨by rw[QI];rfl,rfl,Jm,λx hx=>Qv.mp hx,λx hx=>(Qw hx).elim,λx _=>Qw⟩,rfl⟩
 rw[eY]at hd;exact⟨l,o,k,hd,e⟩
theorem NH(ns:List Int)(hd:Dr C.p l o i)(oV:∀ x,x∈qs ↔ x∈o){E:ck}(O:Wo n f z C qs E)(hu:h_ n f C.p (iM C) (jh C.p z) u)(q:Nat)(k a b r:OD):∃ r',AY [n0 ns,t9 n f,c9 n C,some (.lst (ai l),q),some (.lst (ai o),0),k,a,b,((v9 u)),((c9 n E)),r,none,none]=some (.nx [n0 ns,t9 n f,c9 n C,some (.lst (ai l),0),some (.lst (ai o),0),k,a,b,((v9 u)),((c9 n E)),r',none,none]):=by
 have hE:=O.ok;obtain⟨uE,lE,eE⟩:=yv L hz bz hE;rw[O.p]at lE;have tV:=hE.tV;have yq:=hE.yq;have c1:=fB (k:=1) (pt:=aA 13) (tt:=lM (bC (e2 ml (aH 13 (eC (.int 0))) (aa 4))) (bC (e2 ml (aH 13 (eC (.int 1))) (aa 4)))) (te:=aa 13) (deep:=false) (it:=cz (aH 9 (eC (.int 1)))) (ρ:=[n0 ns,t9 n f,c9 n C,some (.lst (ai l),q),some (.lst (ai o),0),k,a,b,((v9 u)),((c9 n E)),r,none,none])
  (vx (q:=9) (ds:=E.W.map (bw n)) rfl (by rw[Qc];omega)) (lZ (k:=1) (bw n) (λw=>[some (bw n w,9)]) (λ_=>false) (bw n) (λ_=>9) E.W (λw hw=>by obtain⟨n1,n2⟩:=O.w w hw;refine⟨rfl,?_,λh=>nomatch h⟩;have f1:=ED w.1 o;have f2:=ED w.2.1 o;rw[Qy λh=>n1 ((oV _).mpr h)]at f1;rw[Qy λh=>n2 ((oV _).mpr h)]at f2;exact(EE (fg (dN (q:=9) rfl (lz rfl) f1))).trans (fg (dN (q:=9) rfl (lz rfl) f2))))
 have c2:=fB (k:=1) (pt:=aA 13) (tt:=bC (e2 ml (aH 13 (eC (.int 0))) (aa 4))) (te:=aa 13) (deep:=false) (it:=cz (aH 9 (eC (.int 2)))) (ρ:=[n0 ns,t9 n f,c9 n C,some (.lst (ai l),q),some (.lst (ai o),0),k,a,b,((v9 u)),((c9 n E)),r,none,none])
  (vx (q:=9) (ds:=E.B.map cm) rfl (by rw[Qc];omega)) (lZ (k:=1) cm (λw=>[some (cm w,9)]) (λ_=>false) cm (λ_=>9) E.B (λw hw=>by have n1:=O.b w hw;refine⟨rfl,?_,λh=>nomatch h⟩;have f1:=ED w.1 o;rw[Qy λh=>n1 ((oV _).mpr h)]at f1;exact fg (dN (q:=9) rfl (lz rfl) f1)))
 rw[NF]at c1 c2;have c3:=fB (k:=1) (pt:=aA 13) (tt:=bC (e2 dk (aH 10 (aa 13)) (aH 8 (aa 13)))) (te:=aa 13) (deep:=false) (it:=cz (aa 3)) (ρ:=[n0 ns,t9 n f,c9 n C,some (.lst (ai l),q),some (.lst (ai o),0),k,a,b,((v9 u)),((c9 n E)),((v9 uE)),none,none])
  (vw (ρ1:=[n0 ns,t9 n f,c9 n C,some (.lst (ai l),0),some (.lst (ai o),0),k,a,b,((v9 u)),((c9 n E)),((v9 uE)),none,none]) (lz rfl) (by rw[d7];have:=hd.len;omega)) (lZ (k:=1) (λv:Nat=>(iD v)) (λv=>[i9 v]) (λ_=>false) (λv=>(iD v)) (λ_=>9) l (λv hv=>by refine⟨rfl,?_,λh=>nomatch h⟩;have Fj:=hd.lt v hv;have eq:=O.lo u uE hu lE v Fj λh=>hd.ne v hv ((oV v).mp h);have f1:=nJ (gv uE v) (gv u v);rw[Qr eq]at f1;exact fg (dN (rG (q:=9) rfl rfl (va (by rw[lE.V.len];exact Fj)) rfl) (rG (q:=9) rfl rfl (va (by rw[hu.V.len];exact Fj)) rfl) f1)))
 rw[NF]at c3;refine⟨v9 uE,?_⟩;refine(aU (ρ1:=[n0 ns,t9 n f,c9 n C,some (.lst (ai l),q),some (.lst (ai o),0),k,a,b,((v9 u)),((c9 n E)),r,none,none]) ((lS (fg (dN c1 rfl Fh))).trans rfl)).trans ?_;have NI:=nJ E.p C.p;rw[Qr O.p]at NI;refine(aU (ρ1:=[n0 ns,t9 n f,c9 n C,some (.lst (ai l),q),some (.lst (ai o),0),k,a,b,((v9 u)),((c9 n E)),r,none,none]) ((lS ((EE (fg (dN c2 rfl Fh))).trans (fg (dN (q:=9) (q':=9) rfl rfl NI)))).trans rfl)).trans ?_;refine(aU (dM (bq (ds:=[aN n f,bF n E]) rfl rfl eE) rfl)).trans ?_;exact(lS (fg (dN c3 rfl Fh))).trans rfl
end
theorem j6f(ns:List Int):tT [bX ns]=(b9 true):=by
 obtain⟨n,f,L,e0⟩:=j70 ns 0 (by decide);obtain⟨z,hz,bz⟩:=L.bot;obtain⟨C,hC,hs,h5,_,_,e1⟩:=y6w L hz bz ns 20 (by decide);have hn:n<=16:=L.hi;have hp1:=hC.p1;have tY:=hC.p8;obtain⟨m,hm,em⟩:=lA ns (show(0:Int)<=200 by decide) hp1;obtain⟨l,o,k,hd,e3⟩:=z9k (f:=f) (C:=C) L ns hm tY;have jx:o.length<=1000:=by have:=hd.ua;omega
 obtain⟨E1,O1,_,f1⟩:=Bs L hz bz hC h5 hs hd.Fi jx;obtain⟨E2,O2,_,f2⟩:=Bs L hz bz hC h5 hs (qs:=o.reverse) (λq hq=>hd.Fi q (List.mem_reverse.mp hq)) (by rw[Ur];exact jx);obtain⟨E3,O3,g3,f3⟩:=Bs L hz bz hC h5 hs (qs:=[]) (λq hq=>(Qw hq).elim) (Q6 _);obtain rfl:=g3 rfl;obtain⟨u,lu,eu⟩:=yv L hz bz hC;have yI:0<l.length:=by have:=hd.len;omega
 obtain⟨v,hv,e4⟩:=lA ns (show(0:Int)<=210 by decide) yI;obtain⟨pl,cA⟩:∃ pl,pl=l.getD v 0:=⟨_,rfl⟩;have Fl:pl∈l:=by rw[cA,Qg,Qb hv];exact QW hv
 have uc:=hd.lt pl Fl;obtain⟨qs,oV⟩:∃ qs,qs=(range C.p).filter λk=>!decide (k=pl):=⟨_,rfl⟩;have Fm:∀ x,x<C.p->x ∉ qs->x=pl:=λx hx h=>by
  by_cases e:x=pl
  ·exact e
  ·exact absurd (by rw[oV];exact QS.mpr ⟨Qv.mpr hx,by rw[Qy e];rfl⟩) h
 have hpq:pl ∉ qs:=λh=>by rw[oV]at h;have:=(QS.mp h).2;rw[Qr rfl]at this;cases this
 obtain⟨E4,O4,_,f4⟩:=Bs L hz bz hC h5 hs (qs:=qs) (λq hq=>by rw[oV]at hq;exact Qv.mp (QS.mp hq).1) (by rw[oV];have:=Q7 (λk=>!decide (k=pl)) (range C.p);rw[QI]at this;omega);obtain⟨u4,Fn,eu4⟩:=yv L hz bz O4.ok;rw[O4.p]at Fn;have w1:E4.W.length<=1:=by
  have:=qf O4.jd.w (m:=[(pl,pl)]) λx hx=>by obtain⟨w,hw,rfl⟩:=Qk.mp hx;obtain⟨a1,a2⟩:=O4.w w hw;have b1:=(O4.ok.ws w hw).1;have b2:=(O4.ok.ws w hw).2.1;rw[O4.p]at b1 b2;rw[Fm _ b1 a1,Fm _ b2 a2];exact QF.mpr rfl
  unfold pW at this;rw[Qc]at this;exact this
 have b1:E4.B.length<=1:=by
  have:=qf O4.jd.b (m:=[pl]) λx hx=>by obtain⟨b,hb,rfl⟩:=Qk.mp hx;have b1:=(O4.ok.bs b hb).1;rw[O4.p]at b1;rw[Fm _ b1 (O4.b b hb)];exact QF.mpr rfl
  rw[Qc]at this;exact this
 have yJ:gv u4 pl=gv u pl:=O4.lo u u4 lu Fn pl uc hpq;have e5:∀ (x6 x7:D),∃ r t,fP (aA 9) AY [bF n E1,bF n E2] [n0 ns,t9 n f,c9 n C,((uL l)),some (.lst (ai o),0),k,((c9 n E1)),((c9 n E2)),((v9 u)),none,none,none,none]=some (.nx [n0 ns,t9 n f,c9 n C,some (.lst (ai l),0),some (.lst (ai o),0),k,((c9 n E1)),((c9 n E2)),((v9 u)),t,r,none,none]):=λ_ _=>by
  obtain⟨ρ',e,q,r,t,hq,rfl⟩:=kh (pt:=aA 9) (body:=AY) [bF n E1,bF n E2] (λi ρ=>∃ q r t,(i≠0->q=0)/\ρ=[n0 ns,t9 n f,c9 n C,some (.lst (ai l),q),some (.lst (ai o),0),k,((c9 n E1)),((c9 n E2)),((v9 u)),t,r,none,none]) [n0 ns,t9 n f,c9 n C,((uL l)),some (.lst (ai o),0),k,((c9 n E1)),((c9 n E2)),((v9 u)),none,none,none,none] (λi hi ρ aj=>by
   obtain⟨q,r,t,_,rfl⟩:=aj;cases i with
   | zero=>
    obtain⟨r',h⟩:=NH L hz bz hC h5 hs ns hd (λ_=>Iff.rfl) O1 lu q k ((c9 n E1)) ((c9 n E2)) r;exact⟨_,_,rfl,.inl h,0,r',_,λ_=>rfl,rfl⟩
   | succ i=>
    cases i with
    | zero=>
     obtain⟨r',h⟩:=NH L hz bz hC h5 hs ns hd (λ_=>List.mem_reverse) O2 lu q k ((c9 n E1)) ((c9 n E2)) r;exact⟨_,_,rfl,.inl h,0,r',_,λ_=>rfl,rfl⟩
    | succ i=>exact absurd hi (by show ¬ i+1+1<2;omega))
   ⟨1,none,none,λh=>absurd rfl h,rfl⟩
  obtain rfl:=hq (show 2≠0 by decide);exact⟨r,t,e⟩
 obtain⟨r,t,e5⟩:=e5 .bK .bK;have NJ:=fB (k:=1) (pt:=aA 13) (tt:=bC (e2 dk (aa 13) (aa 11))) (te:=aa 13) (deep:=false) (it:=cL (ae (aH 2 (eC (.int 0))) ah)) (ρ:=[n0 ns,t9 n f,c9 n C,some (.lst (ai l),0),some (.lst (ai o),0),k,((c9 n E1)),((c9 n E2)),((v9 u)),t,r,((i9 pl)),none])
  (tW (m:=C.p) (by omega) (q:=9) rfl) (lZ (k:=1) (λv:Nat=>(iD v)) (λv=>[i9 v]) (λv=>!decide (v=pl)) (λv=>(iD v)) (λ_=>9) (range C.p) (λv hv=>⟨rfl,fg (dN rfl rfl (nJ _ _)),λ_=>rfl⟩))
 rw[show((range C.p).filter λv=>!decide (v=pl)).map (λv=>(iD v))=ai qs by rw[oV];rfl]at NJ;unfold tT MM;refine dG ?_;show aJ _ _ [n0 ns,none,none,none,none,none,none,none,none,none,none,none,none]=_;refine(aU (dM (bq (ds:=[bX ns,.int 0]) rfl rfl e0) rfl)).trans ?_;refine(aU (dM (bq (ds:=[bX ns,.int 20,aN n f,.bl true]) rfl rfl e1) rfl)).trans ?_;refine(aU (dM (AH (tW (m:=C.p) (by omega) (q:=9) rfl)) rfl)).trans ?_;refine(aU (ρ1:=[n0 ns,t9 n f,c9 n C,((uL (range C.p))),some (.lst (ai []),1),none,none,none,none,none,none,none,none]) rfl).trans ?_;refine(aU ((gZ (tW (m:=m) (by omega) (bq (ds:=[bX ns,.int 200,iD C.p]) rfl rfl em))).trans e3)).trans ?_;refine(aU (ρ1:=[n0 ns,t9 n f,c9 n C,((uL l)),some (.lst (ai o),0),k,((c9 n E1)),none,none,none,none,none,none]) (dM (bq (ds:=[aN n f,bF n C,.lst (ai o)]) rfl rfl f1) rfl)).trans ?_;have Fp:ai o.reverse=(ai o).reverse:=by unfold ai;rw[List.map_reverse]
 refine(aU (ρ1:=[n0 ns,t9 n f,c9 n C,((uL l)),some (.lst (ai o),0),k,((c9 n E1)),((c9 n E2)),none,none,none,none,none]) (dM (bq (ds:=[aN n f,bF n C,.lst (ai o).reverse]) rfl rfl (by rw[<- Fp];exact f2)) rfl)).trans ?_;refine(aU (dM (bq (ds:=[aN n f,bF n C]) rfl rfl eu) rfl)).trans ?_;refine(aU ((gZ (vx (q:=9) (ds:=[bF n E1,bF n E2]) rfl (by show 2<=1000;decide))).trans e5)).trans ?_;refine(aU (ρ1:=[n0 ns,t9 n f,c9 n C,some (.lst (ai l),0),some (.lst (ai o),0),k,((c9 n E1)),((c9 n E2)),((v9 u)),t,r,none,none]) ((lS (fg (dN (bq (ds:=[aN n f,bF n C,.lst []]) rfl rfl f3) (bq (ds:=[aN n f,bF n C]) rfl rfl (E7 L hz bz hC)) (z6s n _)))).trans rfl)).trans ?_;have h11:aH 3 (aK dP 3 (ae (aa 0) (ae (eC (.int 210)) (ae (cj 3) ah)))) [n0 ns,t9 n f,c9 n C,some (.lst (ai l),0),some (.lst (ai o),0),k,((c9 n E1)),((c9 n E2)),((v9 u)),t,r,none,none]=some ((iD pl),9,[n0 ns,t9 n f,c9 n C,some (.lst (ai l),0),some (.lst (ai o),0),k,((c9 n E1)),((c9 n E2)),((v9 u)),t,r,none,none]):=
  rG (bq (ds:=[bX ns,.int 210,iD l.length]) (cu rfl (cu rfl (bV (yo rfl (by show some (ai l).length=_;rw[d7]))))) rfl e4) rfl (by rw[cA];exact AJ (by rw[Qg,Qb hv];rfl)) rfl
 refine(aU (dM h11 rfl)).trans ?_;refine(aU (dM (bq (ds:=[aN n f,bF n C,.lst (ai qs)]) (cu rfl (cu rfl (bV NJ))) rfl f4) rfl)).trans ?_;have gt:∀ {k:Nat},k<=1->sC (iD k) (.int 1)=some (.bl false):=λ{k} hk=>by show some (D.bl (decide ((1:Int)<Int.ofNat k)))=_;rw[Qy (by show ¬ (1:Int)<(k:Int);omega)]
 have t12:lM (bC (e2 sC (eB mq (ae (aH 12 (eC (.int 1))) ah)) (eC (.int 1)))) (bC (e2 sC (eB mq (ae (aH 12 (eC (.int 2))) ah)) (eC (.int 1)))) [n0 ns,t9 n f,c9 n C,some (.lst (ai l),0),some (.lst (ai o),0),k,((c9 n E1)),((c9 n E2)),((v9 u)),t,r,((i9 pl)),((c9 n E4))]=some (false,[n0 ns,t9 n f,c9 n C,some (.lst (ai l),0),some (.lst (ai o),0),k,((c9 n E1)),((c9 n E2)),((v9 u)),t,r,((i9 pl)),((c9 n E4))]):=
  (EE (fg (dN (x:=(iD E4.W.length)) (q:=9) (q':=9) (by
    show some (D.int (Int.ofNat (E4.W.map (bw n)).length),9,_)=_;rw[Qc]) rfl (gt w1)))).trans (fg (dN (x:=(iD E4.B.length)) (q:=9) (q':=9) (by show some (D.int (Int.ofNat (E4.B.map cm).length),9,_)=_;rw[Qc]) rfl (gt b1)))
 refine(aU (ρ1:=[n0 ns,t9 n f,c9 n C,some (.lst (ai l),0),some (.lst (ai o),0),k,((c9 n E1)),((c9 n E2)),((v9 u)),t,r,((i9 pl)),((c9 n E4))]) ((lS t12).trans rfl)).trans ?_;have yK:=rj (gv u4 pl) (gv u pl);rw[Qr yJ]at yK;exact fC (dN (Ba (bq (ds:=[aN n f,bF n E4]) rfl rfl eu4) rfl (va (by rw[Fn.V.len];exact uc)) rfl rfl) (rG (q:=9) rfl rfl (va (by rw[lu.V.len];exact uc)) rfl) yK)
theorem nW(ns:List Int)(Nj:ns.length<=63):∃ q,vp [.lst (ns.map D.int)]=some (.bl true,q):=by obtain⟨x,e⟩:=z9r Nj (m:=3) (by decide) j6f;refine⟨9,?_⟩;unfold vp MR;refine dG ?_;exact(aU e).trans rfl
def A0 (K:PySem.W.Frag)(mg:Str->Option Value)(x:Str)(st:Stmt):Prop:=∃ f fd,mV K x x st f fd/\mg x=some (.ref f)
theorem A0.mk{K:PySem.W.Frag}{h:Heap}{mg:Str->Option Value}{x:Str}{f:Addr}{od an:Option Addr}{sl:Array (Option Value)}{oc kV dc pm cd ct:Value}(X:K.In h)(G:h.Ns mainGlobals mg)(a:PySem.W.nsIn K mainGlobals x=some (some (.ref f)))(l:K.lookup f=some ⟨oc,od,.func (PySem.W.fnOf x x (qD st) (kR st) (bB st) .none kV dc pm an cd ct),sl⟩)(c:PySem.W.codeIn K cd x=true)(k:PySem.W.keepIn K (.ref f)=true):A0 K mg x st:=⟨_,_,Ge l c k,PySem.W.mg_of X G a⟩
theorem A0.at{K:PySem.W.Frag}{mg:Str->Option Value}{x:Str}{ps:List Str}(a:A0 K mg x st)(h:∀ (kV doc pm:Value) (an:Option Addr) (cO ct:Value) (us:List Value),us.length=ps.length->bindArgs (PySem.W.fnOf x x (qD st) (kR st) (bB st) .none kV doc pm an cO ct) ⟨us,[]⟩=pure (ps.zip us):=by intro _ _ _ _ _ _ us h;first|(obtain⟨_,rfl⟩:=L3.lR h;rfl)|(obtain⟨_,_,rfl⟩:=L3.fV h;rfl)|(obtain⟨_,_,_,rfl⟩:=L3.lV h;rfl)|(obtain⟨_,_,_,_,rfl⟩:=L3.Eh h;rfl)):At K mg x st ps:=by obtain⟨f,fd,F,m⟩:=a;exact⟨f,fd,F,m,F.binds h⟩
theorem all_mk{l:PySem.W.OpenLaw}{w:World}{K:PySem.W.Frag}{h:Heap}{mg:Str->Option Value}{fa:Addr}{Fq:Addr}{Fs yL:Option Addr}{Ft:Array (Option Value)}{Fu yM yN yO ud yP:Value}(X:K.In h)(G:h.Ns mainGlobals mg)(hfa:mg "law" = some (.ref fa))
  (A1:A0 K mg "_law_cell" (top 45))
  (A2:A0 K mg "_law_pick" (top 46))
  (A3:A0 K mg "_law_chain" (top 47))
  (A4:A0 K mg "_law_couples" (top 48))
  (A5:A0 K mg "_law_side_by_side" (top 49))
  (A6:A0 K mg "_law_base" (top 50))
  (A7:A0 K mg "_law_ladder" (top 51))
  (A8:A0 K mg "_law_low" (top 52))
  (A9:A0 K mg "_law_join" (top 53))
  (A10:A0 K mg "_law_under" (top 54))
  (A11:A0 K mg "_law_rule" (top 55))
  (A12:A0 K mg "_law_spreads" (top 56))
  (A13:A0 K mg "_law_spread_rule" (top 57))
  (A14:A0 K mg "_law_chart" (top 58))
  (A15:A0 K mg "joined_rules" (top 20))
  (A16:A0 K mg "ways_joined" (top 31))
  (A17:A0 K mg "begins_joined" (top 32))
  (A18:A0 K mg "joined_ways" (top 30))
  (A19:A0 K mg "is_whole" (top 6))
  (A20:A0 K mg "is_number_of" (top 7))
  (A21:A0 K mg "refuse_no_place" (top 26))
  (A22:A0 K mg "steady" (top 18))
  (A23:A0 K mg "is_row_of" (top 8))
  (A24:A0 K mg "is_rule" (top 16))
  (A25:A0 K mg "is_below" (top 13))
  (A26:A0 K mg "below" (top 14))
  (A27:A0 K mg "rises" (top 17))
  (A28:A0 K mg "is_rising_rule" (top 21))
  (A29:A0 K mg "refuse_unrising" (top 22))
  (A30:A0 K mg "least_kept" (top 24))
  (A31:A0 K mg "again_and_again" (top 23))
  (A32:A0 K mg "row_of_least" (top 11))
  (A33:A0 K mg "least_of" (top 12))
  (A34:A0 K mg "loop_at" (top 29))
  (A35:A0 K mg "after" (top 19))
  (A36:A0 K mg "without_place" (top 28))
  (A37:A0 K mg "without_places" (top 33))
  (A38:A0 K mg "is_named_number" (top 9))
  (A39:A0 K mg "is_step" (top 38))
  (A40:A0 K mg "refuse_no_step" (top 39))
  (A41:A0 K mg "place_and_worth" (top 40))
  (A42:A0 K mg "worths_behind" (top 41))
  (A43:A0 K mg "risen" (top 42))
  (A44:A0 K mg "lowest" (top 35))
  (A45:A0 K mg "least_by" (top 43))
  (A46:A0 K mg "all_steps" (top 37))
  (A47:A0 K mg "least" (top 36))
  (A48:A0 K mg "_law_once" (top 59))
  (a49:PySem.W.nsIn K mainGlobals "law" = some (some (.ref Fq))) (l49:K.lookup Fq=some ⟨Fu,Fs,.func (PySem.W.fnOf "law" "law" (qD (top 60)) (kR (top 60)) (bB (top 60)) .none yM yN yO yL ud yP),Ft⟩) (c49:PySem.W.codeIn K ud "law" = true) (k49:PySem.W.keepIn K (.ref Fq)=true)
  (z1:PySem.W.nsIn K mainGlobals "all" = some none) (z2:PySem.W.nsIn K mainGlobals "bool" = some none) (z3:PySem.W.nsIn K mainGlobals "int" = some none) (z4:PySem.W.nsIn K mainGlobals "isinstance" = some none) (z5:PySem.W.nsIn K mainGlobals "len" = some none) (z6:PySem.W.nsIn K mainGlobals "list" = some none) (z7:PySem.W.nsIn K mainGlobals "max" = some none) (z8:PySem.W.nsIn K mainGlobals "range" = some none) (z9:PySem.W.nsIn K mainGlobals "set" = some none) (z10:PySem.W.nsIn K mainGlobals "sorted" = some none) (z11:PySem.W.nsIn K mainGlobals "str" = some none) (z12:PySem.W.nsIn K mainGlobals "tuple" = some none) (z13:PySem.W.nsIn K mainGlobals "zip" = some none) :
  ∃ fd:FuncData,(∀ (s:Shared) (v:Value),BindsTo s fd ⟨[v],[]⟩ [("_law_script",v)])/\∀ base:Heap,K.In base->base.Ns mainGlobals mg->eU l.prog w K mg base jZ 12 fa fd ["_law_script"] (lL K 1 vp):=by have e:=hfa.symm.trans (PySem.W.mg_of X G a49);cases e;have B:Bt mg:=⟨Ze X G z1,Ze X G z2,Ze X G z3,Ze X G z4,Ze X G z5,Ze X G z6,Ze X G z7,Ze X G z8,Ze X G z9,Ze X G z10,Ze X G z11,Ze X G z12,Ze X G z13⟩;refine⟨PySem.W.fnOf "law" "law" (qD (top 60)) (kR (top 60)) (bB (top 60)) .none yM yN yO yL ud yP,λs v=>.of_eq rfl,λbase KX NG=>?_⟩;have jQ:=y94 (P:=l.prog) (w:=w) (base:=base) B A1.at;have bW:=y9w B jQ A2.at;have ji:=y88 (P:=l.prog) (w:=w) (base:=base) B A3.at;have ia:=y3q (P:=l.prog) (w:=w) (base:=base) B A4.at;have d_:=x8q (P:=l.prog) (w:=w) (base:=base) B A5.at;have jR:=y9r B bW ji ia d_ A6.at;have iN:=y6g B jR bW A7.at;have ib:=z2c (P:=l.prog) (w:=w) (base:=base) B A8.at;have jS:=y90 B ib A9.at;have jj:=y7e (P:=l.prog) (w:=w) (base:=base) B A10.at;have fY:=y98 B ib bW jS jj A11.at;have ic:=y3z (P:=l.prog) (w:=w) (base:=base) B A12.at;have eO:=x91 B fY ic bW A13.at;have jk:=y8e B bW fY eO A14.at;have dX:=y3r (P:=l.prog) (w:=w) (base:=base) B A15.at;have iO:=y6h B dX A16.at;have gy:=y2s (P:=l.prog) (w:=w) (base:=base) B A17.at;have eA:=y69 B iO gy A18.at;have kH:=z2s (P:=l.prog) (w:=w) (base:=base) B A19.at;have cQ:=y3n B kH A20.at;have fj:=y0t B cQ A21.at;have nX:=z8a (P:=l.prog) (w:=w) (base:=base) B A22.at;have jT:=y9i B cQ A23.at;have l7:=z4v B jT A24.at;have eP:=z39 (P:=l.prog) (w:=w) (base:=base) B A25.at;have qh:=j39 B eP A26.at;have qk:=j4f B qh eP A27.at;have fJ:=y1n B l7 qk A28.at;have fm:=y04 B fJ A29.at;have jo:=y7z B eP A30.at;have fq:=y0o B fm jo A31.at;have ie:=y41 (P:=l.prog) (w:=w) (base:=base) B A32.at;have eQ:=z2f B ie A33.at;have l8:=z4k B nX eQ dX fq A34.at;have qo:=j1k (P:=l.prog) (w:=w) (base:=base) B A35.at;have gz:=y2r B fj l8 qo eQ A36.at;have fK:=y1m B eA gz A37.at;have fu:=y0p B cQ A38.at;have l9:=z60 B fu A39.at;have fL:=y1p B l9 A40.at;have fx:=y0k (P:=l.prog) (w:=w) (base:=base) B A41.at;have gA:=y2j B fx A42.at;have qp:=j4e B gA A43.at;have nY:=z8o B eQ A44.at;have kI:=z3a B fL qp nY A45.at;have jU:=y9f (P:=l.prog) (w:=w) (base:=base) B A46.at;have qq:=j15 B kI jU A47.at;have jV:=y9o B iN jk bW fK qq eA A48.at;exact j4q B jV (Ge (st:=top 60) l49 c49 k49)
theorem walk{l:PySem.W.OpenLaw}{q:Program}{loose:List Str}{XP:(Str->Option Value)->Heap->Prop}{YP:World->Heap->Prop}{d:DefRec}{K:Params->PySem.W.Frag}(hn:l.most=some 63)(v8:d.params.defaults=[])
  (hY:∀ (w:World) (h:Heap),YP w h->(K w.params).In h)
  (F:∀ (w:World) (mg:Str->Option Value) (fa:Addr) (h:Heap),(K w.params).In h->h.Ns mainGlobals mg->mg d.name=some (.ref fa)->(∀ x∈uv,PySem.W.tabIn (K w.params) x=none) /\
    ∃ fd:FuncData,(∀ (s:Shared) (u:Value),BindsTo s fd ⟨[u],[]⟩ [("_law_script",u)])/\∀ base:Heap,(K w.params).In base->base.Ns mainGlobals mg->eU l.prog w (K w.params) mg base jZ 12 fa fd ["_law_script"] (lL (K w.params) 1 vp)) :
  PySem.W.WalkO q loose XP YP l.row.toRowW d [] (λf vs=>PySem.call f vs):=
 z73 (n:=63) (k:=12) (x:="_law_script") (F0:=vp) hn (by decide) v8 ⟨rfl,by decide,by decide⟩ hY F λ_ _ a ns hl tb hS=>UU nW hl hS tb
end My
namespace PySem.W.Fast
def tw10023136724570331910:=0
def tw10123348703200669117:=0
def tw10153425593484431522:=0
def tw10172423547152226400:=0
def tw10224495419185485433:=0
def tw1023701220628441238:=0
def tw10411560035994426877:=0
def tw1042571121249356456:=0
def tw10433013372269580224:=0
def tw10454314178228514523:=0
def tw10483012798846906210:=0
def tw10483676611426177444:=0
def tw10566778142205073747:=0
def tw10592252082521149108:=0
def tw10707748799551457977:=0
def tw10714126203437845333:=0
def tw10740730511609273982:=0
def tw10778101082425011113:=0
def tw10788979478221952999:=0
def tw10843536156192743382:=0
def tw10869766156923443190:=0
def tw10926866030941222880:=0
def tw10945193088238197134:=0
def tw11018596017067072595:=0
def tw11092520966350698505:=0
def tw111033503266018319:=0
def tw11199047041491263477:=0
def tw11210910481659962695:=0
def tw11259083394247323002:=0
def tw11315506796938891223:=0
def tw11385724403472161814:=0
def tw11430828320286795057:=0
def tw11442520718590691185:=0
def tw11493813916491305170:=0
def tw11506634485635752082:=0
def tw11516981123729191396:=0
def tw11647394558039295250:=0
def tw11668438032628116466:=0
def tw11678090964149787354:=0
def tw11771821610967703109:=0
def tw11777499752761949218:=0
def tw11779076626138792685:=0
def tw11790216959565150407:=0
def tw11794969934526489507:=0
def tw11935123138520241639:=0
def tw11972158147621847285:=0
def tw12037763621645205612:=0
def tw1209919542567354972:=0
def tw12122533096484826331:=0
def tw1216998659878973009:=0
def tw12178833302612123335:=0
def tw12291646281105829025:=0
def tw12292331479796408340:=0
def tw12323047005134579066:=0
def tw12402453630415515878:=0
def tw12420452606838755945:=0
def tw12455995496956194753:=0
def tw12488239789054423587:=0
def tw12537282991165814964:=0
def tw12599994486222941679:=0
def tw12714674077637526109:=0
def tw12729622485892562202:=0
def tw12737924394763463081:=0
def tw12781670388954168330:=0
def tw1278629831164211464:=0
def tw12793258771267869139:=0
def tw12799976637381563974:=0
def tw12837140690076844891:=0
def tw13002817939116032786:=0
def tw13032068199057042260:=0
def tw13048962613350321576:=0
def tw13088065253896837003:=0
def tw13172646419841648200:=0
def tw13217553205285571559:=0
def tw13239617719768036959:=0
def tw13247450972346383746:=0
def tw13272213317639584249:=0
def tw13298371361473956407:=0
def tw1333623023963142866:=0
def tw1351461001292131178:=0
def tw13524940198530963205:=0
def tw13541575451745367449:=0
def tw13546082602963416391:=0
def tw13552403805135338735:=0
def tw1358872423727035145:=0
def tw13762803497161293479:=0
def tw13818217279376959677:=0
def tw1383334302535359853:=0
def tw13988499622115631241:=0
def tw14201413024064257100:=0
def tw14367798539920092312:=0
def tw14369001019139082106:=0
def tw1443087141445671439:=0
def tw14560393499669082566:=0
def tw14578393948317839918:=0
def tw14618651920629925984:=0
def tw14643703760539218114:=0
def tw14671735495480493884:=0
def tw14795018388745471206:=0
def tw14801531850829140269:=0
def tw14828816197813346195:=0
def tw14841371116949182599:=0
def tw14903631356629386043:=0
def tw14917169893863751131:=0
def tw14930014417926222285:=0
def tw15108578512769542069:=0
def tw15352096930596016838:=0
def tw15391122650785943757:=0
def tw15597470137700159366:=0
def tw15627122358859641347:=0
def tw15650366637421752598:=0
def tw15653056313828841310:=0
def tw15698627655464646538:=0
def tw15705516655780996500:=0
def tw15746944968015004403:=0
def tw15748491455709436402:=0
def tw15966875877670701604:=0
def tw16006136258559345720:=0
def tw16031443916433529113:=0
def tw16061704241782679968:=0
def tw16069489807172903138:=0
def tw16087619869861782650:=0
def tw16147150556373639088:=0
def tw16159792057500459654:=0
def tw16234747035739408584:=0
def tw16260676010561206459:=0
def tw16303936209357651721:=0
def tw16315119868216598807:=0
def tw16347435873377281901:=0
def tw16351058132538937561:=0
def tw16354207562860433614:=0
def tw16508068568345208019:=0
def tw16532258993938831366:=0
def tw1657163451574367520:=0
def tw16625148654573339838:=0
def tw16660759497021946882:=0
def tw16678583320933709957:=0
def tw16690735877163582209:=0
def tw16699920589003481571:=0
def tw1690411725112283115:=0
def tw17008353374334117011:=0
def tw17052791779681689411:=0
def tw17184012565583980008:=0
def tw17186492655134976276:=0
def tw17216031591843994462:=0
def tw17327123800542992639:=0
def tw17349149681675503554:=0
def tw17383514306132385141:=0
def tw17435868493369663398:=0
def tw17446255864120537163:=0
def tw17503740500796573293:=0
def tw17598872885382179092:=0
def tw17614041919838509662:=0
def tw17616037800171330669:=0
def tw17619947416004861738:=0
def tw17725963027269442555:=0
def tw17739884593602242181:=0
def tw17901162352141415278:=0
def tw17938884731701552088:=0
def tw18018439483777751828:=0
def tw18103369302801712586:=0
def tw18106857442872568272:=0
def tw18141473606308508040:=0
def tw18189354778546975475:=0
def tw18254564847759529371:=0
def tw18258451305469574774:=0
def tw18357149597390444796:=0
def tw18381639066709282881:=0
def tw18415355763091514234:=0
def tw18421983742833203816:=0
def tw18431245349613479127:=0
def tw1899837567068384206:=0
def tw190364793373882840:=0
def tw2032132302567086237:=0
def tw2068635954362043385:=0
def tw2155215491545779547:=0
def tw2161407988688495003:=0
def tw2199010187009890795:=0
def tw2237417897689932544:=0
def tw2245558981934635339:=0
def tw2294828113158876141:=0
def tw2389312524049345640:=0
def tw2409180483270819749:=0
def tw2460302253852774153:=0
def tw2494033651643664684:=0
def tw2542501670941073478:=0
def tw2588374363734784682:=0
def tw2606256590923472862:=0
def tw2632991790846373519:=0
def tw2648319658621854854:=0
def tw2656368567025868042:=0
def tw2720813748035054679:=0
def tw2789996733519187564:=0
def tw2820307456731154440:=0
def tw2980147139904810808:=0
def tw3061127874182926509:=0
def tw3106650328827898093:=0
def tw3126589941114875876:=0
def tw3169438241507068574:=0
def tw3172637755893020793:=0
def tw3194832737120011485:=0
def tw3243216155294007898:=0
def tw3251666540834251899:=0
def tw3274574985578652475:=0
def tw3294668889467498627:=0
def tw3355748975951324108:=0
def tw3378200946600287602:=0
def tw3635299661891157179:=0
def tw3698905253325719048:=0
def tw3803687678953216018:=0
def tw3844157309599330468:=0
def tw3849659552490965758:=0
def tw3854529790226797896:=0
def tw3879557652181521718:=0
def tw3933259042477076447:=0
def tw3987077438026856795:=0
def tw4028733189552079993:=0
def tw4052602771546435243:=0
def tw4112761809695648043:=0
def tw4182936910978507142:=0
def tw4228952795470815846:=0
def tw4260182756299675108:=0
def tw4282485788875095696:=0
def tw4296202867156411093:=0
def tw4331406130611571823:=0
def tw4338179110919614782:=0
def tw4359968703213984252:=0
def tw4413621613422016773:=0
def tw4451810479496293880:=0
def tw4466847336190953026:=0
def tw4480276886650496069:=0
def tw4622963982493470777:=0
def tw4711411189611944035:=0
def tw4719152386359145355:=0
def tw4801785689154923709:=0
def tw4845299381120409539:=0
def tw4864456183324900794:=0
def tw4875335891982638343:=0
def tw4912050851550434736:=0
def tw4913862952640407025:=0
def tw4939835728052416431:=0
def tw5027480370334465081:=0
def tw5059302588216457773:=0
def tw5230481609880890339:=0
def tw5250661266122974131:=0
def tw5266541505812769394:=0
def tw5276048436527082065:=0
def tw5286049550671242357:=0
def tw5290917563072612316:=0
def tw5309156329218893747:=0
def tw5309841809461532301:=0
def tw5337647777239460700:=0
def tw5341470873383791808:=0
def tw5376746459280048164:=0
def tw5401093328496371932:=0
def tw5422847428264789593:=0
def tw5481279553519925422:=0
def tw5499872548958115483:=0
def tw5523820682294022504:=0
def tw5601760690045101610:=0
def tw5650261075542847264:=0
def tw5715676074235081671:=0
def tw571582866108481152:=0
def tw5754509610025005384:=0
def tw5795166969566258980:=0
def tw5833452847700200059:=0
def tw5850376607745424072:=0
def tw5859658475096257197:=0
def tw590771846656161768:=0
def tw5976845691376160061:=0
def tw5989220925100141973:=0
def tw607850752752878666:=0
def tw6081661289525132231:=0
def tw6204144449638209983:=0
def tw6291020350413597059:=0
def tw6291499879780833486:=0
def tw6349280908341690736:=0
def tw6398554177120204347:=0
def tw6410441779838974538:=0
def tw643815989998626242:=0
def tw6718111527466596905:=0
def tw6757869187218849746:=0
def tw6778667421555206087:=0
def tw6883643976129873779:=0
def tw68974916652003590:=0
def tw6950395945421496962:=0
def tw7052511298306251207:=0
def tw7148852164192659205:=0
def tw7254213117302224260:=0
def tw7262491029114845126:=0
def tw7333636568637746756:=0
def tw7442020666527341162:=0
def tw7461617129154211958:=0
def tw748778422625039755:=0
def tw7625777244179756804:=0
def tw7669981525608047532:=0
def tw7997426413630147429:=0
def tw8046114761725162258:=0
def tw8070566646403638417:=0
def tw8088745143327774251:=0
def tw8095645742692712109:=0
def tw8105427555788148809:=0
def tw8151819115421931770:=0
def tw8209051920704375974:=0
def tw8211491598415575117:=0
def tw824752765220022311:=0
def tw8249163098913849829:=0
def tw8288492885579857590:=0
def tw8336480800469746855:=0
def tw8417284372158617124:=0
def tw8490996941333348705:=0
def tw8528394671356409371:=0
def tw8547539658348839051:=0
def tw8580871476998359562:=0
def tw8585905940732295882:=0
def tw8595572610875681490:=0
def tw8627784053969099660:=0
def tw8717435205527797488:=0
def tw8757042046937660670:=0
def tw8757747452585113338:=0
def tw8812572841962514824:=0
def tw8825479613535954450:=0
def tw883840505964540570:=0
def tw8930838630796943297:=0
def tw8934669597992077056:=0
def tw9013006302063141158:=0
def tw9034515495140329947:=0
def tw9069208038908517591:=0
def tw9196392309692738890:=0
def tw9285907704947138262:=0
def tw9325682696850922280:=0
def tw9401854661468285487:=0
def tw9406390049091285115:=0
def tw9438542312223899920:=0
def tw9503507045059452818:=0
def tw9536968959504436013:=0
def tw9633767617506975973:=0
def tw9676055195893704525:=0
def tw9718098648340642241:=0
def tw9862415444299223265:=0
def tw9887941230486616003:=0
def tw9907385381741967030:=0
def tw9927123426640669604:=0
end PySem.W.Fast
open PySem PySem.W PyProof.Rows
set_option maxRecDepth 100000 in
set_option maxHeartbeats 0 in
theorem PySem.Challenge.cw_ladderhall_k72_whole_without_many_holds : PySem.Challenge.rw_ladderhall_k72_whole_without_many.Holds := by
  w_on; o_law; k_head; (case hw => w_witness2)
  k_fill
  refine My.walk (l := PySem.Challenge.rw_ladderhall_k72_whole_without_many) rfl rfl (fun w h Y => PySem.W.kIn_of Y) ?F
  case F =>
    intro w mg fa h KX G hmg
    refine' ⟨L3.T0.of ?r1 ?r2 ?r3 ?r4 ?r5 ?r6, ?al⟩
    (case r1 => refine' L3.j8x ?_; k_is)
    (case r2 => refine' L3.j8x ?_; k_is)
    (case r3 => refine' L3.j8x ?_; k_is)
    (case r4 => refine' L3.j8x ?_; k_is)
    (case r5 => refine' L3.j8x ?_; k_is)
    (case r6 => refine' L3.j8x ?_; k_is)
    refine' My.all_mk KX G hmg ?A1 ?A2 ?A3 ?A4 ?A5 ?A6 ?A7 ?A8 ?A9 ?A10 ?A11 ?A12 ?A13 ?A14 ?A15 ?A16 ?A17 ?A18 ?A19 ?A20 ?A21 ?A22 ?A23 ?A24 ?A25 ?A26 ?A27 ?A28 ?A29 ?A30 ?A31 ?A32 ?A33 ?A34 ?A35 ?A36 ?A37 ?A38 ?A39 ?A40 ?A41 ?A42 ?A43 ?A44 ?A45 ?A46 ?A47 ?A48 ?a49 ?l49 ?c49 ?k49 ?z1 ?z2 ?z3 ?z4 ?z5 ?z6 ?z7 ?z8 ?z9 ?z10 ?z11 ?z12 ?z13
    (case A1 | A2 | A3 | A4 | A5 | A6 | A7 | A8 | A9 | A10 | A11 | A12 | A13 | A14 | A15 | A16 | A17 | A18 | A19 | A20 | A21 | A22 | A23 | A24 | A25 | A26 | A27 | A28 | A29 | A30 | A31 | A32 | A33 | A34 | A35 | A36 | A37 | A38 | A39 | A40 | A41 | A42 | A43 | A44 | A45 | A46 | A47 | A48 => refine' My.A0.mk KX G ?a ?l ?c ?k; (case a => k_is); (case l => k_is); (case c => k_is); (case k => k_is))
    (case a49 | l49 | c49 | k49 | z1 | z2 | z3 | z4 | z5 | z6 | z7 | z8 | z9 | z10 | z11 | z12 | z13 => k_is)
